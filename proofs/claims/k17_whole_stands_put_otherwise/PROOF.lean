import PyProof.Rows.All
import Wide.All
import OpenK.AllK
import Wide.FinOn
import Lean
import PyProof.EqAt
import PyProof.EqKinds
import PyProof.TupleCall
import PySem.Challenge.RW_evenpieces_k17_whole_stands_put_otherwis
set_option Elab.async false
set_option linter.all false
set_option maxRecDepth 100000
namespace L2
open PySem PySem.Spec PyProof.Rows
abbrev Key:=Sum Int Str
def keyIs:Key->Value->Bool
 |.inl k,v=>Value.isInt k v
 |.inr x,v=>Value.isStrOf x v
def keyH(w:World):Key->Int
 |.inl k=>hashInt k
 |.inr x=>hashStr w x
theorem ao_:∀{k:Key} {v:Value},keyIs k v=true->(∃i t,k=Sum.inl i/\v=Value.int i t)∨(∃x t,k=Sum.inr x/\v=Value.str x t)
 |.inl i,v,h=>by
  obtain⟨t,e⟩:=Value.isInt_shape (k:=i) (v:=v) h
  exact .inl ⟨i,t,rfl,e⟩
 |.inr x,v,h=>by
  obtain⟨t,e⟩:=Value.isStrOf_shape (x:=x) (v:=v) h
  exact .inr ⟨x,t,rfl,e⟩
theorem gC_(i:Int)(t:Tok):keyIs (.inl i) (.int i t)=true:=by simp[keyIs,Value.isInt]
theorem gQ_(x:Str)(t:Tok):keyIs (.inr x) (.str x t)=true:=by simp[keyIs,Value.isStrOf]
theorem jK_(a b:Int):decide ((Sum.inl a:Key)=Sum.inl b)=(a == b):=by
 by_cases e:a=b
 ·subst e;simp
 ·have h:¬(Sum.inl a:Key)=Sum.inl b:=fun q=>e (Sum.inl.inj q)
  rw[decide_eq_false h]
  exact (beq_eq_false_iff_ne.mpr e).symm
theorem jw_(a b:Str):decide ((Sum.inr a:Key)=Sum.inr b)=decide (a=b):=by
 by_cases e:a=b
 ·subst e;simp
 ·have h:¬(Sum.inr a:Key)=Sum.inr b:=fun q=>e (Sum.inr.inj q)
  rw[decide_eq_false h,decide_eq_false e]
theorem jV_(a:Int)(b:Str):decide ((Sum.inl a:Key)=Sum.inr b)=false:=decide_eq_false (fun q=>nomatch q)
theorem js_(a:Str)(b:Int):decide ((Sum.inr a:Key)=Sum.inl b)=false:=decide_eq_false (fun q=>nomatch q)
def mixKind(prog:Program)(w:World):PySem.KeyKind prog w Key where
 is:=keyIs
 hash:=keyH w
 inj:=fun v a b ha hb=>by
  rcases ao_ ha with⟨i,t,rfl,rfl⟩|⟨x,t,rfl,rfl⟩
  ·rcases ao_ hb with⟨j,u,rfl,e⟩|⟨y,u,rfl,e⟩
   ·injection e with e1 _;rw[e1]
   ·exact nomatch e
  ·rcases ao_ hb with⟨j,u,rfl,e⟩|⟨y,u,rfl,e⟩
   ·exact nomatch e
   ·injection e with e1 _;rw[e1]
 byValue:=fun k v h=>by
  rcases ao_ h with⟨i,t,rfl,rfl⟩|⟨x,t,rfl,rfl⟩<;>rfl
 pyHash:=fun hv h=>by
  rcases ao_ hv with⟨i,t,rfl,rfl⟩|⟨x,t,rfl,rfl⟩
  ·exact wpAny_pyHash_int h
  ·exact wpAny_pyHash_str h
 eqBool:=fun hu hv h=>by
  rcases ao_ hu with⟨i,t,rfl,rfl⟩|⟨x,t,rfl,rfl⟩
  ·rcases ao_ hv with⟨j,u,rfl,rfl⟩|⟨y,u,rfl,rfl⟩
   ·rw[jK_] at h;exact wpAny_eqBool_int h
   ·rw[jV_] at h;exact SeqAt.EqAt.int_str i t y u _ _ _ _ h
  ·rcases ao_ hv with⟨j,u,rfl,rfl⟩|⟨y,u,rfl,rfl⟩
   ·rw[js_] at h;exact SeqAt.EqAt.str_int x t j u _ _ _ _ h
   ·rw[jw_] at h;exact wpAny_eqBool_str h
 «strs»:=fun k x t v h=>by
  rcases ao_ h with⟨i,u,rfl,e⟩|⟨y,u,rfl,e⟩
  ·exact nomatch e
  ·injection e with e1 _
   subst e1
   cases v<;>rfl
theorem eu_(prog:Program)(w:World)(i:Int)(t:Tok):(mixKind prog w).is (.inl i) (.int i t)=true:=gC_ i t
theorem el_(prog:Program)(w:World)(x:Str)(t:Tok):(mixKind prog w).is (.inr x) (.str x t)=true:=gQ_ x t
end L2
namespace L2
open PySem PySem.Spec PyProof.Rows
inductive V where
 |non|bl (b:Bool)|int (i:Int)|str (x:Str)|byt (b:Array UInt8)|flt (b:UInt64)|ref (a:Addr)|ty (n:String)
 deriving DecidableEq
def RelV:V->Value->Prop
 |.non,u=>u=Value.none
 |.bl b,u=>u=Value.bool b
 |.int i,u=>∃t,u=Value.int i t
 |.str x,u=>∃t,u=Value.str x t
 |.byt b,u=>∃t,u=Value.bytes b t
 |.flt b,u=>∃t,u=Value.float b t
 |.ref a,u=>u=Value.ref a
 |.ty n,u=>u=Value.type n
abbrev Vals:List V->List Value->Prop:=Paired RelV
theorem Vals.length{xs:List V}{us:List Value}(r:Vals xs us):xs.length=us.length:=Paired.length r
theorem Vals.get:∀{xs:List V} {us:List Value} {i:Nat} {x:V},Vals xs us->xs[i]? = some x->∃u,us[i]? = some u/\RelV x u
 |_,_,_,_,.nil,e=>by simp at e
 |_,_,0,_,.cons r _,e=>by simp at e;subst e;exact⟨_,rfl,r⟩
 |_,_,i+1,x,.cons _ t,e=>by
  obtain⟨u,h1,h2⟩:=Vals.get (i:=i) (x:=x) t (by simpa using e)
  exact⟨u,by simpa using h1,h2⟩
theorem Vals.set{x:V}{u:Value}(r:RelV x u):∀{xs:List V} {us:List Value} (i:Nat),Vals xs us->Vals (xs.set i x) (us.set i u)
 |_,_,_,.nil=>.nil
 |_,_,0,.cons _ t=>.cons r t
 |_,_,i+1,.cons q t=>.cons q (Vals.set r i t)
theorem Vals.append:∀{xs ys:List V} {us ws:List Value},Vals xs us->Vals ys ws->Vals (xs++ys) (us++ws)
 |_,_,_,_,.nil,s=>s
 |_,_,_,_,.cons r t,s=>.cons r (Vals.append t s)
theorem Vals.take:∀{xs:List V} {us:List Value} (n:Nat),Vals xs us->Vals (xs.take n) (us.take n)
 |_,_,0,_=>.nil
 |_,_,_+1,.nil=>.nil
 |_,_,n+1,.cons r t=>.cons r (Vals.take n t)
theorem Vals.drop:∀{xs:List V} {us:List Value} (n:Nat),Vals xs us->Vals (xs.drop n) (us.drop n)
 |_,_,0,r=>r
 |_,_,_+1,.nil=>.nil
 |_,_,n+1,.cons _ t=>Vals.drop n t
def RelO:Option V->Option Value->Prop
 |some v,some u=>RelV v u
 |none,none=>True
 |_,_=>False
def KV{κ:Type}:List (κ × V)->List (κ × Value)->Prop:=Paired fun(p:κ × V) (q:κ × Value)=>p.1=q.1/\RelV p.2 q.2
def kV:Key->V
 |.inl i=>.int i
 |.inr x=>.str x
inductive HO where
  |lst (xs:List V)
  |tup (xs:List V)
  |dK (kvs:List (Key × V))|dT (kvs:List (List Key × V))
  |set (S:Int->Bool) (n:Nat)
  |ins (C dx:Addr) (fs:List (Str × V))
  |own (x:Addr)
  |xd (fs:List (Str × V))
  |met (f x:Addr)
  |rng (lo hi:Int)
  |frz (o:Obj) (u:HO)
  |tbl (ps:Array Value)
  |ext (φ:Heap->Prop)
abbrev Hp:=Addr->Option HO
def upd(H:Hp)(a:Addr)(o:HO):Hp:=fun b=>if b=a then some o else H b
theorem a1_{H:Hp}{a:Addr}{o:HO}:upd H a o a=some o:=by unfold upd;rw[if_pos rfl]
theorem a7_{H:Hp}{a b:Addr}{o:HO}(h:b≠a):upd H a o b=H b:=by unfold upd;rw[if_neg h]
theorem j2_{H:Hp}{a:Addr}{o u:HO}:upd (upd H a o) a u=upd H a u:=by
 funext b;unfold upd;split<;>rfl
theorem az_{H:Hp}{a b:Addr}{o u:HO}(h:H a=some o)(h':H b=some u)(d:o≠u):a≠b:=by
 intro e;subst e;rw[h] at h';exact d (Option.some.inj h')
theorem a4_{H:Hp}{a b:Addr}{o:HO}(h:H a=some o)(h':H b=none):a≠b:=by
 intro e;subst e;rw[h] at h';cases h'
section
variable(P:Program)(w:World)
def ObjOk(H:Hp)(h:Heap)(a:Addr):HO->Prop
 |.lst xs=>xs.length<=sizeLine/\∃(its:List Value) (n:Nat),Vals xs its/\h.get? a=some { cls:=.type "list",data:=.seq its.toArray n }
 |.tup xs=>xs.length<=sizeLine/\∃its:List Value,Vals xs its/\IsTup h a its.toArray/\∃o,h.get? a=some o/\o.dict=none
 |.dK kvs=>kvs.length<=sizeLine/\(a == sysModules)=false/\∃vs,KV kvs vs/\h.DictOf (mixKind P w) a vs
 |.dT kvs=>kvs.length<=sizeLine/\(a == sysModules)=false/\∃xs:List (List Key × Addr × Value),
   Paired (fun(p:List Key × V) (q:List Key × Addr × Value)=>p.1=q.1/\H q.2.1=some (.tup (p.1.map kV))/\RelV p.2 q.2.2) kvs xs /\
   ∃o es ep,h.get? a=some o/\o.ExactDict/\o.data=.dict es ep/\es.toList=xs.map (entryOfKey (tupleKind (mixKind P w)))/\(xs.map (·.1)).Nodup
 |.set S n=>h.SetOf (intKind P w) a S n
 |.ins C dx fs=>H dx=some (.own a)/\fs.length<=1000/\dx≠a/\h.get? a=some (PySem.W.instObj C dx) /\
   ∃mA,h.Ns1 dx mA/\(∀f,RelO (fs.lookup f) (mA f))/\PySem.Within mA (fs.map (·.1))
 |.own _=>∃o,h.get? a=some o
 |.xd fs=>∃mA,h.Ns1 a mA/\∀f,RelO (fs.lookup f) (mA f)
 |.rng lo hi=>∃t u v,h.get? a=some { cls:=.type "range",data:=.fields #[.int lo t,.int hi u,.int 1 v] }
 |.frz o u=>h.get? a=some o/\ObjOk H h a u
 |.tbl ps=>h.get? a=some { cls:=.none,data:=.fields ps }
 |.met f x=>h.get? a=some (PySem.W.methodObj (.ref f) (.ref x))
 |.ext φ=>φ h/\(∃o,h.get? a=some o)/\∀h1 h2:Heap,φ h1->(∀o,h1.get? a=some o->h2.get? a=some o)->φ h2
def HOk(H:Hp)(h:Heap):Prop:=∀a o,H a=some o->ObjOk P w H h a o
end
section
variable{P:Program}{w:World}{H H':Hp}{h h':Heap}{a:Addr}{o:HO}
theorem ObjOk.lt(x:ObjOk P w H h a o):a<h.objs.size:=by
 cases o with
 |lst xs=>obtain⟨_,_,_,_,e⟩:=x;exact Heap.lt_size e
 |tup xs=>obtain⟨_,_,_,p,_⟩:=x;exact p.lt
 |dK kvs=>obtain⟨_,_,_,_,o,_,_,e,_⟩:=x;exact Heap.lt_size e
 |dT kvs=>obtain⟨_,_,_,_,o,_,_,e,_⟩:=x;exact Heap.lt_size e
 |set S n=>obtain⟨o,_,_,_,e,_⟩:=x;exact Heap.lt_size e
 |ins C dx fs=>obtain⟨_,_,_,e,_⟩:=x;exact Heap.lt_size e
 |own y=>obtain⟨_,e⟩:=x;exact Heap.lt_size e
 |xd fs=>obtain⟨_,⟨_,_,_,e,_⟩,_⟩:=x;exact Heap.lt_size e
 |rng lo hi=>obtain⟨_,_,_,e⟩:=x;exact Heap.lt_size e
 |frz ob u=>obtain⟨e,_⟩:=x;exact Heap.lt_size e
 |tbl ps=>exact Heap.lt_size (show h.get? a=some _ from x)
 |met f y=>exact Heap.lt_size (show h.get? a=some _ from x)
 |ext φ=>obtain⟨_,⟨_,e⟩,_⟩:=x;exact Heap.lt_size e
theorem Paired.mapP{α β:Type}{F G:α->β->Prop}:∀{l₁:List α} {l₂:List β},Paired F l₁ l₂->(∀a b,F a b->G a b)->Paired G l₁ l₂
 |_,_,.nil,_=>.nil
 |_,_,.cons r t,f=>.cons (f _ _ r) (Paired.mapP t f)
theorem ObjOk.stay(x:ObjOk P w H h a o)(k:∀b u,(b=a∨H b=some (.own a))->h.get? b=some u->h'.get? b=some u)
  (ho:∀b,H b=some (.own a)->H' b=some (.own a)) (ht:∀b xs,H b=some (.tup xs)->H' b=some (.tup xs)):ObjOk P w H' h' a o:=by
 induction o with
 |lst xs=>obtain⟨z,its,n,r,e⟩:=x;exact⟨z,its,n,r,k _ _ (.inl rfl) e⟩
 |tup xs=>obtain⟨z,its,r,⟨ob,e,c⟩,o2,e2,c2⟩:=x;exact⟨z,its,r,⟨ob,k _ _ (.inl rfl) e,c⟩,o2,k _ _ (.inl rfl) e2,c2⟩
 |dK kvs=>obtain⟨z,y,vs,r,ob,es,ep,e,c⟩:=x;exact⟨z,y,vs,r,ob,es,ep,k _ _ (.inl rfl) e,c⟩
 |dT kvs=>
  obtain⟨z,y,xs,r,ob,es,ep,e,c⟩:=x
  exact⟨z,y,xs,Paired.mapP r fun p q z=>⟨z.1,ht _ _ z.2.1,z.2.2⟩,ob,es,ep,k _ _ (.inl rfl) e,c⟩
 |set S n=>obtain⟨ob,es,ep,t,e,c⟩:=x;exact⟨ob,es,ep,t,k _ _ (.inl rfl) e,c⟩
 |ins C dx fs=>
  obtain⟨d,z,ne,e,mA,⟨od,es,ep,e2,c⟩,r⟩:=x
  exact⟨ho _ d,z,ne,k _ _ (.inl rfl) e,mA,⟨od,es,ep,k _ _ (.inr d) e2,c⟩,r⟩
 |own y=>obtain⟨ob,e⟩:=x;exact⟨ob,k _ _ (.inl rfl) e⟩
 |xd fs=>obtain⟨mA,⟨od,es,ep,e,c⟩,r⟩:=x;exact⟨mA,⟨od,es,ep,k _ _ (.inl rfl) e,c⟩,r⟩
 |rng lo hi=>obtain⟨t,u,v,e⟩:=x;exact⟨t,u,v,k _ _ (.inl rfl) e⟩
 |frz ob u ih=>obtain⟨e,q⟩:=x;exact⟨k _ _ (.inl rfl) e,ih q⟩
 |tbl ps=>
  have e:h.get? a=some { cls:=.none,data:=.fields ps }:=x
  show h'.get? a=some { cls:=.none,data:=.fields ps }
  exact k a _ (.inl rfl) e
 |met f y=>
  have e:h.get? a=some (PySem.W.methodObj (.ref f) (.ref y)):=x
  show h'.get? a=some (PySem.W.methodObj (.ref f) (.ref y))
  exact k a _ (.inl rfl) e
 |ext φ=>obtain⟨p,⟨o,e⟩,st⟩:=x;exact⟨st _ _ p fun o q=>k _ _ (.inl rfl) q,⟨o,k _ _ (.inl rfl) e⟩,st⟩
theorem HOk.lt(x:HOk P w H h)(e:H a=some o):a<h.objs.size:=(x a o e).lt
theorem HOk.fresh(x:HOk P w H h)(e:h.objs.size<=a):H a=none:=by
 cases q:H a with
 |none=>rfl
 |some u=>exact absurd (Nat.lt_of_lt_of_le (x.lt q) e) (Nat.lt_irrefl _)
theorem HOk.kept(x:HOk P w H h)(k:∀b u,h.get? b=some u->h'.get? b=some u):HOk P w H h':=fun a o e=>
 (x a o e).stay (fun b u _ q=>k b u q) (fun _ q=>q) fun _ _ q=>q
theorem HOk.laid(x:HOk P w H h)(k:∀b u,h.get? b=some u->h'.get? b=some u)(hp:h.objs.size<=a)(new:ObjOk P w (upd H a o) h' a o):HOk P w (upd H a o) h':=fun b u e=>by
 have hn:=x.fresh hp
 by_cases hb:b=a
 ·subst hb;rw[a1_] at e;cases e;exact new
 ·rw[a7_ hb] at e
  exact (x b u e).stay (fun c v _ q=>k c v q) (fun c q=>by rw[a7_ (a4_ q hn)];exact q) fun c xs q=>by rw[a7_ (a4_ q hn)];exact q
end
def Rd(H:Hp)(a:Addr)(u:HO):Prop:=H a=some u∨∃o,H a=some (.frz o u)
theorem Rd.of{H:Hp}{a:Addr}{u:HO}(h:H a=some u):Rd H a u:=.inl h
theorem Rd.ok{P:Program}{w:World}{H:Hp}{h:Heap}{a:Addr}{u:HO}(r:Rd H a u)(x:HOk P w H h):ObjOk P w H h a u:=by
 rcases r with r|⟨o,r⟩
 ·exact x a u r
 ·obtain⟨_,q⟩:=x a _ r
  exact q
def Mut:Option HO->Prop
 |some (.lst _)=>True
 |some (.dK _)=>True
 |some (.dT _)=>True
 |some (.set _ _)=>True
 |some (.ins _ _ _)=>True
 |some (.ext _)=>True
 |_=>False
section
variable{P:Program}{w:World}{H:Hp}{h h':Heap}{x e:Addr}{o':HO}
theorem HOk.write(ok:HOk P w H h)(mu:Mut (H x))(he:e=x∨H e=some (.own x))(k:∀b u,b≠e->h.get? b=some u->h'.get? b=some u)(heo:∃u,h'.get? e=some u)
  (new:ObjOk P w (upd H x o') h' x o'):HOk P w (upd H x o') h':=fun b u q=>by
 have nown:∀c y,H c=some (.own y)->c≠x:=fun c y r z=>by subst z;rw[r] at mu;exact mu
 have ntup:∀c xs,H c=some (.tup xs)->c≠x:=fun c xs r z=>by subst z;rw[r] at mu;exact mu
 by_cases hb:b=x
 ·subst hb;rw[a1_] at q;cases q;exact new
 ·rw[a7_ hb] at q
  by_cases hbe:b=e
  ·have q':H b=some (.own x):=by
    rcases he with z|z
    ·exact absurd (hbe.trans z) hb
    ·rw[hbe];exact z
   rw[q] at q';cases q'
   obtain⟨v,hv⟩:=heo
   exact⟨v,by rw[hbe];exact hv⟩
  ·refine (ok b u q).stay (fun c v hc r=>k c v ?_ r) (fun c r=>by rw[a7_ (nown c b r)];exact r) fun c xs r=>by rw[a7_ (ntup c xs r)];exact r
   rcases hc with rfl|hc
   ·exact hbe
   ·rintro rfl
    rcases he with z|z
    ·exact nown c b hc z
    ·rw[hc] at z;cases z;exact hb rfl
end
structure Un (fs ex:List Addr) (H H':Hp) (h h':Heap):Prop where
 keep:∀b o,h.get? b=some o->H b=none->b∉fs->b∉ex->h'.get? b=some o
 slot:∀b o,h.get? b=some o->H b=none->b∈fs->b∉ex->∃sl,h'.get? b=some { o with slots:=sl }
 free:∀b o,h.get? b=some o->H b=none->b∉ex->H' b=none
 there:∀b o,h.get? b=some o->b∉ex->∃o',h'.get? b=some o'
 tups:∀b xs,H b=some (.tup xs)->H' b=some (.tup xs)
 frzs:∀b o u,H b=some (.frz o u)->H' b=some (.frz o u)
 tbls:∀b ps,H b=some (.tbl ps)->∃more,H' b=some (.tbl (ps++more))
section
variable{fs fs' ex ex':List Addr}{H H1 H2:Hp}{h h1 h2 h':Heap}{a x e:Addr}{o:HO}
theorem Un.any(u:Un fs ex H H1 h h1){b:Addr}{ob:Obj}(q:h.get? b=some ob)(n:H b=none)(hx:b∉ex):∃sl,h1.get? b=some { ob with slots:=sl }:=by
 by_cases hb:b∈fs
 ·exact u.slot b ob q n hb hx
 ·exact⟨ob.slots,u.keep b ob q n hb hx⟩
theorem Un.kept(k:∀b u,h.get? b=some u->h'.get? b=some u):Un fs ex H H h h':=
 ⟨fun b ob q _ _ _=>k b ob q,fun b ob q _ _ _=>⟨ob.slots,k b ob q⟩,fun _ _ _ n _=>n,fun b ob q _=>⟨ob,k b ob q⟩,fun _ _ q=>q,fun _ _ _ q=>q,fun _ ps q=>⟨#[],by rw[q];simp⟩⟩
theorem Un.refl:Un fs ex H H h h:=Un.kept fun _ _ q=>q
theorem Un.laid(k:∀b u,h.get? b=some u->h'.get? b=some u)(hp:h.objs.size<=a)(hn:H a=none):Un fs ex H (upd H a o) h h' where
 keep:=fun b u q _ _ _=>k b u q
 slot:=fun b u q _ _ _=>⟨u.slots,k b u q⟩
 free:=fun b u q n _=>by rw[a7_ (Nat.ne_of_lt (Nat.lt_of_lt_of_le (Heap.lt_size q) hp))];exact n
 there:=fun b u q _=>⟨u,k b u q⟩
 tups:=fun b xs q=>by rw[a7_ (a4_ q hn)];exact q
 frzs:=fun b u xs q=>by rw[a7_ (a4_ q hn)];exact q
 tbls:=fun b ps q=>⟨#[],by rw[a7_ (a4_ q hn),q];simp⟩
theorem Un.write(mu:Mut (H x))(he:e=x∨H e=some (.own x))(k:∀b u,b≠e->h.get? b=some u->h'.get? b=some u)(heo:∃u,h'.get? e=some u):Un fs ex H (upd H x o) h h':=by
 have hx:∀b,H b=none->b≠x:=fun b n z=>by subst z;rw[n] at mu;exact mu
 have hb:∀b,H b=none->b≠e:=fun b n z=>by
  subst z
  rcases he with r|r
  ·exact hx b n r
  ·rw[n] at r;cases r
 have hm:∀b u,H b=some u->¬Mut (some u)->b≠x:=fun b u q nm z=>by subst z;rw[q] at mu;exact nm mu
 refine⟨fun b u q n _ _=>k b u (hb b n) q,fun b u q n _ _=>⟨u.slots,k b u (hb b n) q⟩,fun b u q n _=>by rw[a7_ (hx b n)];exact n,fun b u q _=>?_,
  fun b xs q=>by rw[a7_ (hm b _ q fun z=>z)];exact q,fun b u xs q=>by rw[a7_ (hm b _ q fun z=>z)];exact q,fun b ps q=>⟨#[],by rw[a7_ (hm b _ q fun z=>z),q];simp⟩⟩
 by_cases hbe:b=e
 ·subst hbe;exact heo
 ·exact⟨u,k b u hbe q⟩
end
def trk(h:Heap)(H:Hp):List Addr:=(List.range h.objs.size).filter fun a=>(H a).isSome
def hidT(h:Heap)(H:Hp):Heap:=PySem.W.hideAll h (trk h H)
theorem fN_(h:Heap)(H:Hp):(hidT h H).objs.size=h.objs.size:=PySem.W.hideAll_size _ _
theorem i1_{h:Heap}{H:Hp}{b:Addr}{o:Obj}(e:h.get? b=some o)(n:H b=none):(hidT h H).get? b=some o:=
 PySem.W.hideAll_get _ e fun hm=>by
  have q:(H b).isSome=true:=(List.mem_filter.mp hm).2
  rw[n] at q;simp at q
theorem ir_{h:Heap}{H:Hp}{b:Addr}{o:Obj}(e:(hidT h H).get? b=some o):h.get? b=some o/\H b=none:=by
 have e':h.get? b=some o:=PySem.W.of_hideAll (trk h H) e
 refine⟨e',?_⟩
 cases q:H b with
 |none=>rfl
 |some x=>
  have hm:b∈trk h H:=List.mem_filter.mpr ⟨List.mem_range.mpr (Heap.lt_size e'),by simp[q]⟩
  have z:(hidT h H).get? b=none:=PySem.W.hideAll_none (trk h H) hm
  rw[z] at e;cases e
end L2
namespace L2
open PySem PySem.Spec PyProof.Rows
structure Mod (K:PySem.W.Frag) (mg:Str->Option Value) (base:Heap):Prop where
 kin:K.In base
 glob:base.Ns mainGlobals mg
 blt:∃mb,base.Ns builtinsNs mb/\∀x:Str,x≠"__name__"->mb x=bootBuiltins x
 nolimit:base.NoLimit
structure Cx where
 prog:Program
 w:World
 K:PySem.W.Frag
 mg:Str->Option Value
 base:Heap
 A:Around
 N:List Str
 s₀:Shared
 H₀:Hp
 env:Env
 outer:List Env
 stack:List Env
 ex:List Addr
 fn:Str->Bool
 calm:Bool
 pn:List (Addr × Obj)
 xe:Value->Shared->Prop
def frs(l:List Env):List Addr:=l.filterMap (·.frame)
abbrev Cx.fs(X:Cx):List Addr:=frs X.outer
def Vis(sc:Scope)(x:Str):Prop:=sc.names.lookup x=some .local∨sc.names.lookup x=some .cell∨sc.names.lookup x=some .free
def Loc(sc:Scope)(x:Str):Prop:=sc.names.lookup x=some .local∨sc.names.lookup x=some .cell
def Look(env:Env)(h:Heap)(m:Str->Option Value)(x:Str)(u:Value):Prop:=
 (env.kindOf x=some .local/\m x=some u)∨((env.kindOf x=some .cell∨env.kindOf x=some .free)/\∃c,env.cells.lookup x=some c/\h.IsCell c (some u))
structure Cx.Ok (X:Cx):Prop where
 mod:Mod X.K X.mg X.base
 kind:X.env.scope.kind=.function
 glob:X.env.globals=mainGlobals
 blt:X.env.builtins=builtinsNs
 above:X.s₀.heap.objs.size<=X.env.locals
 inj:∀x y c,X.env.cells.lookup x=some c->X.env.cells.lookup y=some c->x=y
 has:∀x,(X.env.kindOf x=some .cell∨X.env.kindOf x=some .free)->∃c,X.env.cells.lookup x=some c
 cab:∀x c,X.fn x=true->X.env.cells.lookup x=some c->X.s₀.heap.objs.size<=c
 hd:X.calm=true->X.A.handled=none
 frames:X.A.frames=some X.stack
 stk:X.stack=X.outer∨(X.stack=X.env::X.outer/\X.env.frame=some X.env.locals)
 exf:∀b∈X.ex,b≠X.env.locals/\∀x c,X.env.cells.lookup x=some c->c≠b
 bs:∀b o,X.base.get? b=some o->X.s₀.heap.get? b=some o/\X.H₀ b=none
 bsz:X.base.objs.size<=X.s₀.heap.objs.size
 noex:∀b o,X.base.get? b=some o->b∉X.ex
 exfs:∀b∈X.ex,b∉X.fs
 funs:X.s₀.heap.FunFrames X.base X.outer
 frf:∀b∈X.fs,X.H₀ b=none
structure Inv (X:Cx) (pins:List (Addr × Obj)) (σ:List (Option V)) (H:Hp) (s:Shared):Prop where
 ok:X.Ok
 os:s.os=X.s₀.os
 bare:AllBare s.gens
 base:Un X.fs X.ex X.H₀ H X.s₀.heap s.heap
 loc:∃m,s.heap.Ns X.env.locals m/\∀(i:Nat) (x:Str) (v:V),X.N[i]? = some x->σ[i]? = some (some v)->Vis X.env.scope x->∃u,RelV v u/\Look X.env s.heap m x u
 cell:∀x c,X.env.cells.lookup x=some c->∃v,s.heap.IsCell c v
 free:H X.env.locals=none
 freeC:∀x c,X.env.cells.lookup x=some c->H c=none
 pin:∀p∈X.pn++pins,s.heap.get? p.1=some p.2/\H p.1=none/\p.1≠X.env.locals/\p.1∉X.fs/\∀v,p.2.data≠.cell v
 hok:HOk X.prog X.w H s.heap
 len:σ.length=X.N.length
section
variable{X:Cx}{pins:List (Addr × Obj)}{σ:List (Option V)}{H H':Hp}{s:Shared}{h':Heap}
theorem Cx.Ok.nofr(ok:X.Ok){b:Addr}{o:Obj}(e:X.base.get? b=some o):b∉X.fs:=fun hb=>by
 have:=(ok.funs.mem hb).1
 rw[e] at this;cases this
theorem Inv.bs(I:Inv X pins σ H s):∀b o,X.base.get? b=some o->s.heap.get? b=some o/\H b=none:=fun b o e=>
 ⟨I.base.keep b o (I.ok.bs b o e).1 (I.ok.bs b o e).2 (I.ok.nofr e) (I.ok.noex b o e),I.base.free b o (I.ok.bs b o e).1 (I.ok.bs b o e).2 (I.ok.noex b o e)⟩
theorem Inv.bk(I:Inv X pins σ H s):∀b o,X.base.get? b=some o->s.heap.get? b=some o:=fun b o e=>(I.bs b o e).1
theorem Inv.mod(I:Inv X pins σ H s):Mod X.K X.mg X.base:=I.ok.mod
theorem Inv.kIn(I:Inv X pins σ H s):X.K.In s.heap:=I.ok.mod.kin.keeps I.bk
theorem Inv.lt(I:Inv X pins σ H s):X.env.locals<s.heap.objs.size:=let ⟨_,hn,_⟩:=I.loc;hn.lt
theorem Inv.sz(I:Inv X pins σ H s):X.s₀.heap.objs.size<=s.heap.objs.size:=Nat.le_trans I.ok.above (Nat.le_of_lt I.lt)
theorem Inv.nofs(I:Inv X pins σ H s){a:Addr}(h:s.heap.objs.size<=a):a∉X.fs:=fun hb=>by
 obtain⟨_,o,ho,_⟩:=I.ok.funs.mem hb
 exact absurd (Nat.lt_of_lt_of_le (Heap.lt_size ho) (Nat.le_trans I.sz h)) (Nat.lt_irrefl _)
theorem Inv.cne(I:Inv X pins σ H s):∀x c,X.env.cells.lookup x=some c->c≠X.env.locals:=fun x c e z=>by
 obtain⟨v,o,ho,hd⟩:=I.cell x c e
 obtain⟨m,⟨o',es,ep,ho',hd',_⟩,_⟩:=I.loc
 rw[z,ho'] at ho;cases ho;rw[hd'] at hd;cases hd
theorem Inv.funs(I:Inv X pins σ H s):s.heap.FunFrames X.base X.outer:=by
 have all:∀(l:List Env),(∀b∈frs l,b∈X.fs)->X.s₀.heap.FunFrames X.base l->s.heap.FunFrames X.base l:=by
  intro l
  induction l with
  |nil=>intro _ _;trivial
  |cons env r ih=>
   intro hs hl
   obtain⟨hk,⟨L,o,hf,hn,ho,hd⟩,hr⟩:=hl
   have hL:L∈X.fs:=hs L (by unfold frs;rw[List.filterMap_cons,hf];exact List.mem_cons_self)
   obtain⟨sl,e⟩:=I.base.slot L o ho (I.ok.frf L hL) hL fun z=>I.ok.exfs L z hL
   exact⟨hk,⟨L,_,hf,hn,e,hd⟩,ih (fun b hb=>hs b (by unfold frs;rw[List.filterMap_cons,hf];exact List.mem_cons_of_mem _ hb)) hr⟩
 exact all X.outer (fun _ hb=>hb) I.ok.funs
theorem Inv.stack(I:Inv X pins σ H s):s.heap.FunFrames X.base X.stack:=by
 rcases I.ok.stk with e|⟨e,hf⟩
 ·rw[e];exact I.funs
 ·rw[e]
  obtain⟨m,hn,_⟩:=I.loc
  refine .cons (by rw[I.ok.kind];decide) hf hn ?_ I.funs
  exact Heap.get?_none_of_le (Nat.le_trans I.ok.bsz I.ok.above)
theorem Inv.stkSub(I:Inv X pins σ H s):∀b∈frs X.stack,b∈X.env.locals::X.fs:=fun b hb=>by
 rcases I.ok.stk with e|⟨e,hf⟩
 ·rw[e] at hb;exact List.mem_cons_of_mem _ hb
 ·rw[e] at hb
  unfold frs at hb
  rw[List.filterMap_cons,hf] at hb
  exact hb
theorem Inv.stkFree(I:Inv X pins σ H s):∀b∈frs X.stack,H b=none:=fun b hb=>by
 rcases List.mem_cons.mp (I.stkSub b hb) with e|hb
 ·rw[e];exact I.free
 ·obtain⟨_,o,ho,_⟩:=I.ok.funs.mem hb
  exact I.base.free b o ho (I.ok.frf b hb) fun z=>I.ok.exfs b z hb
theorem Inv.step{g':Array GenState}{t':Nat}{d':Drawn}{ch:List Addr}(I:Inv X pins σ H s)
  (hch:∀b∈ch,(b∈X.ex∨X.s₀.heap.objs.size<=b)/\b≠X.env.locals/\(∀x c,X.env.cells.lookup x=some c->c≠b)/\∀p∈X.pn++pins,p.1≠b)
  (keep:∀b o,b≠X.env.locals->b∉X.fs->b∉ch->s.heap.get? b=some o->H b=none->h'.get? b=some o)
  (slot:∀b o,b≠X.env.locals->b∈X.fs->b∉ch->s.heap.get? b=some o->H b=none->∃sl,h'.get? b=some { o with slots:=sl }) (free:∀b o,b∉ch->s.heap.get? b=some o->H b=none->H' b=none)
  (there:∀b o,b∉ch->s.heap.get? b=some o->∃o',h'.get? b=some o')
  (tups:∀b xs,H b=some (.tup xs)->H' b=some (.tup xs)) (frzs:∀b o u,H b=some (.frz o u)->H' b=some (.frz o u)) (tbls:∀b ps,H b=some (.tbl ps)->∃more,H' b=some (.tbl (ps++more)))
  (ns:∀m,s.heap.Ns X.env.locals m->h'.Ns X.env.locals m) (hok:HOk X.prog X.w H' h') (hg:AllBare g') :
  Inv X pins σ H' { s with heap:=h',gens:=g',drawn:=d',toks:=t' }:=by
 have neL:∀b o,X.s₀.heap.get? b=some o->b≠X.env.locals:=fun b o e=>Nat.ne_of_lt (Nat.lt_of_lt_of_le (Heap.lt_size e) I.ok.above)
 have neC:∀b o,X.s₀.heap.get? b=some o->b∉X.ex->b∉ch:=fun b o e hx hb=>by
  rcases (hch b hb).1 with z|z
  ·exact hx z
  ·exact absurd (Nat.lt_of_lt_of_le (Heap.lt_size e) z) (Nat.lt_irrefl _)
 have cellK:∀x c,X.env.cells.lookup x=some c->∀v,s.heap.IsCell c v->h'.IsCell c v:=fun x c e v ⟨o,ho,hd⟩=>by
  have nch:c∉ch:=fun z=>(hch c z).2.2.1 x c e rfl
  by_cases hc:c∈X.fs
  ·obtain⟨sl,q⟩:=slot c o (I.cne x c e) hc nch ho (I.freeC x c e)
   exact⟨_,q,hd⟩
  ·exact⟨o,keep c o (I.cne x c e) hc nch ho (I.freeC x c e),hd⟩
 refine⟨I.ok,I.os,hg,⟨fun b o e n hb hx=>?_,fun b o e n hb hx=>?_,fun b o e n hx=>?_,fun b o e hx=>?_,fun b xs e=>tups b xs (I.base.tups b xs e),fun b o xs e=>frzs b o xs (I.base.frzs b o xs e),fun b ps e=>?_⟩,?_,fun x c e=>?_,?_,fun x c e=>?_,fun p hp=>?_,hok,I.len⟩
 ·exact keep b o (neL b o e) hb (neC b o e hx) (I.base.keep b o e n hb hx) (I.base.free b o e n hx)
 ·obtain⟨sl,e1⟩:=I.base.slot b o e n hb hx
  obtain⟨sl',e2⟩:=slot b _ (neL b o e) hb (neC b o e hx) e1 (I.base.free b o e n hx)
  exact⟨sl',e2⟩
 ·obtain⟨o',e1⟩:=I.base.there b o e hx
  exact free b o' (neC b o e hx) e1 (I.base.free b o e n hx)
 ·obtain⟨o',e1⟩:=I.base.there b o e hx
  exact there b o' (neC b o e hx) e1
 ·obtain⟨m1,e1⟩:=I.base.tbls b ps e
  obtain⟨m2,e2⟩:=tbls b _ e1
  exact⟨m1++m2,by rw[e2,Array.append_assoc]⟩
 ·obtain⟨m,hn,hl⟩:=I.loc
  refine⟨m,ns m hn,fun i x v e1 e2 e3=>?_⟩
  obtain⟨u,r,l⟩:=hl i x v e1 e2 e3
  refine⟨u,r,?_⟩
  rcases l with l|⟨k,c,e,z⟩
  ·exact .inl l
  ·exact .inr ⟨k,c,e,cellK x c e _ z⟩
 ·obtain⟨v,z⟩:=I.cell x c e
  exact⟨v,cellK x c e v z⟩
 ·obtain⟨m,⟨o,_,_,ho,_⟩,_⟩:=I.loc
  exact free _ o (fun z=>(hch _ z).2.1 rfl) ho I.free
 ·obtain⟨v,o,ho,hd⟩:=I.cell x c e
  exact free c o (fun z=>(hch c z).2.2.1 x c e rfl) ho (I.freeC x c e)
 ·obtain⟨e,n,ne,nf,d⟩:=I.pin p hp
  have nch:p.1∉ch:=fun z=>(hch p.1 z).2.2.2 p hp rfl
  exact⟨keep p.1 p.2 ne nf nch e n,free p.1 p.2 nch e n,ne,nf,d⟩
theorem Inv.un{t':Nat}(I:Inv X pins σ H s)(u:Un X.fs [] H H' s.heap h')(hok:HOk X.prog X.w H' h'):Inv X pins σ H' { s with heap:=h',toks:=t' }:=by
 obtain⟨m,⟨o,es,ep,ho,r⟩,_⟩:=id I.loc
 obtain⟨sl,hL⟩:=u.any ho I.free (by simp)
 exact I.step (g':=s.gens) (d':=s.drawn) (ch:=[]) (fun _ z=>nomatch z) (fun b o _ hb _ e n=>u.keep b o e n hb (by simp)) (fun b o _ hb _ e n=>u.slot b o e n hb (by simp)) (fun b o _ e n=>u.free b o e n (by simp)) (fun b o _ e=>u.there b o e (by simp)) u.tups u.frzs u.tbls (fun m' hm=>by
  obtain⟨o',es',ep',ho',r'⟩:=hm
  rw[ho] at ho';cases ho'
  exact⟨_,es',ep',hL,r'⟩) hok I.bare
theorem Inv.call{g':Array GenState}{t':Nat}{d':Drawn}{ch:List Addr}(I:Inv X pins σ H s)(u:Un (frs X.stack) ch H H' s.heap h')(hok:HOk X.prog X.w H' h')(hg:AllBare g')
  (hch:∀b∈ch,(b∈X.ex∨X.s₀.heap.objs.size<=b)/\b≠X.env.locals/\(∀x c,X.env.cells.lookup x=some c->c≠b)/\∀p∈X.pn++pins,p.1≠b) :
  Inv X pins σ H' { s with heap:=h',gens:=g',drawn:=d',toks:=t' }:=by
 obtain⟨m,⟨o,es,ep,ho,r⟩,_⟩:=id I.loc
 obtain⟨sl,hL⟩:=u.any ho I.free fun z=>(hch _ z).2.1 rfl
 exact I.step (ch:=ch) hch (fun b o hL hb hc e n=>u.keep b o e n (fun z=>(List.mem_cons.mp (I.stkSub b z)).elim hL hb) hc) (fun b o _ _ hc e n=>u.any e n hc) (fun b o hc e n=>u.free b o e n hc) (fun b o hc e=>u.there b o e hc) u.tups u.frzs u.tbls (fun m' hm=>by
  obtain⟨o',es',ep',ho',r'⟩:=hm
  rw[ho] at ho';cases ho'
  exact⟨_,es',ep',hL,r'⟩) hok hg
theorem Inv.turned{t':Nat}{it:Addr}(I:Inv X pins σ H s)(k:∀b o,b≠it->s.heap.get? b=some o->h'.get? b=some o)(hn:H it=none)(hL:it≠X.env.locals)
  (h1:it∈X.ex∨X.s₀.heap.objs.size<=it) (h2:∀x c,X.env.cells.lookup x=some c->c≠it) (h3:∀p∈X.pn++pins,p.1≠it):Inv X pins σ H { s with heap:=h',toks:=t' }:=by
 have nit:∀b u,H b=some u->b≠it:=fun b u e z=>by rw[z,hn] at e;cases e
 refine I.step (g':=s.gens) (d':=s.drawn) (ch:=[it]) (fun b hb=>?_) (fun b o _ _ hc e _=>k b o (fun z=>hc (by simp[z])) e) (fun b o _ _ hc e _=>⟨o.slots,k b o (fun z=>hc (by simp[z])) e⟩) (fun _ _ _ _ n=>n)
  (fun b o hc e=>⟨o,k b o (fun z=>hc (by simp[z])) e⟩) (fun _ _ e=>e) (fun _ _ _ e=>e) (fun b ps e=>⟨#[],by rw[e];simp⟩) (fun m hm=>?_) (fun b u e=>?_) I.bare
 ·have e:b=it:=by simpa using hb
  subst e
  exact⟨h1,hL,h2,h3⟩
 ·obtain⟨o,es,ep,ho,r⟩:=hm
  exact⟨o,es,ep,k _ o (Ne.symm hL) ho,r⟩
 ·refine (I.hok b u e).stay (fun c v hc q=>k c v ?_ q) (fun _ q=>q) fun _ _ q=>q
  rcases hc with z|z
  ·rw[z];exact nit b u e
  ·exact nit c _ z
theorem Inv.tok(I:Inv X pins σ H s)(t:Nat):Inv X pins σ H { s with toks:=t }:=I.un (h':=s.heap) (t':=t) Un.refl I.hok
theorem Inv.kept{t':Nat}(I:Inv X pins σ H s)(k:∀b u,s.heap.get? b=some u->h'.get? b=some u):Inv X pins σ H { s with heap:=h',toks:=t' }:=I.un (Un.kept k) (I.hok.kept k)
theorem Inv.laid{a:Addr}{o:HO}{t':Nat}(I:Inv X pins σ H s)(k:∀b u,s.heap.get? b=some u->h'.get? b=some u)(hp:s.heap.objs.size<=a)(new:ObjOk X.prog X.w (upd H a o) h' a o) :
  Inv X pins σ (upd H a o) { s with heap:=h',toks:=t' }:=I.un (Un.laid k hp (I.hok.fresh hp)) (I.hok.laid k hp new)
theorem Inv.write{x e:Addr}{o:HO}{t':Nat}(I:Inv X pins σ H s)(mu:Mut (H x))(he:e=x∨H e=some (.own x))(k:∀b u,b≠e->s.heap.get? b=some u->h'.get? b=some u)(heo:∃u,h'.get? e=some u)
  (new:ObjOk X.prog X.w (upd H x o) h' x o):Inv X pins σ (upd H x o) { s with heap:=h',toks:=t' }:=I.un (Un.write mu he k heo) (I.hok.write mu he k heo new)
theorem Inv.pins_of{pins':List (Addr × Obj)}(I:Inv X pins σ H s)(h:∀p∈pins',s.heap.get? p.1=some p.2/\H p.1=none/\p.1≠X.env.locals/\p.1∉X.fs/\∀v,p.2.data≠.cell v):Inv X pins' σ H s:=
 ⟨I.ok,I.os,I.bare,I.base,I.loc,I.cell,I.free,I.freeC,fun p hp=>(List.mem_append.mp hp).elim (fun z=>I.pin p (List.mem_append_left _ z)) (h p),I.hok,I.len⟩
theorem eZ_{N:List Str}(hN:N.Nodup){i j:Nat}{x:Str}(a:N[i]? = some x)(b:N[j]? = some x):i=j:=by
 obtain⟨h1,e1⟩:=List.getElem?_eq_some_iff.mp a
 obtain⟨h2,e2⟩:=List.getElem?_eq_some_iff.mp b
 exact (List.getElem_inj hN).mp (e1.trans e2.symm)
theorem dO_{M:Model}{A:Around}{E:Value->Shared->Prop}{i:Nat}{x:Str}{v:V}{u:Value}{Q:Unit->Shared->Prop}(I:Inv X pins σ H s)(hN:X.N.Nodup)(hi:X.N[i]? = some x)(hx:Loc X.env.scope x)(r:RelV v u)
  (h:∀s',Inv X pins (σ.set i (some v)) H s'->(∃a,Heap.SameBut a s.heap s'.heap/\(a=X.env.locals∨X.env.cells.lookup x=some a))->Q () s') (hf:X.fn x=true∨X.env.scope.names.lookup x=some .local:=by first|exact .inl rfl|exact .inr rfl|assumption):wpAny M A (storeName X.env x u) Q E s:=by
 obtain⟨m,hn,hl⟩:=id I.loc
 have hcls:(X.env.scope.kind == .class || (X.env.scope.kind == .module&&X.env.locals != X.env.globals))=false:=by rw[I.ok.kind];rfl
 have hiσ:i<σ.length:=by rw[I.len];exact (List.getElem?_eq_some_iff.mp hi).1
 have cne:=I.cne
 have tracked:∀{a:Addr} {h':Heap},(∃o,s.heap.get? a=some o/\H a=none)->Heap.SameBut a s.heap h'->HOk X.prog X.w H h':=fun {a h'} ha hs b ob e=>by
  obtain⟨_,_,hfree⟩:=ha
  refine (I.hok b ob e).stay (fun c w' hc q=>(hs.2 c ?_).trans q) (fun _ q=>q) fun _ _ q=>q
  rintro rfl
  rcases hc with rfl|hc
  ·rw[hfree] at e;cases e
  ·rw[hfree] at hc;cases hc
 rcases hx with hk|hk
 ·refine wpAny_storeName_local hk hn (fun h' hn' hs=>?_) hcls
  obtain⟨oL,_,_,hoL,_⟩:=id hn
  refine h _ ⟨I.ok,I.os,I.bare,⟨fun b o e n hb hx=>?_,fun b o e n hb hx=>?_,I.base.free,fun b o e hx=>?_,I.base.tups,I.base.frzs,I.base.tbls⟩,⟨_,hn',fun j y v' e1 e2 e3=>?_⟩,fun y c e=>?_,I.free,I.freeC,fun p hp=>?_,tracked ⟨oL,hoL,I.free⟩ hs,by simpa using I.len⟩ ⟨_,hs,.inl rfl⟩
  ·exact (hs.2 b (Nat.ne_of_lt (Nat.lt_of_lt_of_le (Heap.lt_size e) I.ok.above))).trans (I.base.keep b o e n hb hx)
  ·obtain⟨sl,e1⟩:=I.base.slot b o e n hb hx
   exact⟨sl,(hs.2 b (Nat.ne_of_lt (Nat.lt_of_lt_of_le (Heap.lt_size e) I.ok.above))).trans e1⟩
  ·obtain⟨o',e1⟩:=I.base.there b o e hx
   exact⟨o',(hs.2 b (Nat.ne_of_lt (Nat.lt_of_lt_of_le (Heap.lt_size e) I.ok.above))).trans e1⟩
  ·by_cases hj:j=i
   ·subst hj
    rw[hi] at e1;cases e1
    rw[List.getElem?_set_self hiσ] at e2
    cases e2
    exact⟨u,r,.inl ⟨hk,by simp⟩⟩
   ·rw[List.getElem?_set_ne (Ne.symm hj)] at e2
    obtain⟨u',r',q⟩:=hl j y v' e1 e2 e3
    refine⟨u',r',?_⟩
    rcases q with⟨k,e⟩|⟨k,c,e,z⟩
    ·refine .inl ⟨k,?_⟩
     have:y≠x:=fun e=>hj (eZ_ hN e1 (e▸hi))
     simp[this,e]
    ·exact .inr ⟨k,c,e,z.sameBut hs (cne y c e)⟩
  ·obtain⟨w',z⟩:=I.cell y c e
   exact⟨w',z.sameBut hs (cne y c e)⟩
  ·obtain⟨e,n,ne,nf,d⟩:=I.pin p hp
   exact⟨(hs.2 p.1 ne).trans e,n,ne,nf,d⟩
 ·have hfn:X.fn x=true:=by
   rcases hf with z|z
   ·exact z
   ·rw[z] at hk;cases hk
  obtain⟨c,hc⟩:=I.ok.has x (.inl hk)
  obtain⟨w',z⟩:=I.cell x c hc
  refine wpAny_storeName_cell I.ok.kind hk hc z (fun h' hc' hs=>?_)
  obtain⟨oc,hoc,hocd⟩:=id z
  refine h { s with heap:=h' } ⟨I.ok,I.os,I.bare,⟨fun b o e n hb hx=>?_,fun b o e n hb hx=>?_,I.base.free,fun b o e hx=>?_,I.base.tups,I.base.frzs,I.base.tbls⟩,⟨m,hn.sameBut hs (Ne.symm (cne x c hc)),fun j y v' e1 e2 e3=>?_⟩,fun y c' e=>?_,I.free,I.freeC,fun p hp=>?_,tracked ⟨oc,hoc,I.freeC x c hc⟩ hs,by simpa using I.len⟩ ⟨c,hs,.inr hc⟩
  ·exact (hs.2 b (Nat.ne_of_lt (Nat.lt_of_lt_of_le (Heap.lt_size e) (I.ok.cab x c hfn hc)))).trans (I.base.keep b o e n hb hx)
  ·obtain⟨sl,e1⟩:=I.base.slot b o e n hb hx
   exact⟨sl,(hs.2 b (Nat.ne_of_lt (Nat.lt_of_lt_of_le (Heap.lt_size e) (I.ok.cab x c hfn hc)))).trans e1⟩
  ·obtain⟨o',e1⟩:=I.base.there b o e hx
   exact⟨o',(hs.2 b (Nat.ne_of_lt (Nat.lt_of_lt_of_le (Heap.lt_size e) (I.ok.cab x c hfn hc)))).trans e1⟩
  ·by_cases hj:j=i
   ·subst hj
    rw[hi] at e1;cases e1
    rw[List.getElem?_set_self hiσ] at e2
    cases e2
    exact⟨u,r,.inr ⟨.inl hk,c,hc,hc'⟩⟩
   ·rw[List.getElem?_set_ne (Ne.symm hj)] at e2
    obtain⟨u',r',q⟩:=hl j y v' e1 e2 e3
    refine⟨u',r',?_⟩
    rcases q with q|⟨k,c',e,z'⟩
    ·exact .inl q
    ·refine .inr ⟨k,c',e,z'.sameBut hs ?_⟩
     rintro rfl
     exact hj (eZ_ hN e1 (I.ok.inj _ _ _ e hc▸hi))
  ·by_cases hcc:c'=c
   ·subst hcc;exact⟨_,hc'⟩
   ·obtain⟨w2,z2⟩:=I.cell y c' e
    exact⟨w2,z2.sameBut hs hcc⟩
  ·obtain⟨e,n,ne,nf,d⟩:=I.pin p hp
   refine⟨(hs.2 p.1 ?_).trans e,n,ne,nf,d⟩
   intro q
   rw[q,hoc] at e
   have q':oc=p.2:=Option.some.inj e
   exact d w' (by rw[<- q'];exact hocd)
theorem eD_{M:Model}{A:Around}{E:Value->Shared->Prop}{i:Nat}{x:Str}{v:V}{u:Value}{Q:Unit->Shared->Prop}(I:Inv X pins σ H s)(hN:X.N.Nodup)(hi:X.N[i]? = some x)(hx:Loc X.env.scope x)(r:RelV v u)
  (h:∀s',Inv X pins (σ.set i (some v)) H s'->Q () s') (hf:X.fn x=true∨X.env.scope.names.lookup x=some .local:=by first|exact .inl rfl|exact .inr rfl|assumption):wpAny M A (storeName X.env x u) Q E s:=
 dO_ I hN hi hx r (fun s' I' _=>h s' I') hf
theorem Inv.call'{s':Shared}{ch:List Addr}(I:Inv X pins σ H s)(ho:s'.os=s.os)(u:Un (frs X.stack) ch H H' s.heap s'.heap)(hok:HOk X.prog X.w H' s'.heap)(hg:AllBare s'.gens)
  (hch:∀b∈ch,(b∈X.ex∨X.s₀.heap.objs.size<=b)/\b≠X.env.locals/\(∀x c,X.env.cells.lookup x=some c->c≠b)/\∀p∈X.pn++pins,p.1≠b):Inv X pins σ H' s':=by
 obtain⟨h',g',d',t',o'⟩:=s'
 have e:o'=s.os:=ho
 subst e
 exact I.call (g':=g') (t':=t') (d':=d') u hok hg hch
end
abbrev XK:=Value->Option Addr->Hp->Prop
abbrev St:=List (Option V)
abbrev VK:=V->Hp->Prop
abbrev TE:=St->Hp->VK->Prop
abbrev TT:=St->Hp->(Bool->Hp->Prop)->Prop
abbrev TA:=St->Hp->(List V->Hp->Prop)->Prop
structure Ends where
 nx:St->Hp->Prop
 rt:VK
 bk:St->Hp->Prop:=fun _ _=>False
 ct:St->Hp->Prop:=fun _ _=>False
abbrev TS:=Ends->St->Hp->Prop
def EP(X:Cx)(pins:List (Addr × Obj))(σ:St)(Q:VK)(u:Value)(s':Shared):Prop:=∃v H',Inv X pins σ H' s'/\RelV v u/\Q v H'
def TP(X:Cx)(pins:List (Addr × Obj))(σ:St)(Q:Bool->Hp->Prop)(b:Bool)(s':Shared):Prop:=∃H',Inv X pins σ H' s'/\Q b H'
def AP(X:Cx)(pins:List (Addr × Obj))(σ:St)(Q:List V->Hp->Prop)(us:List Value)(s':Shared):Prop:=∃vs H',Inv X pins σ H' s'/\Vals vs us/\Q vs H'
def SP(X:Cx)(pins:List (Addr × Obj))(D:Ends)(f:Flow)(s':Shared):Prop:=
 match f with
 |.next=>∃σ' H',Inv X pins σ' H' s'/\D.nx σ' H'
 |.brk=>∃σ' H',Inv X pins σ' H' s'/\D.bk σ' H'
 |.cont=>∃σ' H',Inv X pins σ' H' s'/\D.ct σ' H'
 |.ret u=>∃v σ' H',Inv X pins σ' H' s'/\RelV v u/\D.rt v H'
def PE(X:Cx)(e:Expr)(t:TE):Prop:=
 ∀(pins:List (Addr × Obj)) (s:Shared) (σ:St) (H:Hp) (Q:VK),Inv X pins σ H s->t σ H Q->wpAny (model X.prog X.w) X.A (eval e X.env) (EP X pins σ Q) X.xe s
def PT(X:Cx)(e:Expr)(t:TT):Prop:=
 ∀(pins:List (Addr × Obj)) (s:Shared) (σ:St) (H:Hp) (Q:Bool->Hp->Prop),Inv X pins σ H s->t σ H Q->wpAny (model X.prog X.w) X.A (isTrue e X.env (eval e X.env)) (TP X pins σ Q) X.xe s
def PW(X:Cx)(e:Expr)(t:TT):Prop:=
 ∀(whole:Sem Value) (pins:List (Addr × Obj)) (s:Shared) (σ:St) (H:Hp) (Q:Bool->Hp->Prop),Inv X pins σ H s->t σ H Q->wpAny (model X.prog X.w) X.A (isTrue e X.env whole) (TP X pins σ Q) X.xe s
theorem PW.pt{X:Cx}{e:Expr}{t:TT}(h:PW X e t):PT X e t:=h _
def PA(X:Cx)(es:List Expr)(t:TA):Prop:=
 ∀(pos:Pos) (pins:List (Addr × Obj)) (s:Shared) (σ:St) (H:Hp) (Q:List V->Hp->Prop),Inv X pins σ H s->t σ H Q->wpAny (model X.prog X.w) X.A (spliced (backTo pos (starEach es X.env))) (AP X pins σ Q) X.xe s
def PS(X:Cx)(st:Stmt)(t:TS):Prop:=
 ∀(pins:List (Addr × Obj)) (s:Shared) (σ:St) (H:Hp) (D:Ends),Inv X pins σ H s->t D σ H->wpAny (model X.prog X.w) X.A (exec st X.env) (SP X pins D) X.xe s
def PSs(X:Cx)(st:List Stmt)(t:TS):Prop:=
 ∀(pins:List (Addr × Obj)) (s:Shared) (σ:St) (H:Hp) (D:Ends),Inv X pins σ H s->t D σ H->wpAny (model X.prog X.w) X.A (execs st X.env) (SP X pins D) X.xe s
theorem thn{α:Type}{t:Sem α}{Q Q':α->Shared->Prop}{M:Model}{A:Around}{E:Value->Shared->Prop}{s:Shared}(h:wpAny M A t Q E s)(hQ:∀a s,Q a s->Q' a s):wpAny M A t Q' E s:=wpAny_mono h hQ fun _ _ x=>x
end L2
namespace L2
open PySem PySem.Spec PyProof.Rows
section
variable{X:Cx}
def tVar(i:Nat):TE:=fun σ H Q=>∃v,σ[i]? = some (some v)/\Q v H
def tC(v:V):TE:=fun _ H Q=>Q v H
theorem jL_{i:Nat}{x:Str}{pos:Pos}(hN:X.N[i]? = some x)(hv:Vis X.env.scope x)(hd:(x == ("__debug__":Str))=false:=by decide)(hcd:(x == ("__classdict__":Str))=false:=by decide):PE X (.Name x pos) (tVar i):=by
 intro pins s σ H Q I h
 obtain⟨v,e,h⟩:=h
 obtain⟨m,hn,hl⟩:=I.loc
 obtain⟨u,r,l⟩:=hl i x v hN e hv
 have fin:EP X pins σ Q u s:=⟨v,H,I,r,h⟩
 rcases l with⟨hk,hm⟩|⟨hk,c,hc,hcell⟩
 ·exact wpAny_Name (wpAny_loadName_local I.ok.kind hk hn hm fin) hd
 ·rcases hk with hk|hk
  ·exact wpAny_Name (wpAny_loadName_cell I.ok.kind hk hc hcell fin) hd
  ·exact wpAny_Name (wpAny_loadName_free I.ok.kind hk hc hcell fin hcd) hd
theorem a6_{i j pos}:PE X (.Constant (.int i) j pos) (tC (.int i)):=fun _ _ _ H _ I h=>wpAny_Constant_int ⟨.int i,H,I.tok _,⟨_,rfl⟩,h⟩
theorem gH_{b j pos}:PE X (.Constant (.bool b) j pos) (tC (.bl b)):=fun _ _ _ H _ I h=>Constant_bool ⟨.bl b,H,I,rfl,h⟩
theorem fg_{j pos}:PE X (.Constant .none j pos) (tC .non):=fun _ _ _ H _ I h=>Constant_none ⟨.non,H,I,rfl,h⟩
theorem cS_{x j pos}:PE X (.Constant (.str x) j pos) (tC (.str x)):=fun _ _ _ H _ I h=>Calls.Constant_str ⟨.str x,H,I.tok _,⟨_,rfl⟩,h⟩
def Gl(X:Cx)(x:Str):Prop:=X.env.kindOf x=some .globalImplicit
theorem dm_{E:Value->Shared->Prop}{pins:List (Addr × Obj)}{s:Shared}{σ:St}{H:Hp}{x:Str}{u:Value}{pos:Pos}{Q:Value->Shared->Prop}(I:Inv X pins σ H s)(hg:Gl X x)(hm:X.mg x=some u)(h:Q u s)
  (hd:(x == ("__debug__":Str))=false:=by decide):wpAny (model X.prog X.w) X.A (eval (.Name x pos) X.env) Q E s:=
 Calls.Name_function_global I.ok.kind hg (Calls.loadGlobal_global (by rw[I.ok.glob];exact I.mod.glob.keeps I.bk) hm h) hd
theorem cO_{E:Value->Shared->Prop}{pins:List (Addr × Obj)}{s:Shared}{σ:St}{H:Hp}{x:Str}{u:Value}{pos:Pos}{Q:Value->Shared->Prop}(I:Inv X pins σ H s)(hg:Gl X x)(hm:X.mg x=none)(hv:bootBuiltins x=some u)(h:Q u s)
  (hn:x≠"__name__":=by decide) (hd:(x == ("__debug__":Str))=false:=by decide):wpAny (model X.prog X.w) X.A (eval (.Name x pos) X.env) Q E s:=by
 obtain⟨mb,h1,h2⟩:=I.mod.blt
 exact Calls.Name_function_global I.ok.kind hg (Calls.loadGlobal_builtin (by rw[I.ok.glob];exact I.mod.glob.keeps I.bk) hm (by rw[I.ok.blt];exact h1.keeps I.bk) ((h2 x hn).trans hv) h) hd
theorem cs_{x:Str}{v:V}{u:Value}{pos:Pos}(hg:Gl X x)(hm:X.mg x=some u)(r:RelV v u)(hd:(x == ("__debug__":Str))=false:=by decide):PE X (.Name x pos) (tC v):=
 fun _ _ _ H _ I h=>dm_ I hg hm ⟨v,H,I,r,h⟩ hd
theorem aT_{x:Str}{v:V}{u:Value}{pos:Pos}(hg:Gl X x)(hm:X.mg x=none)(hv:bootBuiltins x=some u)(r:RelV v u)(hn:x≠"__name__":=by decide)(hd:(x == ("__debug__":Str))=false:=by decide):PE X (.Name x pos) (tC v):=
 fun _ _ _ H _ I h=>cO_ I hg hm hv ⟨v,H,I,r,h⟩ hn hd
variable{a b:Expr}{ta tb:TE}{pos:Pos}
def PC(X:Cx)(op:CmpOp)(a b:Expr)(t:TE):Prop:=
 ∀(pins:List (Addr × Obj)) (s:Shared) (σ:St) (H:Hp) (Q:VK),Inv X pins σ H s->t σ H Q->
  wpAny (model X.prog X.w) X.A (eval a X.env) (fun v s₁=>wpAny (model X.prog X.w) X.A (eval b X.env) (fun u s₂=>wpAny (model X.prog X.w) X.A (compareOp op v u) (EP X pins σ Q) X.xe s₂) X.xe s₁) X.xe s
theorem nobehind(b:Expr){op:CmpOp}(h:op≠.In)(h2:op≠.NotIn):behindInMarks op b=false:=by
 have e1:(op == CmpOp.In)=false:=by cases op<;>first|rfl|exact absurd rfl h
 have e2:(op == CmpOp.NotIn)=false:=by cases op<;>first|rfl|exact absurd rfl h2
 cases b<;>simp[behindInMarks,e1,e2]
def tIsN(ta:TE):TE:=fun σ H Q=>ta σ H fun x H1=>Q (.bl (decide (x=.non))) H1
theorem RelV.none_iff{x:V}{v:Value}(r:RelV x v):(v == Value.none)=decide (x=.non):=by
 cases x with
 |non=>cases r;rfl
 |bl _=>cases r;rfl
 |int _=>obtain⟨t,rfl⟩:=r;rfl
 |str _=>obtain⟨t,rfl⟩:=r;rfl
 |byt _=>obtain⟨t,rfl⟩:=r;rfl
 |flt _=>obtain⟨t,rfl⟩:=r;rfl
 |ref _=>cases r;rfl
 |ty _=>cases r;rfl
theorem cZ_{j pos'}(ha:PE X a ta):PC X .Is a (.Constant .none j pos') (tIsN ta):=by
 intro pins s σ H Q I h
 refine thn (ha pins s σ H _ I h) fun v s1 ⟨x,H1,I1,r1,q1⟩=>?_
 exact Constant_none (is_none_gen ⟨.bl _,H1,I1,by rw[r1.none_iff];rfl,q1⟩)
def tB(t:TE):TT:=fun σ H Q=>t σ H fun x H1=>∃c,x=.bl c/\Q c H1
theorem eN_{op:CmpOp}{t:TE}(h:PC X op a b t)(h1:behindInMarks op b=false:=by first|exact nobehind _ (by decide) (by decide)|rfl):PE X (.Compare a [op] [b] pos) t:=fun pins s σ H Q I hw=>wpAny_Compare1 (h pins s σ H Q I hw) h1
theorem bC_{op:CmpOp}{t:TE}(h:PC X op a b t)(h1:behindInMarks op b=false:=by first|exact nobehind _ (by decide) (by decide)|rfl):PT X (.Compare a [op] [b] pos) (tB t):=by
 intro pins s σ H Q I hw
 refine wpAny_isTrue_Compare1 (thn (h pins s σ H _ I hw) fun v s1 h1=>thn h1 fun u s2 h2=>thn h2 fun c s3 ⟨x,H1,I1,r1,q1⟩=>?_) h1
 obtain⟨d,rfl,q⟩:=q1
 cases r1
 exact wpAny_truthy_bool ⟨H1,I1,q⟩
theorem aH_{e:Expr}{t:TE}(h:PE X e t)(he:∀whole,isTrue e X.env whole=(do let v <- whole;standAt e.pos;holding [v] (truthy v)):=by intro _;rfl):PT X e (tB t):=by
 intro pins s σ H Q I hw
 refine isTrue_plain (thn (h pins s σ H _ I hw) fun v s1 ⟨x,H1,I1,r1,q1⟩=>?_) (he _)
 obtain⟨d,rfl,q⟩:=q1
 cases r1
 exact wpAny_truthy_bool ⟨H1,I1,q⟩
variable{tA tB':TT}{rest:List Expr}
def tAnd(t u:TT):TT:=fun σ H Q=>t σ H fun c H1=>if c=true then u σ H1 Q else Q false H1
def tOr(t u:TT):TT:=fun σ H Q=>t σ H fun c H1=>if c=true then Q true H1 else u σ H1 Q
def tNot(t:TT):TT:=fun σ H Q=>t σ H fun c H1=>Q (!c) H1
theorem iV_(ha:PT X a tA):PW X (.BoolOp .And [a] pos) tA:=by
 intro wh pins s σ H Q I h
 refine isTrue_and (thn (ha pins s σ H Q I h) fun c s1 e=>?_)
 cases c with
 |true=>exact isTrue_and_nil e
 |false=>exact e
theorem bD_(ha:PT X a tA):PW X (.BoolOp .Or [a] pos) tA:=by
 intro wh pins s σ H Q I h
 refine isTrue_or (thn (ha pins s σ H Q I h) fun c s1 e=>?_)
 cases c with
 |false=>exact isTrue_or_nil e
 |true=>exact e
theorem il_(ha:PT X a tA)(hb:PW X (.BoolOp .And (b::rest) pos) tB'):PW X (.BoolOp .And (a::b::rest) pos) (tAnd tA tB'):=by
 intro wh pins s σ H Q I h
 refine isTrue_and (thn (ha pins s σ H _ I h) fun c s1 ⟨H1,I1,q1⟩=>?_)
 cases c with
 |true=>exact hb wh pins s1 σ H1 Q I1 q1
 |false=>exact⟨H1,I1,q1⟩
theorem cW_(ha:PT X a tA)(hb:PW X (.BoolOp .Or (b::rest) pos) tB'):PW X (.BoolOp .Or (a::b::rest) pos) (tOr tA tB'):=by
 intro wh pins s σ H Q I h
 refine isTrue_or (thn (ha pins s σ H _ I h) fun c s1 ⟨H1,I1,q1⟩=>?_)
 cases c with
 |true=>exact⟨H1,I1,q1⟩
 |false=>exact hb wh pins s1 σ H1 Q I1 q1
theorem aC_(ha:PT X a tA):PT X (.UnaryOp .Not a pos) (tNot tA):=by
 intro pins s σ H Q I h
 exact isTrue_not (ha pins s σ H (fun c H1=>Q (!c) H1) I h)
def tAndV(ta tb:TE):TE:=fun σ H Q=>ta σ H fun x H1=>∃c,x=.bl c/\if c=true then tb σ H1 Q else Q (.bl false) H1
def tNotV(ta:TE):TE:=fun σ H Q=>ta σ H fun x H1=>∃c,x=.bl c/\Q (.bl (!c)) H1
theorem cf_{op}{t:TE}(h:PE X a t):PE X (.BoolOp op [a] pos) t:=fun pins s σ H Q I hw=>BoolOp_one (h pins s σ H Q I hw)
theorem bE_(ha:PE X a ta)(hb:PE X (.BoolOp .And (b::rest) pos) tb):PE X (.BoolOp .And (a::b::rest) pos) (tAndV ta tb):=by
 intro pins s σ H Q I h
 refine BoolOp_and (thn (ha pins s σ H _ I h) fun v s1 ⟨x,H1,I1,r1,q1⟩=>?_)
 obtain⟨c,rfl,q1⟩:=q1
 cases r1
 refine wpAny_truthy_bool ?_
 cases c with
 |true=>exact hb pins s1 σ H1 Q I1 q1
 |false=>exact⟨.bl false,H1,I1,rfl,q1⟩
theorem jO_(ha:PE X a ta):PE X (.UnaryOp .Not a pos) (tNotV ta):=by
 intro pins s σ H Q I h
 refine UnaryOp_ (thn (ha pins s σ H _ I h) fun v s1 ⟨x,H1,I1,r1,q1⟩=>?_)
 obtain⟨c,rfl,q1⟩:=q1
 cases r1
 exact not_of (wpAny_truthy_bool ⟨.bl (!c),H1,I1,rfl,q1⟩)
def tIf(t:TT)(ta tb:TE):TE:=fun σ H Q=>t σ H fun c H1=>if c=true then ta σ H1 Q else tb σ H1 Q
theorem fo_{c:Expr}(hc:PT X c tA)(ha:PE X a ta)(hb:PE X b tb):PE X (.IfExp c a b pos) (tIf tA ta tb):=by
 intro pins s σ H Q I h
 refine wpAny_IfExp (thn (hc pins s σ H _ I h) fun d s1 ⟨H1,I1,q1⟩=>?_)
 cases d with
 |true=>exact ha pins s1 σ H1 Q I1 q1
 |false=>exact hb pins s1 σ H1 Q I1 q1
end
end L2
namespace L2
open PySem PySem.Spec PyProof.Rows
def SqL(K:PySem.W.Frag)(H:Hp)(a:Addr)(xs:List V):Prop:=
 Rd H a (.lst xs) ∨
  ∃(o:Obj) (its:Array Value) (n:Nat),K.lookup a=some o/\o.cls=.type "list"/\o.dict=none/\o.data=.seq its n/\its.size<=sizeLine/\Vals xs its.toList
def SqT(K:PySem.W.Frag)(H:Hp)(a:Addr)(xs:List V):Prop:=
 Rd H a (.tup xs) ∨
  ∃(o:Obj) (its:Array Value) (n:Nat),K.lookup a=some o/\o.cls=.type "tuple"/\o.data=.seq its n/\its.size<=sizeLine/\Vals xs its.toList
def absV:Value->Option V
 |.none=>some .non
 |.bool b=>some (.bl b)
 |.int i _=>some (.int i)
 |.str x _=>some (.str x)
 |.bytes b _=>some (.byt b)
 |.float b _=>some (.flt b)
 |.ref a=>some (.ref a)
 |.type n=>some (.ty n)
 |_=>none
theorem RelV.abs{x:V}{u:Value}(r:RelV x u):absV u=some x:=by
 cases x with
 |non=>cases r;rfl
 |bl _=>cases r;rfl
 |int _=>obtain⟨t,rfl⟩:=r;rfl
 |str _=>obtain⟨t,rfl⟩:=r;rfl
 |byt _=>obtain⟨t,rfl⟩:=r;rfl
 |flt _=>obtain⟨t,rfl⟩:=r;rfl
 |ref _=>cases r;rfl
 |ty _=>cases r;rfl
theorem RelV.inj{x y:V}{u:Value}(r:RelV x u)(q:RelV y u):x=y:=Option.some.inj (r.abs.symm.trans q.abs)
theorem Vals.inj:∀{xs ys:List V} {us:List Value},Vals xs us->Vals ys us->xs=ys
 |_,_,_,.nil,.nil=>rfl
 |_,_,_,.cons r t,.cons r' t'=>by rw[r.inj r',Vals.inj t t']
section
variable{X:Cx}{pins:List (Addr × Obj)}{σ:St}{H:Hp}{s:Shared}{a:Addr}{xs ys:List V}
theorem SqL.of{K:PySem.W.Frag}(h:H a=some (.lst xs)):SqL K H a xs:=.inl (.inl h)
theorem SqT.of{K:PySem.W.Frag}(h:H a=some (.tup xs)):SqT K H a xs:=.inl (.inl h)
theorem Inv.list(I:Inv X pins σ H s)(h:SqL X.K H a xs):∃its:List Value,Vals xs its/\PlainL s.heap a its.toArray/\xs.length<=sizeLine:=by
 rcases h with h|⟨o,its,n,hk,hc,hd,hs,hz,r⟩
 ·obtain⟨z,its,n,r,e⟩:=h.ok I.hok
  exact⟨its,r,⟨_,n,e,rfl,rfl,rfl⟩,z⟩
 ·refine⟨its.toList,r,⟨o,n,I.kIn a o hk,hc,hd,by simpa using hs⟩,?_⟩
  have e:=r.length
  simp only[Array.length_toList] at e
  omega
theorem Inv.tuple(I:Inv X pins σ H s)(h:SqT X.K H a xs):∃its:List Value,Vals xs its/\IsTup s.heap a its.toArray/\xs.length<=sizeLine:=by
 rcases h with h|⟨o,its,n,hk,hc,hs,hz,r⟩
 ·obtain⟨z,its,r,p,_⟩:=h.ok I.hok
  exact⟨its,r,p,z⟩
 ·refine⟨its.toList,r,⟨o,I.kIn a o hk,hc,n,by simpa using hs⟩,?_⟩
  have e:=r.length
  simp only[Array.length_toList] at e
  omega
theorem Inv.list_inj(I:Inv X pins σ H s)(h:SqL X.K H a xs)(h':SqL X.K H a ys):xs=ys:=by
 obtain⟨its,r,⟨o,n,e,_,_,d⟩,_⟩:=I.list h
 obtain⟨its',r',⟨o',n',e',_,_,d'⟩,_⟩:=I.list h'
 rw[e] at e';cases e'
 rw[d] at d'
 injection d' with d1 _
 have:its=its':=by simpa using congrArg Array.toList d1
 subst this
 exact r.inj r'
theorem Inv.tuple_inj(I:Inv X pins σ H s)(h:SqT X.K H a xs)(h':SqT X.K H a ys):xs=ys:=by
 obtain⟨its,r,⟨o,e,_,n,d⟩,_⟩:=I.tuple h
 obtain⟨its',r',⟨o',e',_,n',d'⟩,_⟩:=I.tuple h'
 rw[e] at e';cases e'
 rw[d] at d'
 injection d' with d1 _
 have:its=its':=by simpa using congrArg Array.toList d1
 subst this
 exact r.inj r'
end
abbrev Cx.wish(X:Cx)(E:Value->Shared->Prop):Cx:={ X with xe:=E }
abbrev Cx.nox(X:Cx):Cx:=X.wish fun _ _=>False
theorem Cx.Ok.wish{X:Cx}(ok:X.Ok)(E:Value->Shared->Prop):(X.wish E).Ok:=
 ⟨ok.mod,ok.kind,ok.glob,ok.blt,ok.above,ok.inj,ok.has,ok.cab,ok.hd,ok.frames,ok.stk,ok.exf,ok.bs,ok.bsz,ok.noex,ok.exfs,ok.funs,ok.frf⟩
theorem Cx.Ok.unwish{X:Cx}{E:Value->Shared->Prop}(ok:(X.wish E).Ok):X.Ok:=
 ⟨ok.mod,ok.kind,ok.glob,ok.blt,ok.above,ok.inj,ok.has,ok.cab,ok.hd,ok.frames,ok.stk,ok.exf,ok.bs,ok.bsz,ok.noex,ok.exfs,ok.funs,ok.frf⟩
section
variable{X:Cx}{pins:List (Addr × Obj)}{σ:St}{H:Hp}{s:Shared}{E:Value->Shared->Prop}
theorem Inv.wish(I:Inv X pins σ H s)(E:Value->Shared->Prop):Inv (X.wish E) pins σ H s:=⟨I.ok.wish E,I.os,I.bare,I.base,I.loc,I.cell,I.free,I.freeC,I.pin,I.hok,I.len⟩
theorem Inv.unwish(I:Inv (X.wish E) pins σ H s):Inv X pins σ H s:=⟨I.ok.unwish,I.os,I.bare,I.base,I.loc,I.cell,I.free,I.freeC,I.pin,I.hok,I.len⟩
theorem SP.unwish{D:Ends}{f:Flow}{s':Shared}(h:SP (X.wish E) pins D f s'):SP X pins D f s':=by
 cases f with
 |next=>obtain⟨σ',H',I,q⟩:=h;exact⟨σ',H',I.unwish,q⟩
 |brk=>obtain⟨σ',H',I,q⟩:=h;exact⟨σ',H',I.unwish,q⟩
 |cont=>obtain⟨σ',H',I,q⟩:=h;exact⟨σ',H',I.unwish,q⟩
 |ret u=>obtain⟨v,σ',H',I,r,q⟩:=h;exact⟨v,σ',H',I.unwish,r,q⟩
theorem PSs.nox{st:List Stmt}{t:TS}(h:PSs X.nox st t):PSs X st t:=fun pins s σ H D I hw=>
 wpAny_mono (h pins s σ H D (I.wish _) hw) (fun _ _ q=>q.unwish) fun _ _ z=>False.elim z
end
section
variable{X:Cx}{st:Stmt}{rest:List Stmt}{t u:TS}{e:Expr}{te:TE}{pos:Pos}
def tNext:TS:=fun D σ H=>D.nx σ H
def tSeq(t u:TS):TS:=fun D σ H=>t { D with nx:=u D } σ H
theorem af_:PSs X [] tNext:=fun _ _ σ H _ I h=>wpAny_execs_nil ⟨σ,H,I,h⟩
theorem a3_(h1:PS X st t)(h2:PSs X rest u):PSs X (st::rest) (tSeq t u):=by
 intro pins s σ H D I h
 refine wpAny_execs_cons (thn (h1 pins s σ H { D with nx:=u D } I h) fun f s1 q=>?_)
 cases f with
 |next=>
  obtain⟨σ',H',I',q⟩:=q
  exact h2 pins s1 σ' H' D I' q
 |ret v=>exact q
 |brk=>exact q
 |cont=>exact q
theorem a5_(h1:PS X st t):PSs X [st] t:=by
 intro pins s σ H D I h
 refine wpAny_execs_cons (thn (h1 pins s σ H D I h) fun f s1 q=>?_)
 cases f with
 |next=>exact wpAny_execs_nil q
 |ret v=>exact q
 |brk=>exact q
 |cont=>exact q
theorem Inv.quiet{pins:List (Addr × Obj)}{σ:St}{H:Hp}{s:Shared}(I:Inv X pins σ H s):interactive X.env=false:=by simp[interactive,I.ok.kind]
def tDrop(te:TE):TS:=fun D σ H=>te σ H fun _ H1=>D.nx σ H1
theorem cE_(he:PE X e te)(hs:swapsWith e none pos.line X.env=pure false:=by rfl):PS X (.Expr e pos) (tDrop te):=by
 intro pins s σ H D I h
 exact wpAny_Expr_any (thn (he pins s σ H _ I h) fun v s1 ⟨x,H1,I1,r1,q1⟩=>⟨σ,H1,I1,q1⟩) I.quiet hs
def tRet(te:TE):TS:=fun D σ H=>te σ H D.rt
theorem ad_(he:PE X e te):PS X (.Return (some e) pos) (tRet te):=by
 intro pins s σ H D I h
 exact wpAny_Return_some (thn (he pins s σ H _ I h) fun v s1 ⟨x,H1,I1,r1,q1⟩=>⟨x,σ,H1,I1,r1,q1⟩)
def tIfS(c:TT)(t u:TS):TS:=fun D σ H=>c σ H fun b H1=>if b=true then t D σ H1 else u D σ H1
theorem ax_{c:Expr}{a b:List Stmt}{tc:TT}(hc:PT X c tc)(ha:PSs X a t)(hb:PSs X b u):PS X (.If c a b pos) (tIfS tc t u):=by
 intro pins s σ H D I h
 refine wpAny_If (thn (hc pins s σ H _ I h) fun d s1 ⟨H1,I1,q1⟩=>?_)
 cases d with
 |true=>exact ha pins s1 σ H1 D I1 q1
 |false=>exact hb pins s1 σ H1 D I1 q1
def tNever:TS:=fun _ _ _=>False
theorem ae_{sts:List Stmt}:PSs X sts tNever:=fun _ _ _ _ _ _ h=>h.elim
end
abbrev TG:=V->St->Hp->(St->Hp->Prop)->Prop
abbrev TGs:=List V->St->Hp->(St->Hp->Prop)->Prop
def PG(X:Cx)(target:Expr)(t:TG):Prop:=
 ∀(pins:List (Addr × Obj)) (s:Shared) (σ:St) (H:Hp) (v:V) (u:Value) (Q:St->Hp->Prop),Inv X pins σ H s->RelV v u->t v σ H Q->
  wpAny (model X.prog X.w) X.A (assign target X.env u) (fun _ s'=>∃σ' H',Inv X pins σ' H' s'/\Q σ' H') X.xe s
def PGs(X:Cx)(ts:List Expr)(t:TGs):Prop:=
 ∀(pins:List (Addr × Obj)) (s:Shared) (σ:St) (H:Hp) (vs:List V) (us:List Value) (Q:St->Hp->Prop),Inv X pins σ H s->Vals vs us->t vs σ H Q->
  wpAny (model X.prog X.w) X.A (assignInOrder ((assignEach ts X.env).map (·.2)) us) (fun _ s'=>∃σ' H',Inv X pins σ' H' s'/\Q σ' H') X.xe s
abbrev TSet:=V->V->V->Hp->(Hp->Prop)->Prop
def PSet(X:Cx)(t:TSet):Prop:=
 ∀(pins:List (Addr × Obj)) (s:Shared) (σ:St) (H:Hp) (o i v:V) (ov iv u:Value) (Q:Hp->Prop),Inv X pins σ H s->RelV o ov->RelV i iv->RelV v u->t o i v H Q->
  wpAny (model X.prog X.w) X.A (setItem ov iv u) (fun _ s'=>∃H',Inv X pins σ H' s'/\Q H') X.xe s
section
variable{X:Cx}{pos:Pos}
def gName(i:Nat):TG:=fun v σ H Q=>Q (σ.set i (some v)) H
theorem a8_{i:Nat}{x:Str}(hN:X.N.Nodup)(hi:X.N[i]? = some x)(hx:Loc X.env.scope x)(hf:X.fn x=true∨X.env.scope.names.lookup x=some .local:=by first|exact .inl rfl|exact .inr rfl|assumption):PG X (.Name x pos) (gName i):=by
 intro pins s σ H v u Q I r h
 exact wpAny_assign_Name (eD_ I hN hi hx r (fun s' I'=>⟨_,H,I',h⟩) hf)
def gNil:TGs:=fun vs σ H Q=>vs=[]/\Q σ H
def gCons(t:TG)(u:TGs):TGs:=fun vs σ H Q=>∃v r,vs=v::r/\t v σ H fun σ' H'=>u r σ' H' Q
theorem aF_:PGs X [] gNil:=by
 intro pins s σ H vs us Q I r h
 obtain⟨e,h⟩:=h
 subst e
 cases r
 exact assignInOrder_nil ⟨σ,H,I,h⟩
theorem aa_{e:Expr}{es:List Expr}{t:TG}{u:TGs}(h1:PG X e t)(h2:PGs X es u)
  (hs:(assignEach (e::es) X.env).map (·.2)=assign e X.env::(assignEach es X.env).map (·.2):=by rfl):PGs X (e::es) (gCons t u):=by
 intro pins s σ H vs us Q I r h
 obtain⟨v,vr,e1,h⟩:=h
 subst e1
 cases r with
 |cons r rr=>
  rw[hs]
  refine assignInOrder_cons (thn (h1 pins s σ H _ _ _ I r h) fun _ s1 ⟨σ1,H1,I1,q1⟩=>?_)
  exact h2 pins s1 σ1 H1 _ _ Q I1 rr q1
def gTup(K:PySem.W.Frag)(n:Nat)(t:TGs):TG:=fun v σ H Q=>∃a xs,v=.ref a/\SqT K H a xs/\xs.length=n/\t xs σ H Q
theorem bH_{es:List Expr}{k:Nat}{t:TGs}{n:Nat}(hc:X.calm=true)(h:PGs X es t)
  (hn:(assignEach es X.env).length=n:=by rfl) (hst:(assignEach es X.env).findIdx? (·.1)=none:=by rfl):PG X (.Tuple es k pos) (gTup X.K n t):=by
 intro pins s σ H v u Q I r hw
 obtain⟨a,xs,e1,hq,hl,hw⟩:=hw
 subst e1
 cases r
 obtain⟨its,rv,ht,hz⟩:=I.tuple hq
 refine assign_Tuple_tuple (I.ok.hd hc) ht (by simp[hn,<- hl,rv.length]) hst fun h' hx=>?_
 have I1:Inv X pins σ H { s with heap:=h' }:=I.kept (t':=s.toks) fun b o e=>hx b o (Nat.ne_of_lt (Heap.lt_size e)) e
 exact h pins _ σ H xs _ Q I1 (by simpa using rv) hw
def gSub(to ti:TE)(t:TSet):TG:=fun v σ H Q=>to σ H fun o H1=>ti σ H1 fun i H2=>t o i v H2 fun H3=>Q σ H3
theorem g8_{o i:Expr}{to ti:TE}{t:TSet}(ho:PE X o to)(hi:PE X i ti)(hs:PSet X t)
  (ha:∀v,assign (.Subscript o i pos) X.env v=(do
   let ov <- holding [v] (eval o X.env)
   let iv <- holding [v,ov] (eval i X.env)
   standAt pos
   holding [v,ov,iv] (setItem ov iv v)
   release [v,ov,iv] []):=by intro _;rfl):PG X (.Subscript o i pos) (gSub to ti t):=by
 intro pins s σ H v u Q I r h
 rw[ha]
 refine wpAny_bind (wpAny_holding (thn (ho pins s σ H _ I h) fun ov s1 ⟨x,H1,I1,r1,q1⟩=>?_))
 refine wpAny_bind (wpAny_holding (thn (hi pins s1 σ H1 _ I1 q1) fun iv s2 ⟨y,H2,I2,r2,q2⟩=>?_))
 refine wpAny_bind (wpAny_standAt (wpAny_bind (wpAny_holding (thn (hs pins s2 σ H2 x y v ov iv u _ I2 r1 r2 r q2) fun _ s3 ⟨H3,I3,q3⟩=>?_))))
 exact wpAny_release ⟨σ,H3,I3,q3⟩
def tAsg(te:TE)(g:TG):TS:=fun D σ H=>te σ H fun x H1=>g x σ H1 D.nx
theorem f9_{tg e:Expr}{te:TE}{g:TG}(he:PE X e te)(hg:PG X tg g)(hs:swapsWithSole [tg] e pos.line X.env=pure false:=by rfl)(hw:swappedStores [tg] e X.env=pure none:=by rfl)
  (h1:(assignEach [tg] X.env).map (·.2)=[assign tg X.env]:=by rfl):PS X (.Assign [tg] e pos) (tAsg te g):=by
 intro pins s σ H D I h
 refine wpAny_Assign_stores (thn (he pins s σ H _ I h) fun v s1 ⟨x,H1,I1,r1,q1⟩=>?_) hs hw
 rw[h1]
 exact thn (hg pins s1 σ H1 x v _ I1 r1 q1) fun _ s2 q=>q
theorem ab_{i:Nat}{x:Str}{e:Expr}{te:TE}{pos':Pos}(hN:X.N.Nodup)(hi:X.N[i]? = some x)(hx:Loc X.env.scope x)(he:PE X e te)(hs:swapsWith e (some (.Name x pos')) pos.line X.env=pure false:=by rfl)(hf:X.fn x=true∨X.env.scope.names.lookup x=some .local:=by first|exact .inl rfl|exact .inr rfl|assumption) :
  PS X (.Assign [.Name x pos'] e pos) (tAsg te (gName i)):=by
 intro pins s σ H D I h
 refine wpAny_Assign_Name (thn (he pins s σ H _ I h) fun v s1 ⟨y,H1,I1,r1,q1⟩=>?_) hs
 exact eD_ I1 hN hi hx r1 (fun s2 I2=>⟨_,H1,I2,q1⟩) hf
end
section
variable{X:Cx}{pos:Pos}
def tWhile(c:TT)(tb:TS):TS:=fun D σ H=>∃W:Nat->St->Hp->Prop,(∃m,W m σ H)/\∀m σ H,W m σ H->
 c σ H fun b H1=>if b=true then ∃N:St->Hp->Prop,(∀σ' H',N σ' H'->∃m',m'<m/\W m' σ' H')/\tb { D with nx:=N,ct:=N,bk:=D.nx } σ H1 else D.nx σ H1
theorem hi_{c:Expr}{body:List Stmt}{tc:TT}{tb:TS}(hp:PassesOwn (model X.prog X.w) X.A X.env X.xe)(hc:PT X c tc)(hb:PSs X body tb):PS X (.While c body [] pos) (tWhile tc tb):=by
 intro pins s σ H D I h
 obtain⟨W,⟨m0,w0⟩,turn⟩:=h
 refine wpAny_While (codeAny_whileLoop (fun n s'=>∃σ' H',Inv X pins σ' H' s'/\W n σ' H') ?_ m0 ⟨σ,H,I,w0⟩)
 rintro n s1 ⟨σ1,H1,I1,w1⟩
 refine wpAny_passesOwn hp (thn (hc pins s1 σ1 H1 _ I1 (turn n σ1 H1 w1)) fun b s2 ⟨H2,I2,q2⟩=>?_)
 cases b with
 |true=>
  obtain⟨N,hN,q2⟩:=q2
  rw[if_pos rfl]
  refine wpAny_passesOwn hp (thn (hb pins s2 σ1 H2 _ I2 q2) fun f s3 q3=>?_)
  cases f with
  |next=>
   obtain⟨σ3,H3,I3,n3⟩:=q3
   obtain⟨m',hm,w3⟩:=hN σ3 H3 n3
   exact⟨m',hm,σ3,H3,I3,w3⟩
  |cont=>
   obtain⟨σ3,H3,I3,n3⟩:=q3
   obtain⟨m',hm,w3⟩:=hN σ3 H3 n3
   exact⟨m',hm,σ3,H3,I3,w3⟩
  |brk=>exact q3
  |ret v=>exact q3
 |false=>
  rw[if_neg Bool.false_ne_true]
  exact wpAny_execs_nil ⟨σ1,H2,I2,q2⟩
end
structure It where
 go:Nat->Hp->Prop
 yld:Nat->Hp->V->Hp->Prop
 stop:Nat->Hp->Prop
def FpOk(X:Cx)(pins:List (Addr × Obj))(H:Hp)(b:Addr):Prop:=
 H b=none/\b≠X.env.locals/\b∉X.fs/\(b∈X.ex∨X.s₀.heap.objs.size<=b)/\(∀x c,X.env.cells.lookup x=some c->c≠b)/\∀p∈X.pn++pins,p.1≠b
theorem Inv.fpOk{X:Cx}{pins:List (Addr × Obj)}{σ:St}{H H':Hp}{s:Shared}{b:Addr}(I:Inv X pins σ H s)(hb:s.heap.objs.size<=b)(hn:H' b=none):FpOk X pins H' b:=by
 refine⟨hn,Nat.ne_of_gt (Nat.lt_of_lt_of_le I.lt hb),I.nofs hb,.inr (Nat.le_trans I.sz hb),fun x c e z=>?_,fun p hp z=>?_⟩
 ·obtain⟨v,q⟩:=I.cell x c e
  exact absurd (Nat.lt_of_lt_of_le q.lt (by rw[z];exact hb)) (Nat.lt_irrefl _)
 ·exact absurd (Nat.lt_of_lt_of_le (Heap.lt_size (I.pin p hp).1) (by rw[z];exact hb)) (Nat.lt_irrefl _)
structure Turn (P:Program) (w:World) (K:PySem.W.Frag) (tg:Expr) (J:It) (fp:List Addr) (it:Addr) (tn:Nat->Heap->Prop):Prop where
 mem:it∈fp
 obj:∀i h,tn i h->∀b∈fp,∃o,h.get? b=some o/\∀v,o.data≠.cell v
 keep:∀i h h',tn i h->(∀b∈fp,∀o,h.get? b=some o->h'.get? b=some o)->tn i h'
 item:∀(X:Cx),X.prog=P->X.w=w->X.K=K->X.calm=true->∀(i:Nat) (pins:List (Addr × Obj)) (s:Shared) (σ:St) (H:Hp) (E:Value->Shared->Prop),Inv X pins σ H s->(∀b∈fp,FpOk X pins H b)->tn i s.heap->J.go i H->
  wpAny (model P w) X.A (pyNext (.ref it)) (fun r s1=>∃u,r=some u /\
   wpAny (model P w) X.A (letOwnedTupleGo tg (.ref it) u) (fun _ s2=>∃x H',Inv X pins σ H' s2/\RelV x u/\J.yld i H x H'/\tn (i+1) s2.heap/\∀b∈fp,H' b=none) E s1) E s
 done:∀(X:Cx),X.prog=P->X.w=w->X.K=K->X.calm=true->∀(i:Nat) (pins:List (Addr × Obj)) (s:Shared) (σ:St) (H:Hp) (E:Value->Shared->Prop),Inv X pins σ H s->(∀b∈fp,FpOk X pins H b)->tn i s.heap->J.stop i H->
  wpAny (model P w) X.A (pyNext (.ref it)) (fun r s1=>r=none/\Inv X pins σ H s1) E s
 self:∀(A:Around) (i:Nat) (s:Shared) (Q:Value->Shared->Prop) (E:Value->Shared->Prop),tn i s.heap->Q (.ref it) s->wpAny (model P w) A (pyIter (.ref it)) Q E s
abbrev TI:=St->Hp->(It->Hp->Prop)->Prop
def PIE(X:Cx)(pins:List (Addr × Obj))(σ:St)(tg:Expr)(R:It->Hp->Prop)(itv:Value)(s2:Shared):Prop:=
 ∃(it:Addr) (fp:List Addr) (tn:Nat->Heap->Prop) (J:It) (H':Hp),itv=.ref it/\Inv X pins σ H' s2/\Turn X.prog X.w X.K tg J fp it tn/\tn 0 s2.heap/\(∀b∈fp,FpOk X pins H' b)/\R J H'
def PI(X:Cx)(tg iter:Expr)(wi:TI):Prop:=
 ∀(pins:List (Addr × Obj)) (s:Shared) (σ:St) (H:Hp) (R:It->Hp->Prop),Inv X pins σ H s->wi σ H R->
  wpAny (model X.prog X.w) X.A (eval iter X.env) (fun v s1=>wpAny (model X.prog X.w) X.A (pyIter v) (PIE X pins σ tg R) X.xe s1) X.xe s
theorem fK_{M:Model}{A:Around}{E:Value->Shared->Prop}{s:Shared}{tg:Expr}{it:Addr}{u:Value}{o:Obj}{n:String}{vs:Array Value}{Q:Unit->Shared->Prop}(ho:s.heap.get? it=some o)(hc:o.cls=.type n)(hd:o.data=.fields vs)
  (hn:["enumerate","zip","dict_itemiterator","dict_reverseitemiterator","odict_iterator","itertools.zip_longest","itertools.pairwise"].contains n=false) (hQ:Q () s):wpAny M A (letOwnedTupleGo tg (.ref it) u) Q E s:=by
 unfold letOwnedTupleGo
 cases tg<;>first
  |exact wpAny_pure hQ
  |(cases u<;>first
    |exact wpAny_pure hQ
    |(refine wpAny_bind (wpAny_load ho ?_)
      rw[hc,hd]
      show wpAny M A (if (["enumerate","zip","dict_itemiterator","dict_reverseitemiterator","odict_iterator","itertools.zip_longest","itertools.pairwise"].contains n&&vs[0]? == some (rawInt _))=true then _ else _) Q E s
      rw[if_neg (by intro h;rw[hn,Bool.false_and] at h;cases h)]
      exact wpAny_pure hQ))
def Itl(K:PySem.W.Frag)(a:Addr):It:=
 ⟨fun i H=>∃xs x,SqL K H a xs/\xs[i]? = some x,fun i H x H'=>H'=H/\∀xs,SqL K H a xs->xs[i]? = some x,fun i H=>∃xs,SqL K H a xs/\xs.length<=i⟩
def Itr(lo:Int)(n:Nat):It:=⟨fun i _=>i<n,fun i H x H'=>H'=H/\x=.int (lo+i),fun i _=>n<=i⟩
theorem fU_{P:Program}{w:World}{K:PySem.W.Frag}{tg:Expr}(a it:Addr):Turn P w K tg (Itl K a) [it] it (fun i h=>h.IsListIter it a i) where
 mem:=by simp
 obj:=fun i h st b hb=>by
  have e:b=it:=by simpa using hb
  subst e
  obtain⟨o,e,c,d⟩:=st
  exact⟨o,e,fun v z=>by rw[d] at z;cases z⟩
 keep:=fun i h h' st k=>st.at fun o e=>k it (by simp) o e
 item:=by
  intro X hP hw hK hc i pins s σ H E I hf st hg
  subst hP hw hK
  obtain⟨xs,x,hq,hx⟩:=hg
  obtain⟨its,rv,p,hz⟩:=I.list hq
  obtain⟨u,hu,ru⟩:=rv.get hx
  obtain⟨f0,f1,f2,f3,f4,f5⟩:=hf it (by simp)
  refine wpAny_pyNext_list_item st p.isList (x:=u) (by simpa using hu) fun h' st' sb=>?_
  have I1:Inv X pins σ H { s with heap:=h' }:=I.turned (t':=s.toks) (fun b o hb e=>(sb.2 b hb).trans e) f0 f1 f3 f4 f5
  obtain⟨o,e,c,d⟩:=id st'
  exact⟨u,rfl,fK_ (s:={ s with heap:=h' }) e c d (by decide) ⟨x,H,I1,ru,⟨rfl,fun ys hy=>by rw[I.list_inj hy hq];exact hx⟩,st',fun b hb=>(hf b hb).1⟩⟩
 done:=by
  intro X hP hw hK hc i pins s σ H E I hf st hg
  subst hP hw hK
  obtain⟨xs,hq,hx⟩:=hg
  obtain⟨its,rv,p,hz⟩:=I.list hq
  obtain⟨f0,f1,f2,f3,f4,f5⟩:=hf it (by simp)
  have hl:=rv.length
  exact wpAny_pyNext_list_end (I.ok.hd hc) st p.isList (by simp;omega) fun h' eb=>⟨rfl,I.turned (t':=s.toks) (fun b o hb e=>eb b o hb e) f0 f1 f3 f4 f5⟩
 self:=fun _ _ _ _ _ st h=>wpAny_pyIter_listiter st h
theorem ft_{P:Program}{w:World}{K:PySem.W.Frag}{tg:Expr}(it:Addr)(lo:Int)(n:Nat):Turn P w K tg (Itr lo n) [it] it (fun i h=>IsRangeIter h it (lo+(i:Nat) * 1) ((n:Int) - (i:Nat)) 1) where
 mem:=by simp
 obj:=fun i h st b hb=>by
  have e:b=it:=by simpa using hb
  subst e
  exact⟨_,st,fun v z=>by
   have z':Data.fields _=Data.cell v:=z
   cases z'⟩
 keep:=fun i h h' st k=>k it (by simp) _ st
 item:=by
  intro X hP hw hK hc i pins s σ H E I hf st hg
  subst hP hw hK
  obtain⟨f0,f1,f2,f3,f4,f5⟩:=hf it (by simp)
  have W:=Walks.range (prog:=X.prog) (w:=X.w) (I.ok.hd hc) it lo 1 n
  refine W.item i s _ _ hg st fun v h' tk hv st' kk=>?_
  obtain⟨t,rfl⟩:=hv
  have I1:Inv X pins σ H { s with heap:=h',toks:=tk }:=I.turned (fun b o hb e=>kk b o (by simpa using hb) e) f0 f1 f3 f4 f5
  refine⟨_,rfl,fK_ (s:={ s with heap:=h',toks:=tk }) (n:="range_iterator") st' rfl rfl (by decide) ⟨.int (lo+i),H,I1,⟨t,?_⟩,⟨rfl,rfl⟩,st',fun b hb=>(hf b hb).1⟩⟩
  rw[Int.mul_one]
 done:=by
  intro X hP hw hK hc i pins s σ H E I hf st hg
  subst hP hw hK
  obtain⟨f0,f1,f2,f3,f4,f5⟩:=hf it (by simp)
  exact wpAny_pyNext_range_end (I.ok.hd hc) st (by have:n<=i:=hg;omega) fun h' eb=>⟨rfl,I.turned (t':=s.toks) (fun b o hb e=>eb b o hb e) f0 f1 f3 f4 f5⟩
 self:=fun _ _ _ _ _ st h=>wpAny_pyIter_rangeiter st h
end L2
namespace L2
open PySem PySem.Spec PyProof.Rows
section
variable{X:Cx}{tg:Expr}
def iList(K:PySem.W.Frag)(tl:TE):TI:=fun σ H R=>tl σ H fun x H1=>∃a,x=.ref a/\(∃xs,SqL K H1 a xs)/\R (Itl K a) H1
theorem aj_{l:Expr}{tl:TE}(hl:PE X l tl):PI X tg l (iList X.K tl):=by
 intro pins s σ H R I h
 refine thn (hl pins s σ H _ I h) fun v s1 ⟨x,H1,I1,r1,q1⟩=>?_
 obtain⟨a,e,⟨xs,hq⟩,q⟩:=q1
 subst e
 cases r1
 obtain⟨its,rv,p,hz⟩:=I1.list hq
 refine wpAny_pyIter_list p.isList ?_
 refine⟨s1.heap.objs.size,[s1.heap.objs.size],_,_,H1,rfl,I1.kept (t':=s1.toks) fun b o e=>Heap.get?_push_of_some _ e,fU_ a _,⟨_,Heap.get?_push_size _ rfl,rfl,rfl⟩,fun b hb=>?_,q⟩
 have e:b=s1.heap.objs.size:=by simpa using hb
 subst e
 exact I1.fpOk (Nat.le_refl _) (I1.hok.fresh (Nat.le_refl _))
theorem eL_{pins:List (Addr × Obj)}{σ:St}{H:Hp}{s:Shared}{R:It->Hp->Prop}{E:Value->Shared->Prop}{lo hi:Int}{t u v:Tok}{tk:Nat}(I:Inv X pins σ H s)(h1:-(2 ^ 62)<=lo)(h2:lo<2 ^ 62)(h3:-(2 ^ 62)<=hi)(h4:hi<2 ^ 62)
  (q:R (Itr lo (hi - lo).toNat) H):wpAny (model X.prog X.w) X.A (pyIter (.ref s.heap.objs.size)) (PIE X pins σ tg R) E { s with heap:=s.heap.push { cls:=.type "range",data:=.fields #[.int lo t,.int hi u,.int 1 v] },toks:=tk }:=by
 refine wpAny_pyIter_range (IsRange.new ..) (small_one h1 h2 h3 h4) ?_
 have I1:Inv X pins σ H { s with heap:=s.heap.push { cls:=.type "range",data:=.fields #[.int lo t,.int hi u,.int 1 v] },toks:=tk }:=I.kept fun b o e=>Heap.get?_push_of_some _ e
 refine⟨(s.heap.push { cls:=.type "range",data:=.fields #[.int lo t,.int hi u,.int 1 v] }).objs.size,[(s.heap.push { cls:=.type "range",data:=.fields #[.int lo t,.int hi u,.int 1 v] }).objs.size],_,_,H,rfl,
  I1.kept (t':=tk) fun b o e=>Heap.get?_push_of_some _ e,ft_ _ lo (hi - lo).toNat,?_,fun b hb=>?_,q⟩
 ·have e1:lo+((0:Nat):Int) * 1=lo:=by simp
  have e2:(((hi - lo).toNat:Nat):Int) - ((0:Nat):Int)=Builtin.Range.rangeSize lo hi 1:=by rw[rangeSize_one];split<;>omega
  show IsRangeIter _ _ (lo+((0:Nat):Int) * 1) ((((hi - lo).toNat:Nat):Int) - ((0:Nat):Int)) 1
  rw[e1,e2]
  exact Heap.get?_push_size _ rfl
 ·have e:b=(s.heap.push { cls:=.type "range",data:=.fields #[.int lo t,.int hi u,.int 1 v] }).objs.size:=by simpa using hb
  subst e
  exact I1.fpOk (Nat.le_refl _) (I1.hok.fresh (Nat.le_refl _))
def iRng1(ta:TA):TI:=fun σ H R=>ta σ H fun vs H1=>∃j:Int,vs=[.int j]/\-(2 ^ 62)<=j/\j<2 ^ 62/\R (Itr 0 j.toNat) H1
def iRng2(ta:TA):TI:=fun σ H R=>ta σ H fun vs H1=>∃i j:Int,vs=[.int i,.int j]/\(-(2 ^ 62)<=i/\i<2 ^ 62/\-(2 ^ 62)<=j/\j<2 ^ 62)/\R (Itr i (j - i).toNat) H1
theorem dP_{a:Expr}{ta:TA}{p pos:Pos}(hg:Gl X "range")(hm:X.mg "range"=none)(ha:PA X [a] ta)(hs:starEach [a] X.env=[(false,eval a X.env)]:=by rfl):PI X tg (.Call (.Name "range" p) [a] [] pos) (iRng1 ta):=by
 intro pins s σ H R I h
 refine Call_ (cO_ I hg hm boot_range (PyProof.Rows.callWith_type1 (thn (ha pos pins s σ H _ I h) fun us s1 ⟨vs,H1,I1,r1,q1⟩=>?_) hs rfl))
 obtain⟨j,e,q1,q2,q⟩:=q1
 subst e
 cases r1 with
 |cons r rr=>
  cases rr
  obtain⟨t,rfl⟩:=r
  exact call_range_1 (eL_ I1 (by omega) (by omega) q1 q2 (by simpa using q))
theorem h7_{a b:Expr}{ta:TA}{p pos:Pos}(hg:Gl X "range")(hm:X.mg "range"=none)(ha:PA X [a,b] ta)(hs:starEach [a,b] X.env=[(false,eval a X.env),(false,eval b X.env)]:=by rfl)(hs2:starEach [b] X.env=[(false,eval b X.env)]:=by rfl) :
  PI X tg (.Call (.Name "range" p) [a,b] [] pos) (iRng2 ta):=by
 intro pins s σ H R I h
 refine Call_ (cO_ I hg hm boot_range (PyProof.Rows.callWith_type1 (thn (ha pos pins s σ H _ I h) fun us s1 ⟨vs,H1,I1,r1,q1⟩=>?_) (by rw[hs,hs2]) (by rw[hs2];rfl)))
 obtain⟨i,j,e,⟨q1,q2,q3,q4⟩,q⟩:=q1
 subst e
 cases r1 with
 |cons r rr=>
  cases rr with
  |cons r' rr=>
   cases rr
   obtain⟨t,rfl⟩:=r
   obtain⟨t',rfl⟩:=r'
   exact call_range_2 (eL_ I1 q1 q2 q3 q4 q)
def tFor(wi:TI)(g:TG)(tb:TS):TS:=fun D σ H=>wi σ H fun J H1=>∃W:Nat->Nat->St->Hp->Prop,(∃m,W 0 m σ H1)/\∀i m σ H,W i m σ H->
 (J.stop i H/\D.nx σ H)∨(J.go i H/\∃N:St->Hp->Prop,(∀σ' H',N σ' H'->∃m',m'<m/\W (i+1) m' σ' H')/\∀x H',J.yld i H x H'->g x σ H' fun σ2 H2=>tb { D with nx:=N,ct:=N,bk:=D.nx } σ2 H2)
def pinsAt(fp:List Addr)(h:Heap):List (Addr × Obj):=fp.filterMap fun b=>(h.get? b).map fun o=>(b,o)
theorem bz_{fp:List Addr}{h:Heap}{b:Addr}{o:Obj}(hb:b∈fp)(e:h.get? b=some o):(b,o)∈pinsAt fp h:=List.mem_filterMap.mpr ⟨b,hb,by rw[e];rfl⟩
theorem gK_{fp:List Addr}{h:Heap}{p:Addr × Obj}(hp:p∈pinsAt fp h):p.1∈fp/\h.get? p.1=some p.2:=by
 obtain⟨b,hb,e⟩:=List.mem_filterMap.mp hp
 cases q:h.get? b with
 |none=>rw[q] at e;cases e
 |some o=>
  rw[q] at e
  have e':(b,o)=p:=Option.some.inj e
  subst e'
  exact⟨hb,q⟩
theorem Inv.pinned{pins:List (Addr × Obj)}{σ:St}{H:Hp}{s:Shared}{fp:List Addr}(I:Inv X pins σ H s)(hf:∀b∈fp,FpOk X pins H b)(ho:∀b∈fp,∃o,s.heap.get? b=some o/\∀v,o.data≠.cell v):Inv X (pins++pinsAt fp s.heap) σ H s:=
 I.pins_of fun p hp=>(List.mem_append.mp hp).elim (fun z=>I.pin p (List.mem_append_right _ z)) fun z=>by
  obtain⟨hb,e⟩:=gK_ z
  obtain⟨f0,f1,f2,_⟩:=hf p.1 hb
  obtain⟨o,e',d⟩:=ho p.1 hb
  rw[e] at e';cases e'
  exact⟨e,f0,f1,f2,d⟩
theorem Inv.unpinned{pins pl:List (Addr × Obj)}{σ:St}{H:Hp}{s:Shared}(I:Inv X (pins++pl) σ H s):Inv X pins σ H s:=I.pins_of fun p hp=>I.pin p (List.mem_append_right _ (List.mem_append_left _ hp))
theorem aM_{iter:Expr}{body:List Stmt}{wi:TI}{g:TG}{tb:TS}{pos:Pos}(hp:PassesOwn (model X.prog X.w) X.A X.env X.xe)(hc:X.calm=true)(hi:PI X tg iter wi)(hg:PG X tg g)(hb:PSs X body tb)
  (hs:∀x,foldedSetIterable iter X.env x=pure x:=by intro _;rfl):PS X (.For tg iter body [] pos) (tFor wi g tb):=by
 intro pins s σ H D I h
 refine wpAny_For (thn (hi pins s σ H _ I h) fun v s1 h1=>thn h1 fun itv s2 h2=>?_) hs
 obtain⟨it,fp,tn,J,H2,e,I2,T,st2,f2,W,⟨m0,w0⟩,turn⟩:=h2
 subst e
 have stat:∀{H':Hp},(∀b∈fp,H' b=none)->∀b∈fp,FpOk X pins H' b:=fun hn b hb=>⟨hn b hb,(f2 b hb).2⟩
 refine codeAny_forLoop_any (fun n s'=>∃i σ' H',Inv X pins σ' H' s'/\tn i s'.heap/\(∀b∈fp,H' b=none)/\W i n σ' H') ?_ m0 ⟨0,σ,H2,I2,st2,fun b hb=>(f2 b hb).1,w0⟩
 rintro n s3 ⟨i,σ3,H3,I3,st3,fr3,w3⟩
 rcases turn i n σ3 H3 w3 with⟨stop,qn⟩|⟨go,N,hN,step⟩
 ·refine wpAny_passesOwn hp (thn (T.done X rfl rfl rfl hc i pins s3 σ3 H3 X.xe I3 (stat fr3) st3 stop) fun r s4 ⟨hr,I4⟩=>?_)
  subst hr
  exact wpAny_execs_nil ⟨σ3,H3,I4,qn⟩
 ·refine wpAny_passesOwn hp (thn (T.item X rfl rfl rfl hc i pins s3 σ3 H3 X.xe I3 (stat fr3) st3 go) fun r s4 ⟨u,hr,h4⟩=>?_)
  subst hr
  refine wpAny_passesOwn hp (thn h4 fun _ s5 ⟨x,H5,I5,r5,y5,st5,fr5⟩=>?_)
  have I5':=I5.pinned (stat fr5) (T.obj _ _ st5)
  refine wpAny_passesOwn hp (thn (hg _ s5 σ3 H5 x u _ I5' r5 (step x H5 y5)) fun _ s6 ⟨σ6,H6,I6,q6⟩=>?_)
  refine wpAny_passesOwn hp (thn (hb _ s6 σ6 H6 _ I6 q6) fun f s7 q7=>?_)
  have again:∀{σ7:St} {H7:Hp},Inv X (pins++pinsAt fp s5.heap) σ7 H7 s7->N σ7 H7->∃m,m<n/\∃i σ' H',Inv X pins σ' H' s7/\tn i s7.heap/\(∀b∈fp,H' b=none)/\W i m σ' H':=fun {σ7 H7} I7 n7=>by
   obtain⟨m',hm,w7⟩:=hN σ7 H7 n7
   refine⟨m',hm,i+1,σ7,H7,I7.unpinned,T.keep _ _ _ st5 fun b hb o e=>(I7.pin (b,o) (List.mem_append_right _ (List.mem_append_right _ (bz_ hb e)))).1,fun b hb=>?_,w7⟩
   obtain⟨o,e,d⟩:=T.obj _ _ st5 b hb
   exact (I7.pin (b,o) (List.mem_append_right _ (List.mem_append_right _ (bz_ hb e)))).2.1
  cases f with
  |next=>obtain⟨σ7,H7,I7,n7⟩:=q7;exact again I7 n7
  |cont=>obtain⟨σ7,H7,I7,n7⟩:=q7;exact again I7 n7
  |brk=>obtain⟨σ7,H7,I7,q7⟩:=q7;exact⟨σ7,H7,I7.unpinned,q7⟩
  |ret v=>obtain⟨x7,σ7,H7,I7,r7,q7⟩:=q7;exact⟨x7,σ7,H7,I7.unpinned,r7,q7⟩
end
theorem aR_{K:PySem.W.Frag}{a:Addr}{xs:List V}{g:TG}{tb:TS}{D:Ends}{σ:St}{H:Hp}(Pv:Nat->St->Hp->Prop)(h0:Pv 0 σ H)(hl:∀i σ H,i<=xs.length->Pv i σ H->SqL K H a xs)
  (hs:∀i x σ H,xs[i]? = some x->Pv i σ H->g x σ H fun σ2 H2=>tb { D with nx:=Pv (i+1),ct:=Pv (i+1),bk:=D.nx } σ2 H2) (hd:∀σ H,Pv xs.length σ H->D.nx σ H) :
  ∃W:Nat->Nat->St->Hp->Prop,(∃m,W 0 m σ H)/\∀i m σ H,W i m σ H->
   ((Itl K a).stop i H/\D.nx σ H)∨((Itl K a).go i H/\∃N:St->Hp->Prop,(∀σ' H',N σ' H'->∃m',m'<m/\W (i+1) m' σ' H')/\∀x H',(Itl K a).yld i H x H'->g x σ H' fun σ2 H2=>tb { D with nx:=N,ct:=N,bk:=D.nx } σ2 H2):=by
 refine⟨fun i m σ H=>m=xs.length - i/\i<=xs.length/\Pv i σ H,⟨xs.length,by simp,Nat.zero_le _,h0⟩,?_⟩
 rintro i m σ H ⟨rfl,hi,p⟩
 have q:=hl i σ H hi p
 by_cases hlt:i<xs.length
 ·refine .inr ⟨⟨xs,xs[i],q,by simp[hlt]⟩,Pv (i+1),fun σ' H' p'=>⟨xs.length - (i+1),by omega,rfl,hlt,p'⟩,fun x H' y=>?_⟩
  obtain⟨e,y⟩:=y
  subst e
  exact hs i x σ _ (y xs q) p
 ·have e:i=xs.length:=by omega
  subst e
  exact .inl ⟨⟨xs,q,Nat.le_refl _⟩,hd σ H p⟩
theorem cF_{lo:Int}{n:Nat}{g:TG}{tb:TS}{D:Ends}{σ:St}{H:Hp}(Pv:Nat->St->Hp->Prop)(h0:Pv 0 σ H)
  (hs:∀i σ H,i<n->Pv i σ H->g (.int (lo+i)) σ H fun σ2 H2=>tb { D with nx:=Pv (i+1),ct:=Pv (i+1),bk:=D.nx } σ2 H2) (hd:∀σ H,Pv n σ H->D.nx σ H) :
  ∃W:Nat->Nat->St->Hp->Prop,(∃m,W 0 m σ H)/\∀i m σ H,W i m σ H->
   ((Itr lo n).stop i H/\D.nx σ H)∨((Itr lo n).go i H/\∃N:St->Hp->Prop,(∀σ' H',N σ' H'->∃m',m'<m/\W (i+1) m' σ' H')/\∀x H',(Itr lo n).yld i H x H'->g x σ H' fun σ2 H2=>tb { D with nx:=N,ct:=N,bk:=D.nx } σ2 H2):=by
 refine⟨fun i m σ H=>m=n - i/\i<=n/\Pv i σ H,⟨n,by simp,Nat.zero_le _,h0⟩,?_⟩
 rintro i m σ H ⟨rfl,hi,p⟩
 by_cases hlt:i<n
 ·refine .inr ⟨hlt,Pv (i+1),fun σ' H' p'=>⟨n - (i+1),by omega,rfl,hlt,p'⟩,fun x H' y=>?_⟩
  obtain⟨e,y⟩:=y
  subst e y
  exact hs i σ _ hlt p
 ·have e:i=n:=by omega
  subst e
  exact .inl ⟨Nat.le_refl _,hd σ H p⟩
theorem hf_{c:TT}{tb:TS}{D:Ends}{σ:St}{H:Hp}(Pv:St->Hp->Prop)(μ:St->Hp->Nat)(h0:Pv σ H)
  (hs:∀σ H,Pv σ H->c σ H fun b H1=>if b=true then tb { D with nx:=fun σ' H'=>Pv σ' H'/\μ σ' H'<μ σ H,ct:=fun σ' H'=>Pv σ' H'/\μ σ' H'<μ σ H,bk:=D.nx } σ H1 else D.nx σ H1)
  (mono:∀σ H Q Q',(∀b H1,Q b H1->Q' b H1)->c σ H Q->c σ H Q'):tWhile c tb D σ H:=by
 refine⟨fun m σ H=>m=μ σ H/\Pv σ H,⟨_,rfl,h0⟩,?_⟩
 rintro m σ H ⟨rfl,p⟩
 refine mono σ H _ _ (fun b H1 q=>?_) (hs σ H p)
 cases b with
 |true=>exact⟨_,fun σ' H' ⟨p',l⟩=>⟨_,l,rfl,p'⟩,q⟩
 |false=>exact q
end L2
namespace L2
open PySem PySem.Spec PyProof.Rows
abbrev R2:=V->V->Hp->VK->Prop
def OpR(X:Cx)(f:Value->Value->Sem Value)(r:R2):Prop:=
 ∀(pins:List (Addr × Obj)) (s:Shared) (σ:St) (H:Hp) (x y:V) (v u:Value) (Q:VK),Inv X pins σ H s->RelV x v->RelV y u->r x y H Q->
  wpAny (model X.prog X.w) X.A (f v u) (EP X pins σ Q) X.xe s
def UnR(X:Cx)(f:Value->Sem Value)(r:V->Hp->VK->Prop):Prop:=
 ∀(pins:List (Addr × Obj)) (s:Shared) (σ:St) (H:Hp) (x:V) (v:Value) (Q:VK),Inv X pins σ H s->RelV x v->r x H Q->
  wpAny (model X.prog X.w) X.A (f v) (EP X pins σ Q) X.xe s
def CallR(X:Cx)(f:Value)(r:List V->Hp->VK->Prop):Prop:=
 ∀(pins:List (Addr × Obj)) (s:Shared) (σ:St) (H:Hp) (xs:List V) (us:List Value) (Q:VK),Inv X pins σ H s->Vals xs us->r xs H Q->
  wpAny (model X.prog X.w) X.A (call f us) (EP X pins σ Q) X.xe s
def tOp(r:R2)(ta tb:TE):TE:=fun σ H Q=>ta σ H fun x H1=>tb σ H1 fun y H2=>r x y H2 Q
def tUn(r:V->Hp->VK->Prop)(ta:TE):TE:=fun σ H Q=>ta σ H fun x H1=>r x H1 Q
def rI(C:Int->Int->Prop)(g:Int->Int->V):R2:=fun x y H Q=>∃i j,x=.int i/\y=.int j/\C i j/\Q (g i j) H
def rI0(g:Int->Int->V):R2:=fun x y H Q=>∃i j,x=.int i/\y=.int j/\Q (g i j) H
def rU(g:Int->V):V->Hp->VK->Prop:=fun x H Q=>∃i,x=.int i/\Q (g i) H
section
variable{X:Cx}{a b c:Expr}{ta tb tc:TE}{pos:Pos}
theorem binT(ha:PE X a ta)(hb:PE X b tb){pins:List (Addr × Obj)}{s:Shared}{σ:St}{H:Hp}{R:V->V->Hp->Prop}(I:Inv X pins σ H s)
  (h:ta σ H fun x H1=>tb σ H1 fun y H2=>R x y H2) {Q:Value->Shared->Prop} {f:Value->Value->Sem Value}
  (hf:∀v u s2 x y H2,Inv X pins σ H2 s2->RelV x v->RelV y u->R x y H2->wpAny (model X.prog X.w) X.A (f v u) Q X.xe s2) :
  wpAny (model X.prog X.w) X.A (eval a X.env) (fun v s₁=>wpAny (model X.prog X.w) X.A (eval b X.env) (fun u s₂=>wpAny (model X.prog X.w) X.A (f v u) Q X.xe s₂) X.xe s₁) X.xe s:=by
 refine thn (ha pins s σ H _ I h) fun v s1 ⟨x,H1,I1,r1,q1⟩=>?_
 refine thn (hb pins s1 σ H1 _ I1 q1) fun u s2 ⟨y,H2,I2,r2,q2⟩=>?_
 exact hf v u s2 x y H2 I2 r1 r2 q2
theorem ai_{op:Operator}{r:R2}(ho:OpR X (binaryOp op) r)(ha:PE X a ta)(hb:PE X b tb):PE X (.BinOp a op b pos) (tOp r ta tb):=by
 intro pins s σ H Q I h
 exact wpAny_BinOp (binT ha hb I h fun v u s2 x y H2 I2 rx ry q=>ho pins s2 σ H2 x y v u Q I2 rx ry q)
theorem dG_{op:UnaryOp}{r:V->Hp->VK->Prop}(ho:UnR X (unaryOp op) r)(ha:PE X a ta):PE X (.UnaryOp op a pos) (tUn r ta):=by
 intro pins s σ H Q I h
 exact UnaryOp_ (thn (ha pins s σ H _ I h) fun v s1 ⟨x,H1,I1,r1,q1⟩=>ho pins s1 σ H1 x v Q I1 r1 q1)
theorem opI{f:Value->Value->Sem Value}{C:Int->Int->Prop}{g:Int->Int->Int}
  (rule:∀(i j:Int) (t u:Tok) (s:Shared) (Q:Value->Shared->Prop) (E:Value->Shared->Prop),C i j->Q (.int (g i j) s.toks) { s with toks:=s.toks+1 }->wpAny (model X.prog X.w) X.A (f (.int i t) (.int j u)) Q E s) :
  OpR X f (rI C fun i j=>.int (g i j)):=by
 intro pins s σ H x y v u Q I rx ry h
 obtain⟨i,j,rfl,rfl,hc,q⟩:=h
 obtain⟨t,rfl⟩:=rx
 obtain⟨t',rfl⟩:=ry
 exact rule i j t t' s _ _ hc ⟨.int (g i j),H,I.tok _,⟨_,rfl⟩,q⟩
theorem opI0{f:Value->Value->Sem Value}{g:Int->Int->Int}
  (rule:∀(i j:Int) (t u:Tok) (s:Shared) (Q:Value->Shared->Prop) (E:Value->Shared->Prop),Q (.int (g i j) s.toks) { s with toks:=s.toks+1 }->wpAny (model X.prog X.w) X.A (f (.int i t) (.int j u)) Q E s) :
  OpR X f (rI0 fun i j=>.int (g i j)):=by
 intro pins s σ H x y v u Q I rx ry h
 obtain⟨i,j,rfl,rfl,q⟩:=h
 obtain⟨t,rfl⟩:=rx
 obtain⟨t',rfl⟩:=ry
 exact rule i j t t' s _ _ ⟨.int (g i j),H,I.tok _,⟨_,rfl⟩,q⟩
theorem opB0{f:Value->Value->Sem Value}{g:Int->Int->Bool}
  (rule:∀(i j:Int) (t u:Tok) (s:Shared) (Q:Value->Shared->Prop) (E:Value->Shared->Prop),Q (.bool (g i j)) s->wpAny (model X.prog X.w) X.A (f (.int i t) (.int j u)) Q E s) :
  OpR X f (rI0 fun i j=>.bl (g i j)):=by
 intro pins s σ H x y v u Q I rx ry h
 obtain⟨i,j,rfl,rfl,q⟩:=h
 obtain⟨t,rfl⟩:=rx
 obtain⟨t',rfl⟩:=ry
 exact rule i j t t' s _ _ ⟨.bl (g i j),H,I,rfl,q⟩
def CDiv(i j:Int):Prop:=0<j/\j<1073741824
def CPow(i j:Int):Prop:=0<=j/\j<=1000000/\i.natAbs<2 ^ 64
def CMul(i j:Int):Prop:=(-(2 ^ 64)<i/\i<2 ^ 64)∨(-(2 ^ 64)<j/\j<2 ^ 64)
theorem CMul.ok{i j:Int}(h:CMul i j):IntMulOk i j:=by
 rcases h with⟨h1,h2⟩|⟨h1,h2⟩
 ·exact .of_left (intBits_le_64 h1 h2)
 ·exact .of_right (intBits_le_64 h1 h2)
theorem aU_:OpR X (binaryOp .Add) (rI0 fun i j=>.int (i+j)):=opI0 fun _ _ _ _ _ _ _ q=>add_int q
theorem gL_:OpR X (binaryOp .Sub) (rI0 fun i j=>.int (i - j)):=opI0 fun _ _ _ _ _ _ _ q=>sub_int q
theorem b8_:OpR X (binaryOp .Mult) (rI CMul fun i j=>.int (i * j)):=opI fun _ _ _ _ _ _ _ hc q=>mul_int q hc.ok
theorem bf_:OpR X (binaryOp .FloorDiv) (rI CDiv fun i j=>.int (i / j)):=opI fun i j _ _ _ _ _ hc q=>by
 have h1:(0:Int)<j:=hc.1
 have h2:j<1073741824:=hc.2
 exact floordiv_int (by omega) (by rw[Int.fdiv_eq_ediv_of_nonneg i (by omega)];exact q) (.inl (PyProof.noPylong_small (by omega)))
theorem bG_:OpR X (binaryOp .Mod) (rI (fun _ j=>0<j) fun i j=>.int (i % j)):=opI fun i j _ _ _ _ _ hc q=>by
 have h1:(0:Int)<j:=hc
 exact mod_int' (by omega) (by rw[Int.fmod_eq_emod_of_nonneg i (by omega)];exact q)
theorem h1_:OpR X (binaryOp .Pow) (rI CPow fun i j=>.int (i ^ j.toNat)):=opI fun _ _ _ _ _ _ _ hc q=>pow_int_small hc.1 hc.2.1 hc.2.2 q
theorem unI{f:Value->Sem Value}{g:Int->Int}
  (rule:∀(i:Int) (t:Tok) (s:Shared) (Q:Value->Shared->Prop) (E:Value->Shared->Prop),Q (.int (g i) s.toks) { s with toks:=s.toks+1 }->wpAny (model X.prog X.w) X.A (f (.int i t)) Q E s) :
  UnR X f (rU fun i=>.int (g i)):=by
 intro pins s σ H x v Q I rx h
 obtain⟨i,rfl,q⟩:=h
 obtain⟨t,rfl⟩:=rx
 exact rule i t s _ _ ⟨.int (g i),H,I.tok _,⟨_,rfl⟩,q⟩
theorem cj_:UnR X (unaryOp .USub) (rU fun i=>.int (-i)):=unI fun _ _ _ _ _ q=>neg_int q
end
def scal:V->V->Bool
 |.non,.non=>true | .non,.int _=>true | .int _,.non=>true | .non,.bl _=>true | .bl _,.non=>true | .non,.str _=>true | .str _,.non=>true
 |.int _,.int _=>true | .bl _,.bl _=>true | .str _,.str _=>true | .byt _,.byt _=>true
 |.int _,.str _=>true | .str _,.int _=>true | .bl _,.str _=>true | .str _,.bl _=>true
 |_,_=>false
def rEq:R2:=fun x y H Q=>scal x y=true/\Q (.bl (decide (x=y))) H
def rNe:R2:=fun x y H Q=>scal x y=true/\Q (.bl (!decide (x=y))) H
theorem h4_{i j:Int}:decide (V.int i=V.int j)=(i == j):=by
 rw[Bool.eq_iff_iff]
 simp
theorem if_{i j:Bool}:decide (V.bl i=V.bl j)=(i == j):=by
 rw[Bool.eq_iff_iff]
 simp
theorem gx_{i j:Str}:decide (V.str i=V.str j)=(i == j):=by
 rw[Bool.eq_iff_iff]
 simp
theorem gU_{i j:Array UInt8}:decide (V.byt i=V.byt j)=(i.toList == j.toList):=by
 rw[Bool.eq_iff_iff]
 cases i
 cases j
 simp
section
variable{X:Cx}{a b c:Expr}{ta tb tc:TE}{pos:Pos}
theorem aw_{pins:List (Addr × Obj)}{σ:St}{H:Hp}{s:Shared}{Q:VK}{k k':Bool}(I:Inv X pins σ H s)(q:Q (.bl k) H)(e:k=k'):EP X pins σ Q (.bool k') s:=by
 subst e
 exact⟨.bl k,H,I,rfl,q⟩
theorem fy_:OpR X (compareOp .Eq) rEq:=by
 intro pins s σ H x y v u Q I rx ry h
 obtain⟨hs,q⟩:=h
 cases x with
 |non=>
  cases rx
  cases y with
  |non=>cases ry;exact PySem.EqNone.eq_none_none (aw_ I q (by simp))
  |bl j=>cases ry;exact PySem.EqNone.eq_none_bool (aw_ I q (by simp))
  |int j=>obtain⟨t',rfl⟩:=ry;exact PySem.EqNone.eq_none_int (aw_ I q (by simp))
  |str j=>obtain⟨t',rfl⟩:=ry;exact PySem.EqNone.eq_none_str (aw_ I q (by simp))
  |_=>exact absurd (show false=true from hs) Bool.false_ne_true
 |bl i=>
  cases rx
  cases y with
  |non=>cases ry;exact PySem.EqNone.eq_bool_none (aw_ I q (by simp))
  |bl j=>cases ry;exact eq_bool (aw_ I q if_)
  |str j=>obtain⟨t',rfl⟩:=ry;exact PySem.EqMixed.eq_bool_str (aw_ I q (by simp))
  |_=>exact absurd (show false=true from hs) Bool.false_ne_true
 |int i=>
  obtain⟨t,rfl⟩:=rx
  cases y with
  |non=>cases ry;exact PySem.EqNone.eq_int_none (aw_ I q (by simp))
  |int j=>obtain⟨t',rfl⟩:=ry;exact eq_int (aw_ I q h4_)
  |str j=>obtain⟨t',rfl⟩:=ry;exact PySem.EqMixed.eq_int_str (aw_ I q (by simp))
  |_=>exact absurd (show false=true from hs) Bool.false_ne_true
 |str i=>
  obtain⟨t,rfl⟩:=rx
  cases y with
  |non=>cases ry;exact PySem.EqNone.eq_str_none (aw_ I q (by simp))
  |bl j=>cases ry;exact PySem.EqMixed.eq_str_bool (aw_ I q (by simp))
  |int j=>obtain⟨t',rfl⟩:=ry;exact PySem.EqMixed.eq_str_int (aw_ I q (by simp))
  |str j=>obtain⟨t',rfl⟩:=ry;exact eq_str (aw_ I q gx_)
  |_=>exact absurd (show false=true from hs) Bool.false_ne_true
 |byt i=>
  obtain⟨t,rfl⟩:=rx
  cases y with
  |byt j=>obtain⟨t',rfl⟩:=ry;exact PySem.W.eq_bytes (aw_ I q gU_)
  |_=>exact absurd (show false=true from hs) Bool.false_ne_true
 |_=>cases y<;>exact absurd (show false=true from hs) Bool.false_ne_true
theorem cV_:OpR X (compareOp .NotEq) rNe:=by
 intro pins s σ H x y v u Q I rx ry h
 obtain⟨hs,q⟩:=h
 cases x with
 |non=>
  cases rx
  cases y with
  |non=>cases ry;exact PySem.EqNone.ne_none_none (aw_ I q (by simp))
  |bl j=>cases ry;exact PySem.EqNone.ne_none_bool (aw_ I q (by simp))
  |int j=>obtain⟨t',rfl⟩:=ry;exact PySem.EqNone.ne_none_int (aw_ I q (by simp))
  |str j=>obtain⟨t',rfl⟩:=ry;exact PySem.EqNone.ne_none_str (aw_ I q (by simp))
  |_=>exact absurd (show false=true from hs) Bool.false_ne_true
 |bl i=>
  cases rx
  cases y with
  |non=>cases ry;exact PySem.EqNone.ne_bool_none (aw_ I q (by simp))
  |bl j=>cases ry;exact ne_bool (aw_ I q (congrArg not if_))
  |str j=>obtain⟨t',rfl⟩:=ry;exact PySem.EqMixed.ne_bool_str (aw_ I q (by simp))
  |_=>exact absurd (show false=true from hs) Bool.false_ne_true
 |int i=>
  obtain⟨t,rfl⟩:=rx
  cases y with
  |non=>cases ry;exact PySem.EqNone.ne_int_none (aw_ I q (by simp))
  |int j=>obtain⟨t',rfl⟩:=ry;exact ne_int (aw_ I q (congrArg not h4_))
  |str j=>obtain⟨t',rfl⟩:=ry;exact PySem.EqMixed.ne_int_str (aw_ I q (by simp))
  |_=>exact absurd (show false=true from hs) Bool.false_ne_true
 |str i=>
  obtain⟨t,rfl⟩:=rx
  cases y with
  |non=>cases ry;exact PySem.EqNone.ne_str_none (aw_ I q (by simp))
  |bl j=>cases ry;exact PySem.EqMixed.ne_str_bool (aw_ I q (by simp))
  |int j=>obtain⟨t',rfl⟩:=ry;exact PySem.EqMixed.ne_str_int (aw_ I q (by simp))
  |str j=>obtain⟨t',rfl⟩:=ry;exact ne_str (aw_ I q (congrArg not gx_))
  |_=>exact absurd (show false=true from hs) Bool.false_ne_true
 |byt i=>
  obtain⟨t,rfl⟩:=rx
  cases y with
  |byt j=>obtain⟨t',rfl⟩:=ry;exact PySem.W.ne_bytes (aw_ I q (congrArg not gU_))
  |_=>exact absurd (show false=true from hs) Bool.false_ne_true
 |_=>cases y<;>exact absurd (show false=true from hs) Bool.false_ne_true
theorem jP_:OpR X (compareOp .Lt) (rI0 fun i j=>.bl (decide (i<j))):=opB0 fun _ _ _ _ _ _ _ q=>lt_int q
theorem fw_:OpR X (compareOp .LtE) (rI0 fun i j=>.bl (decide (i<=j))):=opB0 fun _ _ _ _ _ _ _ q=>le_int q
theorem ip_:OpR X (compareOp .Gt) (rI0 fun i j=>.bl (decide (j<i))):=opB0 fun _ _ _ _ _ _ _ q=>gt_int q
theorem jZ_:OpR X (compareOp .GtE) (rI0 fun i j=>.bl (decide (j<=i))):=opB0 fun _ _ _ _ _ _ _ q=>ge_int q
theorem gV_:OpR X (compareOp .Lt) (fun x y H Q=>∃i j,x=.str i/\y=.str j/\Q (.bl (decide (i.cps.toList<j.cps.toList))) H):=by
 intro pins s σ H x y v u Q I rx ry h
 obtain⟨i,j,rfl,rfl,q⟩:=h
 obtain⟨t,rfl⟩:=rx
 obtain⟨t',rfl⟩:=ry
 exact lt_str (aw_ I q rfl)
theorem nomark(b:Expr){op:CmpOp}(h:op≠.In:=by decide)(h2:op≠.NotIn:=by decide):behindInMarks op b=false:=by
 have e1:(op == CmpOp.In)=false:=by cases op<;>first|rfl|exact absurd rfl h
 have e2:(op == CmpOp.NotIn)=false:=by cases op<;>first|rfl|exact absurd rfl h2
 cases b<;>simp[behindInMarks,e1,e2]
theorem dg_{op:CmpOp}{r:R2}(ho:OpR X (compareOp op) r)(ha:PE X a ta)(hb:PE X b tb)(hm:behindInMarks op b=false):PE X (.Compare a [op] [b] pos) (tOp r ta tb):=by
 intro pins s σ H Q I h
 exact wpAny_Compare1 (binT ha hb I h fun v u s2 x y H2 I2 rx ry q=>ho pins s2 σ H2 x y v u Q I2 rx ry q) hm
def tTest(t:TE):TT:=fun σ H Q=>t σ H fun x H'=>∃k,x=.bl k/\Q k H'
theorem ap_{op:CmpOp}{r:R2}(ho:OpR X (compareOp op) r)(ha:PE X a ta)(hb:PE X b tb)(hm:behindInMarks op b=false):PT X (.Compare a [op] [b] pos) (tTest (tOp r ta tb)):=by
 intro pins s σ H Q I h
 refine wpAny_isTrue_Compare1 (thn (ha pins s σ H _ I h) fun v s1 ⟨x,H1,I1,r1,q1⟩=>thn (hb pins s1 σ H1 _ I1 q1) fun u s2 ⟨y,H2,I2,r2,q2⟩=>
  thn (ho pins s2 σ H2 x y v u _ I2 r1 r2 q2) fun c s3 ⟨z,H3,I3,r3,k,e,q3⟩=>?_) hm
 subst e
 cases r3
 exact wpAny_truthy_bool ⟨H3,I3,q3⟩
def tChain(r r':R2)(ta tb tc:TE):TE:=fun σ H Q=>ta σ H fun x H1=>tb σ H1 fun y H2=>r x y H2 fun z H3=>∃k,z=.bl k /\
 (if k=true then tc σ H3 fun w' H4=>r' y w' H4 Q else Q (.bl false) H3)
theorem f5_{op op':CmpOp}{r r':R2}(ho:OpR X (compareOp op) r)(ho':OpR X (compareOp op') r')(ha:PE X a ta)(hb:PE X b tb)(hc:PE X c tc)
  (hm:lastMarks [op,op'] [b,c]=false:=by with_unfolding_all rfl):PE X (.Compare a [op,op'] [b,c] pos) (tChain r r' ta tb tc):=by
 intro pins s σ H Q I h
 refine Compare_chain (thn (ha pins s σ H _ I h) fun v s1 ⟨x,H1,I1,r1,q1⟩=>chain_link (thn (hb pins s1 σ H1 _ I1 q1) fun u s2 ⟨y,H2,I2,r2,q2⟩=>
  thn (ho pins s2 σ H2 x y v u _ I2 r1 r2 q2) fun d s3 ⟨z,H3,I3,r3,k,e,q3⟩=>?_)) hm
 subst e
 cases r3
 refine wpAny_truthy_bool ?_
 cases k with
 |false=>exact ite_ff ⟨.bl false,H3,I3,rfl,q3⟩
 |true=>exact ite_tt (chain_last (thn (hc pins s3 σ H3 _ I3 q3) fun w' s4 ⟨z',H4,I4,r4,q4⟩=>ho' pins s4 σ H4 y z' u w' Q I4 r2 r4 q4))
theorem f1_{op op':CmpOp}{r r':R2}(ho:OpR X (compareOp op) r)(ho':OpR X (compareOp op') r')(ha:PE X a ta)(hb:PE X b tb)(hc:PE X c tc)
  (hm:lastMarks [op,op'] [b,c]=false:=by with_unfolding_all rfl):PT X (.Compare a [op,op'] [b,c] pos) (tTest (tChain r r' ta tb tc)):=by
 intro pins s σ H Q I h
 refine isTrue_chain (thn (ha pins s σ H _ I h) fun v s1 ⟨x,H1,I1,r1,q1⟩=>test_link (thn (hb pins s1 σ H1 _ I1 q1) fun u s2 ⟨y,H2,I2,r2,q2⟩=>
  thn (ho pins s2 σ H2 x y v u _ I2 r1 r2 q2) fun d s3 ⟨z,H3,I3,r3,k,e,q3⟩=>?_)) hm
 subst e
 cases r3
 refine wpAny_truthy_bool ?_
 cases k with
 |false=>
  obtain⟨k',e',q'⟩:=q3
  cases e'
  exact ite_ff ⟨H3,I3,q'⟩
 |true=>
  refine ite_tt (test_last (thn (hc pins s3 σ H3 _ I3 q3) fun w' s4 ⟨z',H4,I4,r4,q4⟩=>thn (ho' pins s4 σ H4 y z' u w' _ I4 r2 r4 q4) fun d' s5 ⟨z2,H5,I5,r5,k2,e2,q5⟩=>?_))
  subst e2
  cases r5
  exact wpAny_truthy_bool ⟨H5,I5,q5⟩
theorem line63:(sizeLine:Nat)<2 ^ 63:=by rw[sizeLine_eq];decide
theorem c1_:OpR X (binaryOp .Add) (fun x y H Q=>∃i j,x=.str i/\y=.str j/\i.length+j.length<=sizeLine/\Q (.str (i++j)) H):=by
 intro pins s σ H x y v u Q I rx ry h
 obtain⟨i,j,rfl,rfl,hz,q⟩:=h
 obtain⟨t,rfl⟩:=rx
 obtain⟨t',rfl⟩:=ry
 exact add_str (fun t' tk=>⟨.str (i++j),H,I.tok _,⟨_,rfl⟩,q⟩) hz
theorem vals1{x:V}{us:List Value}(r:Vals [x] us):∃u,us=[u]/\RelV x u:=by
 cases r with
 |cons r1 r2=>cases r2;exact⟨_,rfl,r1⟩
theorem vals2{x y:V}{us:List Value}(r:Vals [x,y] us):∃u w',us=[u,w']/\RelV x u/\RelV y w':=by
 cases r with
 |cons r1 r2=>
  cases r2 with
  |cons r3 r4=>cases r4;exact⟨_,_,rfl,r1,r3⟩
theorem hS_:CallR X (.builtin "abs") (fun xs H Q=>∃i,xs=[.int i]/\Q (.int (if i<0 then -i else i)) H):=by
 intro pins s σ H xs us Q I r h
 obtain⟨i,rfl,q⟩:=h
 obtain⟨u,rfl,t,rfl⟩:=vals1 r
 exact call_abs_int fun u tk=>⟨.int (if i<0 then -i else i),H,I.tok _,⟨_,rfl⟩,q⟩
theorem gs_(hc:X.calm=true):CallR X (.builtin "max") (fun xs H Q=>∃i j,xs=[.int i,.int j]/\Q (.int (if j > i then j else i)) H):=by
 intro pins s σ H xs us Q I r h
 obtain⟨i,j,rfl,q⟩:=h
 obtain⟨u,w',rfl,⟨t,rfl⟩,⟨t',rfl⟩⟩:=vals2 r
 refine max_two_ints (I.ok.hd hc) fun h' tk k=>⟨_,H,I.kept k,?_,q⟩
 by_cases hj:j > i
 ·rw[if_pos hj,if_pos hj];exact⟨_,rfl⟩
 ·rw[if_neg hj,if_neg hj];exact⟨_,rfl⟩
theorem fR_(hc:X.calm=true):CallR X (.builtin "min") (fun xs H Q=>∃i j,xs=[.int i,.int j]/\Q (.int (if j<i then j else i)) H):=by
 intro pins s σ H xs us Q I r h
 obtain⟨i,j,rfl,q⟩:=h
 obtain⟨u,w',rfl,⟨t,rfl⟩,⟨t',rfl⟩⟩:=vals2 r
 refine min_two_ints (I.ok.hd hc) fun h' tk k=>⟨_,H,I.kept k,?_,q⟩
 by_cases hj:j<i
 ·rw[if_pos hj,if_pos hj];exact⟨_,rfl⟩
 ·rw[if_neg hj,if_neg hj];exact⟨_,rfl⟩
theorem fS_:CallR X (.type "int") (fun xs H Q=>(∃i,xs=[.int i]/\Q (.int i) H)∨∃k,xs=[.bl k]/\Q (.int (if k then 1 else 0)) H):=by
 intro pins s σ H xs us Q I r h
 rcases h with⟨i,rfl,q⟩|⟨k,rfl,q⟩
 ·obtain⟨u,rfl,t,rfl⟩:=vals1 r
  exact call_int_int ⟨.int i,H,I,⟨_,rfl⟩,q⟩
 ·obtain⟨u,rfl,r1⟩:=vals1 r
  cases r1
  exact call_int_bool ⟨.int (if k then 1 else 0),H,I.tok _,⟨_,rfl⟩,q⟩
end
end L2
namespace L2
open PySem PySem.Spec PyProof.Rows
structure ObjM (h:Heap) (x dx C:Addr) (mA:Str->Option Value):Prop where
 obj:h.get? x=some (PySem.W.instObj C dx)
 ns:h.Ns1 dx mA
 ne:dx≠x
theorem ga_{h:Heap}{dx:Addr}{mA:Str->Option Value}(n:h.Ns1 dx mA):∃od,h.get? dx=some od/\∀name,PySem.W.lookIn name od=some (mA name):=by
 obtain⟨o,es,ep,ho,hd,hk,_,hm⟩:=n
 refine⟨o,ho,fun name=>?_⟩
 have e:=hm name
 unfold nsFind findBy at e
 rw[<- Array.find?_toList] at e
 unfold PySem.W.lookIn
 rw[hd]
 dsimp only
 split
 ·rename_i y q
  rw[q] at e
  exact congrArg some e
 ·rename_i q
  rw[q] at e
  have a:es.toList.any (·.refKey)=false:=by
   rw[List.any_eq_false]
   intro y hy
   obtain⟨z,t,hkey⟩:=hk y (Array.mem_toList_iff.mp hy)
   simp[DictEntry.refKey,hkey]
  have a':¬es.toList.any (·.refKey)=true:=by rw[a];exact Bool.false_ne_true
  rw[if_neg a']
  exact congrArg some e
theorem ObjM.look{h:Heap}{x dx C:Addr}{mA:Str->Option Value}(I:ObjM h x dx C mA):∃od,PySem.W.InstAt h x (PySem.W.instObj C dx) C (some od)/\∀name,PySem.W.lookIn name od=some (mA name):=
 let ⟨od,ho,hl⟩:=ga_ I.ns
 ⟨od,⟨I.obj,rfl,rfl,ho⟩,hl⟩
section
variable{prog:Program}{w:World}{A:Around}{E:Value->Shared->Prop}{s:Shared}{K:PySem.W.Frag}{x dx C f:Addr}{mA:Str->Option Value}{name:Str}{v:Value}
theorem iG_{expr:Bool}{Q:Value->Shared->Prop}(X:K.In s.heap)(I:ObjM s.heap x dx C mA)(hg:PySem.W.plainGet K C name=true)(hh:PySem.W.hasDictIn K C=true)
  (ha:PySem.W.findIn K (.ref C) name=some none) (hv:mA name=some v) (hv':PySem.W.handedIn v=true) (h:Q v { s with toks:=s.toks+1 }) :
  wpAny (model prog w) A (getAttr (.ref x) name expr) Q E s:=by
 obtain⟨od,J,hl⟩:=I.look
 exact PySem.W.get_value X J (PySem.W.plainGet_of hg).1 (PySem.W.findObj_own hh ha rfl (by rw[hl,hv])) hv' h
theorem hO_{pl:Sem Bool}{Q:Value × List Value->Shared->Prop}(X:K.In s.heap)(I:ObjM s.heap x dx C mA)(hg:PySem.W.plainGet K C name=true)
  (hf:PySem.W.findIn K (.ref C) name=some (some (.ref f))) (ht:PySem.W.isFn K (.ref f)=true) (hv:mA name=none) (h:Q (.ref f,[.ref x]) s) :
  wpAny (model prog w) A (getMethod (.ref x) name pl) Q E s:=by
 obtain⟨od,J,hl⟩:=I.look
 exact PySem.W.method_fn X J (PySem.W.plainGet_of hg).1 (PySem.W.plainGet_of hg).2 hf (beq_iff_eq.mp ht) (by show (PySem.W.lookIn name od).map (·.isSome)=some false;rw[hl,hv];rfl) h
theorem iD_{ns:List Str}{Q:Unit->Shared->Prop}(X:K.In s.heap)(I:ObjM s.heap x dx C mA)
  (hs:PySem.W.findIn K (.ref C) "__setattr__"=some (some (.builtin "object.__setattr__"))) (hp:PySem.W.plainOver K C=true) (ht:PySem.W.takerIn K C name=some none) (hh:PySem.W.hasDictIn K C=true)
  (hw:PySem.Within mA ns) (hsz:ns.length<=sizeLine)
  (h:∀h',ObjM h' x dx C (fun y=>if y=name then some v else mA y)->Heap.SameBut dx s.heap h'->Q () { s with heap:=h',toks:=s.toks+2 }) :
  wpAny (model prog w) A (setAttr (.ref x) name v) Q E s:=by
 obtain⟨od,J,hl⟩:=I.look
 refine PySem.W.set_plain X J hs (PySem.W.osa_open (s:={ s with toks:=s.toks+1 }) (r:=none) X J hp ht fun b=>?_)
 obtain⟨cd,hc,hd'⟩:=PySem.W.any_some hh
 have hx:s.heap.get? x=some ⟨.ref C,some dx,.plain,#[]⟩:=I.obj
 refine wpAny_bind (wpAny_pure (wpAny_bind (wpAny_bind (wpAny_loadPart hx (wpAny_bind (PySem.W.Looks.here (s:={ s with toks:=s.toks+1 }) (PySem.W.looks_clsIn X hc) ?_))))))
 rw[hd']
 refine wpAny_pure (a:=some dx) (wpAny_bind (wpAny_pure (wpAny_bind ?_)))
 refine wpAny_nsSet1 (s:={ s with toks:=s.toks+1 }) I.ns fun h' hn2 hs2=>?_
 obtain⟨oD,esD,epD,hoD,hdD,hcD⟩:=hn2.count (PySem.Within.cons name v hw)
 refine wpAny_bind (wpAny_lookBehind hoD (by rw[hdD];exact pastItsLine_dict (Nat.le_trans hcD (by rw[List.length_cons];omega))) ?_)
 exact wpAny_pure (h _ ⟨(hs2.2 _ (Ne.symm I.ne)).trans I.obj,hn2,I.ne⟩ hs2)
theorem hb_{R:Result->Shared->Prop}{vs:List Value}{kw:List (Str × Value)}(X:K.In s.heap)(hm:PySem.W.makesIn K C=true)
  (hi:PySem.W.findIn K (.ref C) "__init__"=some (some (.ref f))) (hf:PySem.W.typeIn K (.ref f)=some (.type "function"))
  (h:codeAny (model prog w) (A.under (.builtin "type.__call__" ⟨.ref C::vs,kw⟩)) (.call (.ref f) ⟨.ref (s.heap.objs.size+1)::vs,kw⟩) (PySem.W.InitBack (s.heap.objs.size+1) R)
   { s with heap:=(s.heap.push PySem.W.emptyDict).push (PySem.W.instObj C s.heap.objs.size) }) :
  codeAny (model prog w) A (.call (.ref C) ⟨vs,kw⟩) R s:=by
 obtain⟨hh,g,d,t,os⟩:=s
 exact PySem.W.make_core (PySem.W.makes_of X hm) (PySem.W.looks_findIn X hi) (fun self=>PySem.W.bind_fn X self hf) (.inl rfl) h
end
def putF(f:Str)(v:V):List (Str × V)->List (Str × V)
 |[]=>[(f,v)]
 |(g,x)::r=>if g=f then (g,v)::r else (g,x)::putF f v r
theorem ag_(f g:Str)(v:V):∀fs:List (Str × V),(putF f v fs).lookup g=if g=f then some v else fs.lookup g
 |[]=>by
  show List.lookup g [(f,v)]=_
  by_cases h:g=f
  ·have hb:(g == f)=true:=beq_iff_eq.mpr h
   simp only[List.lookup,hb,if_pos h]
  ·have hb:(g == f)=false:=beq_eq_false_iff_ne.mpr h
   simp only[List.lookup,hb,if_neg h]
 |(k,x)::r=>by
  have ih:=ag_ f g v r
  rw[show putF f v ((k,x)::r)=(if k=f then (k,v)::r else (k,x)::putF f v r) from rfl]
  by_cases hk:k=f
  ·rw[if_pos hk]
   by_cases h:g=k
   ·have hb:(g == k)=true:=beq_iff_eq.mpr h
    simp only[List.lookup,hb,if_pos (h.trans hk)]
   ·have hb:(g == k)=false:=beq_eq_false_iff_ne.mpr h
    simp only[List.lookup,hb,if_neg (fun e:g=f=>h (e.trans hk.symm))]
  ·rw[if_neg hk]
   by_cases h:g=k
   ·have hb:(g == k)=true:=beq_iff_eq.mpr h
    simp only[List.lookup,hb,if_neg (fun e:g=f=>hk (h.symm.trans e))]
   ·have hb:(g == k)=false:=beq_eq_false_iff_ne.mpr h
    simp only[List.lookup,hb]
    exact ih
theorem cU_(f:Str)(v:V):∀fs:List (Str × V),f∈(putF f v fs).map (·.1)/\∀g,g∈fs.map (·.1)->g∈(putF f v fs).map (·.1)
 |[]=>⟨by simp[putF],fun g h=>by simp at h⟩
 |(k,x)::r=>by
  obtain⟨i1,i2⟩:=cU_ f v r
  rw[show putF f v ((k,x)::r)=(if k=f then (k,v)::r else (k,x)::putF f v r) from rfl]
  by_cases hk:k=f
  ·rw[if_pos hk]
   subst hk
   exact⟨by simp,fun g h=>by simpa using h⟩
  ·rw[if_neg hk]
   refine⟨?_,fun g h=>?_⟩
   ·rw[List.map_cons]
    exact List.mem_cons_of_mem _ i1
   ·rw[List.map_cons] at h ⊢
    rcases List.mem_cons.mp h with e|e
    ·exact List.mem_cons.mpr (.inl e)
    ·exact List.mem_cons_of_mem _ (i2 g e)
theorem cM_(f:Str)(v:V):∀fs:List (Str × V),(putF f v fs).length<=fs.length+1
 |[]=>by simp[putF]
 |(k,x)::r=>by
  have ih:=cM_ f v r
  rw[show putF f v ((k,x)::r)=(if k=f then (k,v)::r else (k,x)::putF f v r) from rfl]
  by_cases hk:k=f
  ·rw[if_pos hk,List.length_cons,List.length_cons];omega
  ·rw[if_neg hk,List.length_cons,List.length_cons];omega
theorem RelO.some_of{v:V}{o:Option Value}(r:RelO (some v) o):∃u,o=some u/\RelV v u:=by
 cases o with
 |none=>exact (show False from r).elim
 |some u=>exact⟨u,rfl,r⟩
theorem RelO.none_of{o:Option Value}(r:RelO none o):o=none:=by
 cases o with
 |none=>rfl
 |some u=>exact (show False from r).elim
theorem gS_{v:V}{u:Value}(r:RelV v u):PySem.W.handedIn u=true:=by
 cases v with
 |non=>cases (show u=Value.none from r);rfl
 |bl b=>cases (show u=Value.bool b from r);rfl
 |int i=>obtain⟨t,e⟩:=(show ∃t,u=Value.int i t from r);cases e;rfl
 |str x=>obtain⟨t,e⟩:=(show ∃t,u=Value.str x t from r);cases e;rfl
 |byt b=>obtain⟨t,e⟩:=(show ∃t,u=Value.bytes b t from r);cases e;rfl
 |flt b=>obtain⟨t,e⟩:=(show ∃t,u=Value.float b t from r);cases e;rfl
 |ref a=>cases (show u=Value.ref a from r);rfl
 |ty n=>cases (show u=Value.type n from r);rfl
section
variable{P:Program}{w:World}{H H':Hp}{h h':Heap}{a C dx:Addr}{fs fs':List (Str × V)}
theorem dA_(hok:HOk P w H h)(e:H a=some (.ins C dx fs)):∃mA,ObjM h a dx C mA/\(∀f,RelO (fs.lookup f) (mA f))/\PySem.Within mA (fs.map (·.1))/\fs.length<=1000/\H dx=some (.own a):=by
 obtain⟨d,z,ne,ob,mA,n,r,q⟩:=(show ObjOk P w H h a (.ins C dx fs) from hok a _ e)
 exact⟨mA,⟨ob,n,ne⟩,r,q,z,d⟩
end
structure Cls (K:PySem.W.Frag) (C:Addr):Prop where
 pg:PySem.W.plainGet K C Str.empty=true
 hd:PySem.W.hasDictIn K C=true
 po:PySem.W.plainOver K C=true
 sa:PySem.W.findIn K (.ref C) "__setattr__"=some (some (.builtin "object.__setattr__"))
theorem Cls.get{K:PySem.W.Frag}{C:Addr}(c:Cls K C)(f:Str):PySem.W.plainGet K C f=true:=c.pg
def NoAttr(K:PySem.W.Frag)(C:Addr)(f:Str):Prop:=PySem.W.findIn K (.ref C) f=some none
theorem NoAttr.taker{K:PySem.W.Frag}{C:Addr}{f:Str}(n:NoAttr K C f):PySem.W.takerIn K C f=some none:=by
 unfold PySem.W.takerIn
 rw[show PySem.W.findIn K (.ref C) f=some none from n]
 rfl
structure Con (K:PySem.W.Frag) (C:Addr) (f:Str) (v:V) (u:Value):Prop where
 at_:PySem.W.findIn K (.ref C) f=some (some u)
 rel:RelV v u
 get:PySem.W.specialIn K u "__get__"=some none
 cp:PySem.W.copiedNames.contains f=false
structure Meth (K:PySem.W.Frag) (C:Addr) (m:Str) (f:Addr):Prop where
 at_:PySem.W.findIn K (.ref C) m=some (some (.ref f))
 fn:PySem.W.isFn K (.ref f)=true
 kp:PySem.W.keepIn K (.ref f)=true
section
variable{X:Cx}{pins:List (Addr × Obj)}{σ:St}{H:Hp}{s:Shared}{a C dx:Addr}{fs:List (Str × V)}{f:Str}{v:V}{A:Around}{E:Value->Shared->Prop}
theorem fI_{b:Bool}{Q:Value->Shared->Prop}(I:Inv X pins σ H s)(e:H a=some (.ins C dx fs))(c:Cls X.K C)(n:NoAttr X.K C f)(l:fs.lookup f=some v)
  (h:∀u s',Inv X pins σ H s'->RelV v u->Q u s'):wpAny (model X.prog X.w) A (getAttr (.ref a) f b) Q E s:=by
 obtain⟨mA,O,r,_,_,_⟩:=dA_ I.hok e
 obtain⟨u,hu,ru⟩:=RelO.some_of (v:=v) (o:=mA f) (by rw[<- l];exact r f)
 exact iG_ I.kIn O (c.get f) c.hd n hu (gS_ ru) (h u _ (I.tok _) ru)
theorem d1_{m:Str}{g:Addr}{pl:Sem Bool}{Q:Value × List Value->Shared->Prop}(I:Inv X pins σ H s)(e:H a=some (.ins C dx fs))(c:Cls X.K C)(k:Meth X.K C m g)(l:fs.lookup m=none)
  (h:Q (.ref g,[.ref a]) s):wpAny (model X.prog X.w) A (getMethod (.ref a) m pl) Q E s:=by
 obtain⟨mA,O,r,_,_,_⟩:=dA_ I.hok e
 have hn:mA m=none:=RelO.none_of (by rw[<- l];exact r m)
 exact hO_ I.kIn O (c.get m) k.at_ k.fn hn h
theorem fG_{y:V}{u:Value}{Q:Unit->Shared->Prop}(I:Inv X pins σ H s)(e:H a=some (.ins C dx fs))(c:Cls X.K C)(n:NoAttr X.K C f)(hl:fs.length<1000)(ry:RelV y u)
  (h:∀s',Inv X pins σ (upd H a (.ins C dx (putF f y fs))) s'->Q () s'):wpAny (model X.prog X.w) A (setAttr (.ref a) f u) Q E s:=by
 obtain⟨mA,O,r,wi,_,ho⟩:=dA_ I.hok e
 have hz:(fs.map (·.1)).length<=sizeLine:=by rw[List.length_map,sizeLine_eq];omega
 refine iD_ I.kIn O c.sa c.po n.taker c.hd wi hz fun h' O' sb=>h _ ?_
 have hd:∃o,h'.get? dx=some o:=let ⟨o,_,_,e',_⟩:=O'.ns;⟨o,e'⟩
 refine I.write (x:=a) (e:=dx) (by rw[e];exact True.intro) (.inr ho) (fun b q hb z=>(sb.2 b hb).trans z) hd ?_
 refine⟨by rw[a7_ O.ne];exact ho,?_,O.ne,O'.obj,_,O'.ns,fun g=>?_,fun g hg=>?_⟩
 ·have:=cM_ f y fs;omega
 ·show RelO ((putF f y fs).lookup g) (if g=f then some u else mA g)
  rw[ag_]
  by_cases q:g=f
  ·rw[if_pos q,if_pos q];exact ry
  ·rw[if_neg q,if_neg q];exact r g
 ·by_cases q:g=f
  ·rw[q];exact (cU_ f y fs).1
  ·refine (cU_ f y fs).2 g (wi g fun z=>hg ?_)
   show (if g=f then some u else mA g)=none
   rw[if_neg q];exact z
theorem Inv.made(I:Inv X pins σ H s):Inv X pins σ (upd (upd H s.heap.objs.size (.own (s.heap.objs.size+1))) (s.heap.objs.size+1) (.ins C s.heap.objs.size []))
  { s with heap:=(s.heap.push PySem.W.emptyDict).push (PySem.W.instObj C s.heap.objs.size) }:=by
 have e1:(s.heap.push PySem.W.emptyDict).get? s.heap.objs.size=some PySem.W.emptyDict:=Heap.get?_push_size s.heap rfl
 have e2:((s.heap.push PySem.W.emptyDict).push (PySem.W.instObj C s.heap.objs.size)).get? (s.heap.objs.size+1)=some (PySem.W.instObj C s.heap.objs.size):=by
  have:=Heap.get?_push_size (s.heap.push PySem.W.emptyDict) (o:=PySem.W.instObj C s.heap.objs.size) rfl
  rwa [Heap.size_push] at this
 have e3:(s.heap.push PySem.W.emptyDict).Ns s.heap.objs.size (fun _=>none):=⟨PySem.W.emptyDict,#[],_,e1,rfl,(fun e he=>absurd he (by simp)),fun _=>rfl⟩
 have I1:=I.laid (a:=s.heap.objs.size) (o:=.own (s.heap.objs.size+1)) (h':=s.heap.push PySem.W.emptyDict) (t':=s.toks) (fun b u q=>Heap.get?_push_of_some _ q) (Nat.le_refl _) ⟨_,e1⟩
 refine I1.laid (a:=s.heap.objs.size+1) (o:=.ins C s.heap.objs.size []) (t':=s.toks) (fun b u q=>Heap.get?_push_of_some _ q) (Nat.le_of_eq (Heap.size_push _ _)) ?_
 have ne:s.heap.objs.size≠s.heap.objs.size+1:=Nat.ne_of_lt (Nat.lt_succ_self _)
 refine⟨by rw[a7_ ne,a1_],Nat.zero_le _,ne,e2,fun _=>none,(Heap.Ns1.of_empty e3).at fun o q=>Heap.get?_push_of_some _ q,fun _=>True.intro,fun y hy=>absurd rfl hy⟩
theorem j4_{prog:Program}{w:World}{env:Env}{e:Expr}{f:Str}{pos:Pos}{s:Shared}{Q:Value->Shared->Prop}(hb:attributeBase e f env (eval e env)=eval e env)
  (h:wpAny (model prog w) A (eval e env) (fun o s₁=>wpAny (model prog w) A (getAttr o f true) Q E s₁) E s):wpAny (model prog w) A (eval (.Attribute e f pos) env) Q E s:=
 Attribute_any_ h (by rw[arm_eval_Attribute,hb])
end
def tFld(K:PySem.W.Frag)(ta:TE)(f:Str):TE:=fun σ H Q=>ta σ H fun x H1=>∃a C dx fs v,x=.ref a/\H1 a=some (.ins C dx fs)/\Cls K C/\NoAttr K C f/\fs.lookup f=some v/\Q v H1
def sFld(K:PySem.W.Frag)(ta tv:TE)(f:Str):TS:=fun D σ H=>tv σ H fun y H1=>ta σ H1 fun x H2=>∃a C dx fs,x=.ref a/\H2 a=some (.ins C dx fs)/\Cls K C/\NoAttr K C f/\fs.length<1000 /\
 D.nx σ (upd H2 a (.ins C dx (putF f y fs)))
section
variable{X:Cx}{o e value:Expr}{f:Str}{pos pos' tpos:Pos}{ta tv:TE}
theorem aP_(he:PE X e ta)(hb:attributeBase e f X.env (eval e X.env)=eval e X.env):PE X (.Attribute e f pos) (tFld X.K ta f):=by
 intro pins s σ H Q I h
 refine j4_ hb (thn (he pins s σ H _ I h) fun u s1 ⟨x,H1,I1,rx,a,C,dx,fs,v,ex,ea,c,n,l,q⟩=>?_)
 subst ex
 obtain rfl:u=Value.ref a:=rx
 exact fI_ I1 ea c n l fun u' s2 I2 ru=>⟨v,H1,I2,ru,q⟩
theorem dc_(ha:PE X o ta)(hv:PE X value tv)(hs:swapsWith value (some (.Attribute o f pos')) pos.line X.env=pure false):PS X (.Assign [.Attribute o f pos'] value pos) (sFld X.K ta tv f):=by
 intro pins s σ H D I h
 refine plainObj_wpAny_Assign_Attribute (thn (hv pins s σ H _ I h) fun u s1 ⟨y,H1,I1,ry,q⟩=>thn (ha pins s1 σ H1 _ I1 q) fun ov s2 ⟨x,H2,I2,rx,a,C,dx,fs,ex,ea,c,n,l,q2⟩=>?_) hs
 subst ex
 obtain rfl:ov=Value.ref a:=rx
 exact fG_ I2 ea c n l ry fun s3 I3=>⟨σ,_,I3,q2⟩
end
section
variable{X:Cx}{pins:List (Addr × Obj)}{σ:St}{H:Hp}{s:Shared}{A:Around}{E:Value->Shared->Prop}{Q:Value->Shared->Prop}{c:Value}{b:Bool}
inductive TyOf (K:PySem.W.Frag) (H:Hp):V->Value->Prop where
 |non:TyOf K H .non (.type "NoneType")
 |bl (x:Bool):TyOf K H (.bl x) (.type "bool")
 |int (i:Int):TyOf K H (.int i) (.type "int")
 |str (x:Str):TyOf K H (.str x) (.type "str")
 |flt (x:UInt64):TyOf K H (.flt x) (.type "float")
 |lst {a:Addr} {xs:List V} (e:H a=some (.lst xs)):TyOf K H (.ref a) (.type "list")
 |frz {a:Addr} {o:Obj} {xs:List V} (e:H a=some (.frz o (.lst xs))):TyOf K H (.ref a) (.type "list")
 |tup {a:Addr} {xs:List V} (e:H a=some (.tup xs)):TyOf K H (.ref a) (.type "tuple")
 |dK {a:Addr} {kvs:List (Key × V)} (e:H a=some (.dK kvs)):TyOf K H (.ref a) (.type "dict")
 |dT {a:Addr} {kvs:List (List Key × V)} (e:H a=some (.dT kvs)):TyOf K H (.ref a) (.type "dict")
 |ins {a C dx:Addr} {fs:List (Str × V)} (e:H a=some (.ins C dx fs)) (cl:Cls K C) (ha:PySem.W.findIn K (.ref C) "__class__"=some (some (.builtin "object.__class__")))
   (hn:PySem.W.specialIn K (.builtin "object.__class__") "__get__"=some (some (.builtin "getset_descriptor.__get__"))) (htk:PySem.W.takesIn K (.builtin "object.__class__")=some true)
   (hm:PySem.W.mroIn K C (.type "object")=some true):TyOf K H (.ref a) (.ref C)
theorem dF_{x:V}{u t:Value}(I:Inv X pins σ H s)(rx:RelV x u)(ty:TyOf X.K H x t)(e:PySem.W.kitOne X.K t c=some b)(h:∀tk,Q (.bool b) { s with toks:=tk }) :
  wpAny (model X.prog X.w) A (call (.builtin "isinstance") [u,c]) Q E s:=by
 cases ty with
 |non=>cases (show u=Value.none from rx);exact PySem.W.kia_one PySem.W.kitx_none I.kIn True.intro e (fun z=>nomatch z) h
 |bl y=>cases (show u=Value.bool y from rx);exact PySem.W.kia_one PySem.W.kitx_bool I.kIn True.intro e (fun z=>nomatch z) h
 |int i=>obtain⟨t,q⟩:=(show ∃t,u=Value.int i t from rx);cases q;exact PySem.W.kia_one PySem.W.kitx_int I.kIn True.intro e (fun z=>nomatch z) h
 |str y=>obtain⟨t,q⟩:=(show ∃t,u=Value.str y t from rx);cases q;exact PySem.W.kia_one PySem.W.kitx_str I.kIn True.intro e (fun z=>nomatch z) h
 |flt y=>obtain⟨t,q⟩:=(show ∃t,u=Value.float y t from rx);cases q;exact PySem.W.kia_one PySem.W.kitx_float I.kIn True.intro e (fun z=>nomatch z) h
 |@lst a xs ea=>
  cases (show u=Value.ref a from rx)
  obtain⟨_,_,n,_,h1⟩:=(show ObjOk X.prog X.w H s.heap a (.lst xs) from I.hok a _ ea)
  exact PySem.W.kia_one PySem.W.kitx_list I.kIn ⟨_,h1,rfl⟩ e (fun z=>nomatch z) h
 |@frz a ob xs ea=>
  cases (show u=Value.ref a from rx)
  obtain⟨_,_,_,n,_,h1⟩:=(show ObjOk X.prog X.w H s.heap a (.frz ob (.lst xs)) from I.hok a _ ea)
  exact PySem.W.kia_one PySem.W.kitx_list I.kIn ⟨_,h1,rfl⟩ e (fun z=>nomatch z) h
 |@tup a xs ea=>
  cases (show u=Value.ref a from rx)
  obtain⟨_,_,_,p,_⟩:=(show ObjOk X.prog X.w H s.heap a (.tup xs) from I.hok a _ ea)
  obtain⟨o,h1,h2,_⟩:=p
  exact PySem.W.kia_one PySem.W.kitx_tuple I.kIn ⟨o,h1,h2⟩ e (fun z=>nomatch z) h
 |@dK a kvs ea=>
  cases (show u=Value.ref a from rx)
  obtain⟨_,_,vs,_,p⟩:=(show ObjOk X.prog X.w H s.heap a (.dK kvs) from I.hok a _ ea)
  obtain⟨o,es,ep,h1,h2,_⟩:=p
  exact PySem.W.kia_one PySem.W.kitx_dict I.kIn ⟨o,h1,h2.1⟩ e (fun z=>nomatch z) h
 |@dT a kvs ea=>
  cases (show u=Value.ref a from rx)
  obtain⟨_,_,xs,_,o,es,ep,h1,h2,_⟩:=(show ObjOk X.prog X.w H s.heap a (.dT kvs) from I.hok a _ ea)
  exact PySem.W.kia_one PySem.W.kitx_dict I.kIn ⟨o,h1,h2.1⟩ e (fun z=>nomatch z) h
 |@ins a C dx fs ea cl ha hn htk hm=>
  cases (show u=Value.ref a from rx)
  obtain⟨mA,O,_⟩:=dA_ I.hok ea
  obtain⟨od,J,_⟩:=O.look
  exact PySem.W.kia_one (PySem.W.kitx_own (cl.get _) cl.hd ha hn htk hm) I.kIn J e (fun z=>nomatch z) h
end
end L2
namespace L2
open PySem PySem.Spec PyProof.Rows
structure Room (k:Nat) (A:Around):Prop where
 hd:A.handled=none
 dp:A.depth+3 * k+5<recursionLimit
 un:A.units+16 * k+200<cLine
theorem Room.mono{j k:Nat}{A:Around}(r:Room k A)(h:j<=k):Room j A:=⟨r.hd,by have:=r.dp;omega,by have:=r.un;omega⟩
theorem Room.deeper{k:Nat}{A:Around}(r:Room (k+1) A)(env:Env):Room k (A.deeper env):=
 ⟨r.hd,by have:=r.dp;show A.depth+1+3 * k+5<_;omega,by have:=r.un;show A.units+3+16 * k+200<_;omega⟩
theorem fJ_{A:Around}{C:Addr}{us:List Value}{kw:List (Str × Value)}:(A.under (.builtin "type.__call__" ⟨.ref C::us,kw⟩)).depth=A.depth+1:=by
 first|rfl|simp[Around.under,Code.weight,Code.isCreation,Code.isGuard,Code.isCaller,Code.frames,Code.isFrame,guardIds]
theorem fH_{A:Around}{C:Addr}{us:List Value}{kw:List (Str × Value)}:(A.under (.builtin "type.__call__" ⟨.ref C::us,kw⟩)).units=A.units+1:=by
 first|rfl|simp[Around.under,Code.cUnits,Code.frames,Code.isFrame]
theorem Room.make{k:Nat}{A:Around}(r:Room (k+1) A)(C:Addr)(us:List Value)(kw:List (Str × Value)):Room k (A.under (.builtin "type.__call__" ⟨.ref C::us,kw⟩)):=
 ⟨r.hd,by have:=r.dp;rw[fJ_];omega,by have:=r.un;rw[fH_];omega⟩
theorem Room.depth{k:Nat}{A:Around}(r:Room k A):A.depth<recursionLimit:=by have:=r.dp;omega
theorem Room.units{k:Nat}{A:Around}(r:Room k A):A.units+64<cLine:=by have:=r.un;omega
def tNil:TA:=fun _ H Q=>Q [] H
def tCons(ta:TE)(tr:TA):TA:=fun σ H Q=>ta σ H fun x H1=>tr σ H1 fun xs H2=>Q (x::xs) H2
section
variable{X:Cx}{e:Expr}{es:List Expr}{te:TE}{t:TA}{pos:Pos}
theorem a2_:PA X [] tNil:=fun _ _ _ _ H Q I h=>Calls.spliced_nil ⟨[],H,I,.nil,h⟩
theorem a0_(ha:PE X e te)(hr:PA X es t)(hs:starEach (e::es) X.env=(false,eval e X.env)::starEach es X.env:=by rfl):PA X (e::es) (tCons te t):=by
 intro pos pins s σ H Q I h
 rw[hs]
 show wpAny _ _ (spliced ((false,eval e X.env)::backTo pos (starEach es X.env))) _ _ s
 refine Calls.spliced_cons (thn (ha pins s σ H _ I h) fun u s1 ⟨x,H1,I1,r1,q1⟩=>?_)
 exact thn (hr pos pins s1 σ H1 _ I1 q1) fun us s2 ⟨xs,H2,I2,r2,q2⟩=>⟨x::xs,H2,I2,.cons r1 r2,q2⟩
def tTup(t:TA):TE:=fun σ H Q=>t σ H fun xs H1=>xs.length<=sizeLine/\∀p,H1 p=none->Q (.ref p) (upd H1 p (.tup xs))
def tLst(t:TA):TE:=fun σ H Q=>t σ H fun xs H1=>xs.length<=sizeLine/\∀p,H1 p=none->Q (.ref p) (upd H1 p (.lst xs))
theorem aO_{x1}(h:PA X es t):PE X (.Tuple es x1 pos) (tTup t):=by
 intro pins s σ H Q I hq
 refine wpAny_Tuple_spliced (thn (h pos pins s σ H _ I hq) fun us s1 ⟨xs,H1,I1,r,z,q⟩=>⟨by rw[<- r.length];exact z,?_⟩)
 have hf:H1 s1.heap.objs.size=none:=I1.hok.fresh (Nat.le_refl _)
 refine⟨.ref s1.heap.objs.size,upd H1 s1.heap.objs.size (.tup xs),I1.laid (t':=s1.toks) (fun b u e=>Heap.get?_push_of_some _ e) (Nat.le_refl _) ?_,rfl,q _ hf⟩
 exact⟨z,us,r,⟨_,Heap.get?_push_size _ rfl,rfl,_,rfl⟩,_,Heap.get?_push_size _ rfl,rfl⟩
theorem aV_(h:PA X es t):PE X (.List es pos) (tLst t):=by
 intro pins s σ H Q I hq
 refine wpAny_List_spliced (thn (h pos pins s σ H _ I hq) fun us s1 ⟨xs,H1,I1,r,z,q⟩=>⟨by rw[<- r.length];exact z,?_⟩)
 have hf:H1 s1.heap.objs.size=none:=I1.hok.fresh (Nat.le_refl _)
 refine⟨.ref s1.heap.objs.size,upd H1 s1.heap.objs.size (.lst xs),I1.laid (t':=s1.toks) (fun b u e=>Heap.get?_push_of_some _ e) (Nat.le_refl _) ?_,rfl,q _ hf⟩
 exact⟨z,us,0,r,Heap.get?_push_size _ rfl⟩
end
abbrev Sp:=List V->Hp->VK->XK->Prop
abbrev CXT:=List Env->Hp->Shared->XK->Value->Shared->Prop
structure Env0 (P:Program) (w:World) (K:PySem.W.Frag) (mg:Str->Option Value) (base:Heap) (A:Around) (outer:List Env) (s:Shared) (H:Hp):Prop where
 frames:A.frames=some outer
 mod:Mod K mg base
 bs:∀b o,base.get? b=some o->s.heap.get? b=some o/\H b=none
 bsz:base.objs.size<=s.heap.objs.size
 funs:s.heap.FunFrames base outer
 frf:∀b∈frs outer,H b=none
 hok:HOk P w H s.heap
 bare:AllBare s.gens
def CE(outer:List Env)(P:Program)(w:World)(H:Hp)(s:Shared)(Q:VK)(u:Value)(s':Shared):Prop:=
 ∃v H',s'.os=s.os/\AllBare s'.gens/\Un (frs outer) [] H H' s.heap s'.heap/\HOk P w H' s'.heap/\RelV v u/\Q v H'
def CR(CX:CXT)(outer:List Env)(P:Program)(w:World)(H:Hp)(s:Shared)(Q:VK)(E:XK)(r:Result)(s':Shared):Prop:=
 match r with
 |.ok (.ret u)=>CE outer P w H s Q u s'
 |.ok _=>False
 |.error e=>CX outer H s E e s'
structure FnOk (P:Program) (w:World) (K:PySem.W.Frag) (mg:Str->Option Value) (base:Heap) (CX:CXT) (k:Nat) (f:Addr) (fd:FuncData) (ps:List Str) (sp:Sp):Prop where
 len:∀vs H Q E,sp vs H Q E->vs.length=ps.length
 run:∀(A:Around) (outer:List Env) (s:Shared) (H:Hp) (args:Args) (us:List Value) (vs:List V) (Q:VK) (E:XK),Room k A->Env0 P w K mg base A outer s H->BindsTo s fd args (ps.zip us)->Vals vs us->sp vs H Q E->
  codeAny (model P w) A (.call (.ref f) args) (CR CX outer P w H s Q E) s
theorem Env0.make{P:Program}{w:World}{K:PySem.W.Frag}{mg:Str->Option Value}{base:Heap}{A:Around}{outer:List Env}{s:Shared}{H:Hp}(e:Env0 P w K mg base A outer s H)(C:Addr)(us:List Value)(kw:List (Str × Value)) :
  Env0 P w K mg base (A.under (.builtin "type.__call__" ⟨.ref C::us,kw⟩)) outer s H:=⟨by first|exact e.frames|(simpa [Around.under,Code.envs,Code.isFrame,pushEnvs] using e.frames),e.mod,e.bs,e.bsz,e.funs,e.frf,e.hok,e.bare⟩
section
variable{X:Cx}{pins:List (Addr × Obj)}{σ:St}{H:Hp}{s s':Shared}
theorem Inv.env0(I:Inv X pins σ H s):Env0 X.prog X.w X.K X.mg X.base X.A X.stack s H:=
 ⟨I.ok.frames,I.ok.mod,I.bs,Nat.le_trans I.ok.bsz I.sz,I.stack,I.stkFree,I.hok,I.bare⟩
theorem Inv.after{Q:VK}{u:Value}(I:Inv X pins σ H s)(h:CE X.stack X.prog X.w H s Q u s'):EP X pins σ Q u s':=by
 obtain⟨v,H',os,bare,un,hok,r,q⟩:=h
 obtain⟨hh,g,d,t,os'⟩:=s'
 obtain rfl:os'=s.os:=os
 exact⟨v,H',I.call (h':=hh) (g':=g) (d':=d) (t':=t) (ch:=[]) un hok bare (fun b z=>absurd z (by simp)),r,q⟩
end
def tCall(sp:Sp)(dvs:List V)(E:XK)(t:TA):TE:=fun σ H Q=>t σ H fun vs H1=>sp (vs++dvs) H1 Q E
def tMeth(C:Addr)(m:Str)(sp:Sp)(dvs:List V)(E:XK)(ta:TE)(t:TA):TE:=fun σ H Q=>ta σ H fun x H1=>∃a dx fs,x=.ref a/\H1 a=some (.ins C dx fs)/\fs.lookup m=none /\
 t σ H1 fun vs H2=>sp (x::(vs++dvs)) H2 Q E
def tMake(C:Addr)(sp:Sp)(dvs:List V)(E:XK)(t:TA):TE:=fun σ H Q=>t σ H fun vs H1=>∀x dx,H1 x=none->H1 dx=none->dx≠x->
 sp (.ref x::(vs++dvs)) (upd (upd H1 dx (.own x)) x (.ins C dx [])) (fun v H2=>v=.non/\Q (.ref x) H2) E
def Binds(K:PySem.W.Frag)(fd:FuncData)(ps:List Str)(ds:List Value):Prop:=
 ∀(s:Shared) (us:List Value),K.In s.heap->(us++ds).length=ps.length->BindsTo s fd ⟨us,[]⟩ (ps.zip (us++ds))
theorem Binds.all{K:PySem.W.Frag}{fd:FuncData}{ps:List Str}(h:∀us:List Value,us.length=ps.length->bindArgs fd ⟨us,[]⟩=pure (ps.zip us)):Binds K fd ps []:=fun s us _ hl=>by
 rw[List.append_nil] at hl ⊢
 exact .of_eq (h us hl)
def Passes(CX:CXT)(X:Cx)(E:XK):Prop:=∀(pins:List (Addr × Obj)) (σ:St) (H:Hp) (s:Shared) (e:Value) (s':Shared),Inv X pins σ H s->CX X.stack H s E e s'->X.xe e s'
section
variable{X:Cx}{CX:CXT}{k:Nat}{f C:Addr}{fd:FuncData}{ps:List Str}{sp:Sp}{dvs:List V}{ds:List Value}{E:XK}{x m:Str}{p pos apos:Pos}{e o:Expr}{es:List Expr}{ta:TE}{t:TA}
theorem fV_{pins:List (Addr × Obj)}{σ:St}{H:Hp}{s:Shared}{Q:VK}{us:List Value}{vs:List V}(F:FnOk X.prog X.w X.K X.mg X.base CX k f fd ps sp)(hr:Room k X.A)(hb:Binds X.K fd ps ds)(hd:Vals dvs ds)(hx:Passes CX X E)
  (I:Inv X pins σ H s) (r:Vals vs us) (h:sp (vs++dvs) H Q E):wpAny (model X.prog X.w) X.A (call (.ref f) us) (EP X pins σ Q) X.xe s:=by
 have r2:Vals (vs++dvs) (us++ds):=r.append hd
 have hl:(us++ds).length=ps.length:=by rw[<- r2.length];exact F.len _ _ _ _ h
 refine wpAny_call (codeAny_mono (F.run X.A X.stack s H ⟨us,[]⟩ (us++ds) (vs++dvs) Q E hr I.env0 (hb s us I.kIn hl) r2 h) fun r s' hq=>?_)
 cases r with
 |error e=>exact hx pins σ H s e s' I hq
 |ok fl=>
  cases fl with
  |ret u=>exact I.after hq
  |next=>exact False.elim hq
  |brk=>exact False.elim hq
  |cont=>exact False.elim hq
theorem iR_(F:FnOk X.prog X.w X.K X.mg X.base CX k f fd ps sp)(hr:Room k X.A)(hg:Gl X x)(hm:X.mg x=some (.ref f))(hk:PySem.W.keepIn X.K (.ref f)=true)(hb:Binds X.K fd ps ds)(hd:Vals dvs ds)(hx:Passes CX X E)
  (ha:PA X (e::es) t) (hdb:(x == ("__debug__":Str))=false:=by decide) (he:starEach (e::es) X.env=(false,eval e X.env)::starEach es X.env:=by rfl) (hpl:(backTo pos (starEach es X.env)).any (·.1)=false:=by rfl) :
  PE X (.Call (.Name x p) (e::es) [] pos) (tCall sp dvs E t):=by
 intro pins s σ H Q I h
 refine wpAny_Call_Name_kw (dm_ I hg hm ?_ hdb)
 refine PySem.W.callWith_K (h₀:=X.base) I.ok.mod.kin hk (thn (ha pos pins s σ H _ I h) fun us s1 ⟨vs,H1,I1,r,q⟩=>⟨I1.kIn,?_⟩) he hpl
 exact fV_ F hr hb hd hx I1 r q
theorem gk_{pl:Sem Bool}(he:PE X o ta)(c:Cls X.K C)(hm:Meth X.K C m f)(F:FnOk X.prog X.w X.K X.mg X.base CX k f fd ps sp)(hr:Room k X.A)(hb:Binds X.K fd ps ds)(hd:Vals dvs ds)(hx:Passes CX X E)(ha:PA X (e::es) t)
  (hst:starEach (e::es) X.env=(false,eval e X.env)::starEach es X.env:=by rfl) (hpl:(backTo pos (starEach es X.env)).any (·.1)=false:=by rfl)
  (ht:eval (.Call (.Attribute o m apos) (e::es) [] pos) X.env=(do
   let ov <- eval o X.env
   standAt apos.atName
   let (f,first) <- holding [ov] (getMethod ov m pl)
   callWith pos f first (backTo pos (starEach (e::es) X.env)) (backToKw pos (keywordEach [] X.env))):=by rfl) :
  PE X (.Call (.Attribute o m apos) (e::es) [] pos) (tMeth C m sp dvs E ta t):=by
 intro pins s σ H Q I h
 refine PySem.W.methodCall_KW (pl:=pl) (thn (he pins s σ H _ I h) fun u s1 ⟨x,H1,I1,rx,a,dx,fs,ex,ea,l,q⟩=>?_) ht
 subst ex
 obtain rfl:u=Value.ref a:=rx
 refine d1_ I1 ea c hm l ?_
 refine PySem.W.callWith_K (first:=[.ref a]) (h₀:=X.base) I.ok.mod.kin hm.kp (thn (ha pos pins s1 σ H1 _ I1 q) fun us s2 ⟨vs,H2,I2,r,q2⟩=>⟨I2.kIn,?_⟩) hst hpl
 exact fV_ (us:=.ref a::us) (vs:=.ref a::vs) F hr hb hd hx I2 (.cons rfl r) q2
theorem hp_{pl:Sem Bool}(he:PE X o ta)(c:Cls X.K C)(hm:Meth X.K C m f)(F:FnOk X.prog X.w X.K X.mg X.base CX k f fd ps sp)(hr:Room k X.A)(hb:Binds X.K fd ps ds)(hd:Vals dvs ds)(hx:Passes CX X E)
  (ht:eval (.Call (.Attribute o m apos) [] [] pos) X.env=(do
   let ov <- eval o X.env
   standAt apos.atName
   let (f,first) <- holding [ov] (getMethod ov m pl)
   callWith pos f first (backTo pos (starEach [] X.env)) (backToKw pos (keywordEach [] X.env))):=by rfl) :
  PE X (.Call (.Attribute o m apos) [] [] pos) (tMeth C m sp dvs E ta tNil):=by
 intro pins s σ H Q I h
 refine PySem.W.methodCall_KW (pl:=pl) (thn (he pins s σ H _ I h) fun u s1 ⟨x,H1,I1,rx,a,dx,fs,ex,ea,l,q⟩=>?_) ht
 subst ex
 obtain rfl:u=Value.ref a:=rx
 refine d1_ I1 ea c hm l ?_
 exact PySem.W.callWith_K0 (first:=[.ref a]) I1.kIn hm.kp (fV_ (us:=[.ref a]) (vs:=[.ref a]) F hr hb hd hx I1 (.cons rfl .nil) q)
structure Mk (K:PySem.W.Frag) (C f:Addr):Prop where
 makes:PySem.W.makesIn K C=true
 init:PySem.W.findIn K (.ref C) "__init__"=some (some (.ref f))
 fn:PySem.W.isFn K (.ref f)=true
 kp:PySem.W.keepIn K (.ref C)=true
theorem hn_{pins:List (Addr × Obj)}{σ:St}{H:Hp}{s:Shared}{Q:VK}{us:List Value}{vs:List V}(M:Mk X.K C f)(F:FnOk X.prog X.w X.K X.mg X.base CX k f fd ps sp)(hr:Room (k+1) X.A)(hb:Binds X.K fd ps ds)(hd:Vals dvs ds)
  (hx:Passes CX X E) (I:Inv X pins σ H s) (r:Vals vs us)
  (h:∀x dx,H x=none->H dx=none->dx≠x->sp (.ref x::(vs++dvs)) (upd (upd H dx (.own x)) x (.ins C dx [])) (fun v H2=>v=.non/\Q (.ref x) H2) E) :
  wpAny (model X.prog X.w) X.A (call (.ref C) us) (EP X pins σ Q) X.xe s:=by
 have hq:=h (s.heap.objs.size+1) s.heap.objs.size (I.hok.fresh (Nat.le_succ _)) (I.hok.fresh (Nat.le_refl _)) (Nat.ne_of_lt (Nat.lt_succ_self _))
 have I2:=Inv.made (C:=C) I
 have r2:Vals (V.ref (s.heap.objs.size+1)::(vs++dvs)) (Value.ref (s.heap.objs.size+1)::(us++ds)):=.cons rfl (r.append hd)
 have hl:(Value.ref (s.heap.objs.size+1)::us++ds).length=ps.length:=by
  have e:=r2.length
  rw[F.len _ _ _ _ hq] at e
  exact e.symm
 refine wpAny_call (hb_ (f:=f) I.kIn M.makes M.init (beq_iff_eq.mp M.fn) (codeAny_mono (F.run _ X.stack _ _ ⟨Value.ref (s.heap.objs.size+1)::us,[]⟩ (Value.ref (s.heap.objs.size+1)::(us++ds)) _ _ E (hr.make C us [])
  (I2.env0.make C us []) (hb _ (Value.ref (s.heap.objs.size+1)::us) I2.kIn hl) r2 hq) fun r s' hq'=>?_))
 cases r with
 |error e=>exact hx pins σ _ _ e s' I2 hq'
 |ok fl=>
  cases fl with
  |ret u=>
   obtain⟨v,H',I3,rv,ev,q3⟩:=I2.after hq'
   subst ev
   exact⟨rv,⟨V.ref (s.heap.objs.size+1),H',I3,rfl,q3⟩⟩
  |next=>exact False.elim hq'
  |brk=>exact False.elim hq'
  |cont=>exact False.elim hq'
theorem iI_(M:Mk X.K C f)(F:FnOk X.prog X.w X.K X.mg X.base CX k f fd ps sp)(hr:Room (k+1) X.A)(hg:Gl X x)(hm:X.mg x=some (.ref C))(hb:Binds X.K fd ps ds)(hd:Vals dvs ds)(hx:Passes CX X E)
  (ha:PA X (e::es) t) (hdb:(x == ("__debug__":Str))=false:=by decide) (he:starEach (e::es) X.env=(false,eval e X.env)::starEach es X.env:=by rfl) (hpl:(backTo pos (starEach es X.env)).any (·.1)=false:=by rfl) :
  PE X (.Call (.Name x p) (e::es) [] pos) (tMake C sp dvs E t):=by
 intro pins s σ H Q I h
 refine wpAny_Call_Name_kw (dm_ I hg hm ?_ hdb)
 refine PySem.W.callWith_K (h₀:=X.base) I.ok.mod.kin M.kp (thn (ha pos pins s σ H _ I h) fun us s1 ⟨vs,H1,I1,r,q⟩=>⟨I1.kIn,?_⟩) he hpl
 exact hn_ M F hr hb hd hx I1 r q
end
def PK(X:Cx)(kws:List Keyword)(t:TA):Prop:=
 ∀(pos:Pos) (pins:List (Addr × Obj)) (s:Shared) (σ:St) (H:Hp) (Q:List V->Hp->Prop),Inv X pins σ H s->t σ H Q->wpAny (model X.prog X.w) X.A (evalAll ((backToKw pos (keywordEach kws X.env)).map (·.2))) (AP X pins σ Q) X.xe s
section
variable{X:Cx}{CX:CXT}{k:Nat}{f C:Addr}{fd:FuncData}{ps ks:List Str}{sp:Sp}{E:XK}{x m:Str}{p pos apos kpos:Pos}{e o:Expr}{es:List Expr}{kws:List Keyword}{te ta:TE}{t tk:TA}{nm:Option Str}
theorem jx_:PK X [] tNil:=fun _ _ _ _ H Q I h=>wpAny_evalAll_nil ⟨[],H,I,.nil,h⟩
theorem iO_(ha:PE X e te)(hr:PK X kws t):PK X (⟨nm,e,kpos⟩::kws) (tCons te t):=by
 intro pos pins s σ H Q I h
 show wpAny _ _ (evalAll ((do let v <- eval e X.env;standAt pos;pure v)::(backToKw pos (keywordEach kws X.env)).map (·.2))) _ _ s
 refine wpAny_evalAll_cons (wpAny_bind (thn (ha pins s σ H _ I h) fun u s1 ⟨x,H1,I1,r1,q1⟩=>wpAny_bind (wpAny_standAt (wpAny_pure ?_))))
 exact thn (hr pos pins s1 σ H1 _ I1 q1) fun us s2 ⟨xs,H2,I2,r2,q2⟩=>⟨x::xs,H2,I2,.cons r1 r2,q2⟩
structure KBinds (K:PySem.W.Frag) (fd:FuncData) (ps ks:List Str) (g:List Value->List Value->List Value) (gV:List V->List V->List V):Prop where
 to:∀(s:Shared) (us ws:List Value),K.In s.heap->(g us ws).length=ps.length->BindsTo s fd ⟨us,ks.zip ws⟩ (ps.zip (g us ws))
 rel:∀{vs:List V} {us:List Value} {zs:List V} {ws:List Value},Vals vs us->Vals zs ws->Vals (gV vs zs) (g us ws)
variable{g:List Value->List Value->List Value}{gV:List V->List V->List V}
end
structure FnScope (N P:List Str) (sc:Scope):Prop where
 kind:sc.kind=.function
 co:sc.isCoroutine=false
 gen:sc.isGenerator=false
 nd:N.Nodup
 pre:N.take P.length=P
 par:∀x∈P,sc.names.lookup x=some .local∨sc.names.lookup x=some .cell
 nofree:∀y∈sc.names,y.2≠.free
theorem dW_{kindOf:Str->Option NameKind}{x:Str}:∀{binds:List (Str × Value)} {m:Str->Option Value},(∀v,(x,v)∉binds)->bindL kindOf binds m x=m x
 |[],_,_=>rfl
 |(n,v)::r,m,h=>by
  unfold bindL
  rw[dW_ fun w hw=>h w (List.mem_cons_of_mem _ hw)]
  split
  ·have:x≠n:=by rintro rfl;exact h v List.mem_cons_self
   simp[this]
  ·rfl
theorem eb_{kindOf:Str->Option NameKind}{x:Str}:∀{binds:List (Str × Value)} {m:Str->Option Value},(∀v,(x,v)∉binds)->bindC kindOf binds m x=m x
 |[],_,_=>rfl
 |(n,v)::r,m,h=>by
  unfold bindC
  rw[eb_ fun w hw=>h w (List.mem_cons_of_mem _ hw)]
  split
  ·rfl
  ·have:x≠n:=by rintro rfl;exact h v List.mem_cons_self
   simp[this]
theorem dC_{kindOf:Str->Option NameKind}{x:Str}{v:Value}:∀{P:List Str} {vs:List Value} {i:Nat} {m:Str->Option Value},P.Nodup->P[i]? = some x->vs[i]? = some v->kindOf x=some .local->
  bindL kindOf (P.zip vs) m x=some v
 |[],_,_,_,_,h,_,_=>by simp at h
 |_::_,[],_,_,_,_,h,_=>by simp at h
 |p::P,w::vs,0,m,nd,h1,h2,hk=>by
  simp at h1 h2;subst h1;subst h2
  show bindL kindOf ((p,w)::P.zip vs) m p=_
  unfold bindL
  rw[dW_ fun v hv=>(List.nodup_cons.mp nd).1 (List.of_mem_zip hv).1,if_pos hk]
  simp
 |p::P,w::vs,i+1,m,nd,h1,h2,hk=>by
  show bindL kindOf ((p,w)::P.zip vs) m x=_
  unfold bindL
  exact dC_ (i:=i) (List.nodup_cons.mp nd).2 (by simpa using h1) (by simpa using h2) hk
theorem e2_{kindOf:Str->Option NameKind}{x:Str}{v:Value}:∀{P:List Str} {vs:List Value} {i:Nat} {m:Str->Option Value},P.Nodup->P[i]? = some x->vs[i]? = some v->kindOf x≠some .local->
  bindC kindOf (P.zip vs) m x=some v
 |[],_,_,_,_,h,_,_=>by simp at h
 |_::_,[],_,_,_,_,h,_=>by simp at h
 |p::P,w::vs,0,m,nd,h1,h2,hk=>by
  simp at h1 h2;subst h1;subst h2
  show bindC kindOf ((p,w)::P.zip vs) m p=_
  unfold bindC
  rw[eb_ fun v hv=>(List.nodup_cons.mp nd).1 (List.of_mem_zip hv).1,if_neg hk]
  simp
 |p::P,w::vs,i+1,m,nd,h1,h2,hk=>by
  show bindC kindOf ((p,w)::P.zip vs) m x=_
  unfold bindC
  exact e2_ (i:=i) (List.nodup_cons.mp nd).2 (by simpa using h1) (by simpa using h2) hk
def start(N:List Str)(vs:List V):St:=vs.map some++List.replicate (N.length - vs.length) none
def cxOf(CX:CXT)(P:Program)(w:World)(K:PySem.W.Frag)(mg:Str->Option Value)(base:Heap)(N:List Str)(qual:Str)(scope:Scope)(f:Addr)(cd:Value)(A:Around)(outer:List Env)(s:Shared)(H:Hp)(E:XK):Cx where
 prog:=P
 w:=w
 K:=K
 mg:=mg
 base:=base
 A:=A.deeper (envOfC qual scope s.heap.objs.size f cd)
 N:=N
 s₀:=s
 H₀:=H
 env:=envOfC qual scope s.heap.objs.size f cd
 outer:=outer
 stack:=envOfC qual scope s.heap.objs.size f cd::outer
 ex:=[]
 calm:=true
 fn:=fun _=>true
 pn:=[]
 xe:=fun e s'=>wpAny (model P w) (A.deeper (envOfC qual scope s.heap.objs.size f cd)) (leaving (envOfC qual scope s.heap.objs.size f cd) e) (fun _ s''=>CX outer H s E e s'') (fun e' s''=>CX outer H s E e' s'') s'
theorem f0_{sc:Scope}{n:Nat}{x:Str}(h:sc.names.lookup x=some .cell):∃c,(cellsFrom n sc.names []).lookup x=some c:=by
 have q:=PySem.W.cellsFrom_some sc.names n [] (.inl h)
 exact Option.isSome_iff_exists.mp q
theorem h5_{CX:CXT}{P:Program}{w:World}{K:PySem.W.Frag}{mg:Str->Option Value}{base:Heap}{N ps:List Str}{qual:Str}{scope:Scope}{f:Addr}{cd:Value}{A:Around}{outer:List Env}{s s1:Shared}{H:Hp}{E:XK}{us:List Value}{vs:List V}
  (S:FnScope N ps scope) (hd:A.handled=none) (e0:Env0 P w K mg base A outer s H) (hl:vs.length=ps.length) (r:Vals vs us)
  (x:InCallC s s.heap.objs.size (bindL (envOfC qual scope s.heap.objs.size f cd).kindOf (ps.zip us) fun _=>none) (cellsFrom (s.heap.objs.size+1) scope.names []) (bindC (envOfC qual scope s.heap.objs.size f cd).kindOf (ps.zip us) fun _=>none) s1) :
  Inv (cxOf CX P w K mg base N qual scope f cd A outer s H E) [] (start N vs) H s1:=by
 have hpl:ps.length<=N.length:=by have:=congrArg List.length S.pre;rw[List.length_take] at this;omega
 obtain⟨h1,tk,rfl,hk⟩:=x.done
 have noA:∀b:Addr,b∉(cxOf CX P w K mg base N qual scope f cd A outer s H E).ex:=fun b z=>absurd (show b∈([]:List Addr) from z) (by simp)
 refine⟨⟨e0.mod,S.kind,rfl,rfl,Nat.le_refl _,fun y z c h1 h2=>?_,fun y hy=>?_,fun y c _ h=>?_,fun _=>hd,Around.frames_deeper e0.frames,.inr ⟨rfl,rfl⟩,fun b z=>absurd z (noA b),e0.bs,e0.bsz,fun b _ _=>noA b,fun b z=>absurd z (noA b),e0.funs,e0.frf⟩,
  rfl,e0.bare,Un.kept hk,⟨_,x.toInCall.ns,fun i y v h1 h2 h3=>?_⟩,fun y c h=>⟨_,x.cell y c h⟩,e0.hok.fresh (Nat.le_refl _),fun y c h=>?_,fun p hp=>absurd (show p∈([]:List (Addr × Obj)) from hp) (by simp),e0.hok.kept hk,?_⟩
 ·exact name_of_addr x.apart (PySem.mem_of_lookup h1) (PySem.mem_of_lookup h2)
 ·have hy:scope.names.lookup y=some .cell∨scope.names.lookup y=some .free:=hy
  rcases hy with hy|hy
  ·exact f0_ hy
  ·exact absurd rfl (S.nofree _ (PySem.mem_of_lookup hy))
 ·exact Nat.le_of_lt (x.above y c (PySem.mem_of_lookup h))
 ·have hi:i<vs.length:=by
   unfold start at h2
   by_cases hi:i<vs.length
   ·exact hi
   ·rw[List.getElem?_append_right (by simpa using hi)] at h2
    rw[List.getElem?_replicate] at h2
    split at h2<;>cases h2
  have ha:vs[i]? = some v:=by
   unfold start at h2
   rw[List.getElem?_append_left (by simpa using hi),List.getElem?_map] at h2
   cases e:vs[i]? with
   |none=>rw[e] at h2;cases h2
   |some a=>rw[e] at h2;cases h2;rfl
  obtain⟨u,hu,rv⟩:=r.get ha
  have hp:ps[i]? = some y:=by
   rw[<- S.pre,List.getElem?_take_of_lt (by omega)];exact h1
  have ndP:ps.Nodup:=by rw[<- S.pre];exact S.nd.sublist (List.take_sublist _ _)
  refine⟨u,rv,?_⟩
  rcases S.par y (List.mem_of_getElem? hp) with k|k
  ·exact .inl ⟨k,dC_ ndP hp hu k⟩
  ·obtain⟨c,e⟩:=f0_ (n:=s.heap.objs.size+1) k
   refine .inr ⟨.inl k,c,e,?_⟩
   have q:=x.cell y c e
   rw[e2_ ndP hp hu (by show scope.names.lookup y≠_;rw[k];decide)] at q
   exact q
 ·exact e0.hok.fresh (Nat.le_of_lt (x.above y c (PySem.mem_of_lookup h)))
 ·unfold start
  show _=N.length
  rw[List.length_append,List.length_map,List.length_replicate]
  omega
theorem jE_{CX:CXT}{P:Program}{w:World}{K:PySem.W.Frag}{mg:Str->Option Value}{base:Heap}{k:Nat}{f:Addr}{name qual:Str}{params:Arguments}{body:List Stmt}{scope:Scope}{dV kV doc pm cdv ct oc:Value}{an od:Option Addr}
  {osl:Array (Option Value)} {N ps:List Str} {sp:Sp} (lk:K.lookup f=some ⟨oc,od,.func (PySem.W.fnOf name qual params body scope dV kV doc pm an cdv ct),osl⟩) (hcd:PySem.W.codeIn K cdv qual=true) (S:FnScope N ps scope)
  (len:∀vs H Q E,sp vs H Q E->vs.length=ps.length)
  (hbody:∀(A:Around) (outer:List Env) (s:Shared) (H:Hp) (vs:List V) (Q:VK) (E:XK),Room k (A.deeper (envOfC qual scope s.heap.objs.size f cdv))->sp vs H Q E->
   ∃t,PSs (cxOf CX P w K mg base N qual scope f cdv A outer s H E) body t/\t { nx:=fun _ H'=>Q .non H',rt:=Q } (start N vs) H) :
  FnOk P w K mg base CX (k+1) f (PySem.W.fnOf name qual params body scope dV kV doc pm an cdv ct) ps sp:=by
 refine⟨len,fun A outer s H args us vs Q E hr e0 hb r hsp=>?_⟩
 have hl:=len _ _ _ _ hsp
 have KX:K.In s.heap:=e0.mod.kin.keeps fun b o e=>(e0.bs b o e).1
 have lim:s.heap.NoLimit:=e0.mod.nolimit.keeps fun b o e=>(e0.bs b o e).1
 have hkind:∀y∈ps.zip us,scope.names.lookup y.1=some .local∨(scope.names.lookup y.1=some .cell/\((cellsFrom (s.heap.objs.size+1) scope.names []).lookup y.1).isSome=true):=fun⟨n,v⟩ hy=>by
  rcases S.par n (List.of_mem_zip hy).1 with q|q
  ·exact .inl q
  ·exact .inr ⟨q,PySem.W.cellsFrom_some _ _ _ (.inl q)⟩
 refine codeAny_call_function hr.depth (KX _ _ lk) rfl S.co S.gen rfl (PySem.W.codeRec_of KX hcd) (hb _ _ _ _ ?_)
 refine wpAny_newFunctionEnv_cells S.kind hkind fun env he s1 x=>?_
 subst he
 refine⟨lim.keeps x.toInCall.keep,codeAny_func ?_⟩
 obtain⟨t,ht,hq⟩:=hbody A outer s H vs Q E (hr.deeper _) hsp
 have I:Inv (cxOf CX P w K mg base N qual scope f cdv A outer s H E) [] (start N vs) H s1:=h5_ S hr.hd e0 hl r x
 refine wpAny_mono (ht [] s1 (start N vs) H _ I hq) (fun fl s' hs=>?_) fun e s' hs=>hs
 have fin:∀{σ':St} {H':Hp} {v:V} {u:Value},Inv (cxOf CX P w K mg base N qual scope f cdv A outer s H E) [] σ' H' s'->RelV v u->Q v H'->CE outer P w H s Q u s':=
  fun {σ' H' v u} J rv q=>⟨v,H',J.os,J.bare,J.base,J.hok,rv,q⟩
 cases fl with
 |ret u=>
  obtain⟨v,σ',H',J,rv,q⟩:=hs
  exact fin J rv q
 |next=>
  obtain⟨σ',H',J,q⟩:=hs
  exact fin (v:=V.non) (u:=Value.none) J rfl q
 |brk=>
  obtain⟨_,_,_,q⟩:=hs
  exact False.elim q
 |cont=>
  obtain⟨_,_,_,q⟩:=hs
  exact False.elim q
end L2
namespace L2
open PySem PySem.Spec PyProof.Rows
section
variable{X:Cx}{x:Str}{p pos:Pos}{e:Expr}{es:List Expr}{t:TA}{id T:String}{r:List V->Hp->VK->Prop}
def tCB(r:List V->Hp->VK->Prop)(t:TA):TE:=fun σ H Q=>t σ H fun vs H1=>r vs H1 Q
theorem ac_(hc:CallR X (.builtin id) r)(hg:Gl X x)(hm:X.mg x=none)(hv:bootBuiltins x=some (.builtin id))(ha:PA X (e::es) t)(hn:x≠"__name__":=by decide)(hdb:(x == ("__debug__":Str))=false:=by decide)
  (he:starEach (e::es) X.env=(false,eval e X.env)::starEach es X.env:=by rfl) (hpl:(backTo pos (starEach es X.env)).any (·.1)=false:=by rfl):PE X (.Call (.Name x p) (e::es) [] pos) (tCB r t):=by
 intro pins s σ H Q I h
 refine wpAny_Call_Name_kw (cO_ I hg hm hv ?_ hn hdb)
 exact PyProof.Rows.callWith_builtin1 (thn (ha pos pins s σ H _ I h) fun us s1 ⟨vs,H1,I1,r1,q1⟩=>hc pins s1 σ H1 vs us Q I1 r1 q1) he hpl
theorem aB_(hc:CallR X (.type T) r)(hg:Gl X x)(hm:X.mg x=none)(hv:bootBuiltins x=some (.type T))(ha:PA X (e::es) t)(hn:x≠"__name__":=by decide)(hdb:(x == ("__debug__":Str))=false:=by decide)
  (he:starEach (e::es) X.env=(false,eval e X.env)::starEach es X.env:=by rfl) (hpl:(backTo pos (starEach es X.env)).any (·.1)=false:=by rfl):PE X (.Call (.Name x p) (e::es) [] pos) (tCB r t):=by
 intro pins s σ H Q I h
 refine wpAny_Call_Name_kw (cO_ I hg hm hv ?_ hn hdb)
 exact PyProof.Rows.callWith_type1 (thn (ha pos pins s σ H _ I h) fun us s1 ⟨vs,H1,I1,r1,q1⟩=>hc pins s1 σ H1 vs us Q I1 r1 q1) he hpl
end
end L2
namespace HT
open PySem PyProof.Rows
section
open PySem.SeqAt
open PySem.AutoSeq1 (wpAny_loadPart')
open PySem.MeetsSeq PySem.MeetsSeq2 PySem.MeetsSeq3
end
section
variable{prog:Program}{w:World}{A:Around}{E:Value->Shared->Prop}{s:Shared}
def sIx(n d:Nat):Option Int->Nat
 |none=>d
 |some v=>if v<0 then (v+(n:Int)).toNat else min v.toNat n
theorem sIx_none(n d:Nat):sIx n d none=d:=rfl
theorem sIx_nat(n d k:Nat):sIx n d (some (k:Int))=min k n:=by
 show (if (k:Int)<0 then ((k:Int)+(n:Int)).toNat else min (k:Int).toNat n)=min k n
 rw[if_neg (by omega),Int.toNat_natCast]
end
end HT
namespace L2
open PySem PySem.Spec PyProof.Rows
abbrev TO:=St->Hp->(Option Int->Hp->Prop)->Prop
def PO(X:Cx)(e:Option Expr)(t:TO):Prop:=
 ∀(pins:List (Addr × Obj)) (s:Shared) (σ:St) (H:Hp) (Q:Option Int->Hp->Prop),Inv X pins σ H s->t σ H Q->
  wpAny (model X.prog X.w) X.A (evalPart e X.env) (fun u s'=>∃o H',Inv X pins σ H' s'/\IsPart u o/\Q o H') X.xe s
def tNoPart:TO:=fun _ H Q=>Q none H
def tPart(t:TE):TO:=fun σ H Q=>t σ H fun x H1=>∃i,x=.int i/\Q (some i) H1
section
variable{X:Cx}{e:Expr}{te:TE}{lo hi:Option Expr}{tl th:TO}{pos p2:Pos}
theorem bq_:PO X none tNoPart:=by
 intro pins s σ H Q I h
 rw[evalPart_none]
 exact wpAny_pure ⟨none,H,I,.none,h⟩
theorem bs_(h:PE X e te):PO X (some e) (tPart te):=by
 intro pins s σ H Q I hw
 rw[evalPart_some]
 refine thn (h pins s σ H _ I hw) fun u s1 ⟨x,H1,I1,r1,q1⟩=>?_
 obtain⟨i,rfl,q⟩:=q1
 obtain⟨t,rfl⟩:=r1
 exact⟨some i,H1,I1,.int i t,q⟩
def SlR(X:Cx)(r:V->Option Int->Option Int->Hp->VK->Prop):Prop:=
 ∀(pins:List (Addr × Obj)) (s:Shared) (σ:St) (H:Hp) (x:V) (v vl vu:Value) (lo hi:Option Int) (sl:Addr) (Q:VK),Inv X pins σ H s->RelV x v->s.heap.IsSliceOf sl vl vu .none->IsPart vl lo->IsPart vu hi->r x lo hi H Q->
  ∃T id,typeLookup (.type T) "__getitem__"=pure (some (.builtin id))/\s.TypeIs v T/\wpAny (model X.prog X.w) X.A (getItem v (.ref sl)) (EP X pins σ Q) X.xe s
def tSl(r:V->Option Int->Option Int->Hp->VK->Prop)(te:TE)(tl th:TO):TE:=fun σ H Q=>te σ H fun x H1=>tl σ H1 fun l H2=>th σ H2 fun u H3=>r x l u H3 Q
theorem aX_{r:V->Option Int->Option Int->Hp->VK->Prop}(hr:SlR X r)(he:PE X e te)(hl:PO X lo tl)(hu:PO X hi th):PE X (.Subscript e (.Slice lo hi none p2) pos) (tSl r te tl th):=by
 intro pins s σ H Q I h
 refine Subscript_ (thn (he pins s σ H _ I h) fun v s1 ⟨x,H1,I1,r1,q1⟩=>?_)
 refine wpAny_Slice (thn (hl pins s1 σ H1 _ I1 q1) fun vl s2 ⟨l,H2,I2,pl,q2⟩=>thn (hu pins s2 σ H2 _ I2 q2) fun vu s3 ⟨u,H3,I3,pu,q3⟩=>?_)
 rw[evalPart_none]
 refine wpAny_pure ?_
 have I4:Inv X pins σ H3 { s3 with heap:=s3.heap.push { cls:=.type "slice",data:=.fields #[vl,vu,.none] } }:=I3.kept (t':=s3.toks) fun b ob q=>Heap.get?_push_of_some _ q
 obtain⟨T,id,hT,ht,hg⟩:=hr pins { s3 with heap:=s3.heap.push { cls:=.type "slice",data:=.fields #[vl,vu,.none] } } σ H3 x v vl vu l u s3.heap.objs.size Q I4 r1 (Heap.IsSliceOf.new ..) pl pu q3
 show wpAny (model X.prog X.w) X.A (subscriptTail e (.Slice lo hi none p2) v (.ref s3.heap.objs.size)) (EP X pins σ Q) X.xe { s3 with heap:=s3.heap.push { cls:=.type "slice",data:=.fields #[vl,vu,.none] } }
 exact tail_any (ops:=[.ref s3.heap.objs.size,v]) ht hT hg (by with_unfolding_all rfl)
def cutV(xs:List V)(lo hi:Option Int):List V:=(xs.drop (HT.sIx xs.length 0 lo)).take (HT.sIx xs.length xs.length hi - HT.sIx xs.length 0 lo)
theorem ey_(xs:List V)(lo hi:Option Int):(cutV xs lo hi).length<=xs.length:=by
 unfold cutV
 rw[List.length_take,List.length_drop]
 omega
end
end L2
namespace L2
open PySem PySem.Spec PyProof.Rows
def ixN(n:Nat)(i:Int):Option Nat:=if 0<=i then (if i<n then some i.toNat else none) else if -(n:Int)<=i then some (i+n).toNat else none
def atI{α:Type}(xs:List α)(i:Int):Option α:=(ixN xs.length i).bind fun j=>xs[j]?
theorem g7_{n:Nat}{i:Int}{j:Nat}(h:ixN n i=some j):seqIndex? i n=some j/\j<n/\-(n:Int)<=i/\i<n:=by
 unfold ixN at h
 by_cases h0:0<=i
 ·rw[if_pos h0] at h
  by_cases h1:i<n
  ·rw[if_pos h1] at h
   have e:i.toNat=j:=Option.some.inj h
   exact⟨by rw[seqIndex_of h0 h1,e],by omega,by omega,h1⟩
  ·rw[if_neg h1] at h;cases h
 ·rw[if_neg h0] at h
  by_cases h1:-(n:Int)<=i
  ·rw[if_pos h1] at h
   have e:(i+n).toNat=j:=Option.some.inj h
   exact⟨by rw[seqIndex_neg (by omega) h1,e],by omega,h1,by omega⟩
  ·rw[if_neg h1] at h;cases h
theorem ev_{α:Type}{xs:List α}{i:Int}{v:α}(h:atI xs i=some v):∃j,seqIndex? i xs.length=some j/\xs[j]? = some v/\j<xs.length/\-(xs.length:Int)<=i/\i<xs.length:=by
 unfold atI at h
 cases e:ixN xs.length i with
 |none=>rw[e] at h;cases h
 |some j=>
  rw[e] at h
  obtain⟨h1,h2,h3,h4⟩:=g7_ e
  exact⟨j,h1,h,h2,h3,h4⟩
theorem atI_nat{α:Type}{xs:List α}{j:Nat}{v:α}(h:xs[j]? = some v):atI xs (j:Int)=some v:=by
 have hj:j<xs.length:=(List.getElem?_eq_some_iff.mp h).1
 have e:ixN xs.length (j:Int)=some j:=by
  unfold ixN
  rw[if_pos (by omega),if_pos (by omega)];simp
 unfold atI;rw[e];exact h
def PlainIx(b:Expr):Prop:=∀o i,subscripted b false o i=operate [o,i] (getItem o i)
def IxR(X:Cx)(r:R2):Prop:=
 ∀(value slice:Expr) (pins:List (Addr × Obj)) (s:Shared) (σ:St) (H:Hp) (x y:V) (v u:Value) (Q:VK),Inv X pins σ H s->RelV x v->RelV y u->r x y H Q->
  subscripted slice false v u=operate [v,u] (getItem v u)->wpAny (model X.prog X.w) X.A (subscriptTail value slice v u) (EP X pins σ Q) X.xe s
def MtR(X:Cx)(id:String)(r:V->List V->Hp->VK->Prop):Prop:=
 ∀(pins:List (Addr × Obj)) (s:Shared) (σ:St) (H:Hp) (x:V) (xs:List V) (v:Value) (us:List Value) (Q:VK),Inv X pins σ H s->RelV x v->Vals xs us->r x xs H Q->
  wpAny (model X.prog X.w) X.A (call (.builtin id) (v::us)) (EP X pins σ Q) X.xe s
section
variable{X:Cx}{a b:Expr}{ta tb:TE}{pos:Pos}
theorem aA_{r:R2}(hr:IxR X r)(ha:PE X a ta)(hb:PE X b tb)(hs:PlainIx b):PE X (.Subscript a b pos) (tOp r ta tb):=by
 intro pins s σ H Q I h
 exact Subscript_ (binT ha hb I h fun v u s2 x y H2 I2 rx ry q=>hr a b pins s2 σ H2 x y v u Q I2 rx ry q (hs _ _))
def rIxL(K:PySem.W.Frag):R2:=fun x y H Q=>∃p xs i v,x=.ref p/\y=.int i/\SqL K H p xs/\atI xs i=some v/\Q v H
def rIxT(K:PySem.W.Frag):R2:=fun x y H Q=>∃p xs i v,x=.ref p/\y=.int i/\SqT K H p xs/\atI xs i=some v/\Q v H
def rIxS:R2:=fun x y H Q=>∃z i c,x=.str z/\y=.int i/\z.length<=sizeLine/\atI z.cps.toList i=some c/\Q (.str ⟨#[c]⟩) H
theorem aN_:IxR X (rIxL X.K):=by
 intro value slice pins s σ H x y v u Q I rx ry h hs
 obtain⟨p,xs,i,z,rfl,rfl,hq,he,q⟩:=h
 cases rx
 obtain⟨t,rfl⟩:=ry
 obtain⟨its,r,pl,hz⟩:=I.list hq
 obtain⟨j,h1,h2,h3,h4,h5⟩:=ev_ he
 obtain⟨w,ew,rw'⟩:=r.get h2
 have hl:=r.length
 have hn:=line63
 have fin:EP X pins σ Q w s:=⟨z,H,I,rw',q⟩
 by_cases h0:0<=i
 ·have hj:i.toNat=j:=by
   rw[seqIndex_of h0 h5] at h1
   exact Option.some.inj h1
  exact item_listR pl.isList h0 (by omega) (by rw[hj];simpa using ew) fin hs
 ·have hj:(i+(its.toArray.size:Int)).toNat=j:=by
   rw[seqIndex_neg (by omega) h4] at h1
   rw[List.size_toArray,<- hl]
   exact Option.some.inj h1
  exact subscriptTail_builtinR (x:=w) pl.isList.typeIs slot_list_getitem.lookup
   (wpAny_getItem_list_neg (Q:=fun r s'=>r=w/\EP X pins σ Q r s') pl.isList (by omega) (by rw[List.size_toArray]<;>omega) (by omega) (by rw[hj];simpa using ew) ⟨rfl,fin⟩) hs
theorem aG_:IxR X (rIxT X.K):=by
 intro value slice pins s σ H x y v u Q I rx ry h hs
 obtain⟨p,xs,i,z,rfl,rfl,hq,he,q⟩:=h
 cases rx
 obtain⟨t,rfl⟩:=ry
 obtain⟨its,r,pl,hz⟩:=I.tuple hq
 obtain⟨j,h1,h2,h3,h4,h5⟩:=ev_ he
 obtain⟨w,ew,rw'⟩:=r.get h2
 have hl:=r.length
 have hn:=line63
 have fin:EP X pins σ Q w s:=⟨z,H,I,rw',q⟩
 exact subscriptTail_builtinR (x:=w) pl.typeIs slot_tuple_getitem.lookup
  (getItem_tuple (j:=j) (Q:=fun r s'=>r=w/\EP X pins σ Q r s') pl (by omega) (by omega) (by rw[List.size_toArray,<- hl];exact h1) (by simpa using ew) ⟨rfl,fin⟩) hs
theorem gI_:IxR X rIxS:=by
 intro value slice pins s σ H x y v u Q I rx ry h hs
 obtain⟨z,i,c,rfl,rfl,hz,he,q⟩:=h
 obtain⟨t,rfl⟩:=rx
 obtain⟨t',rfl⟩:=ry
 obtain⟨j,h1,h2,h3,h4,h5⟩:=ev_ he
 have hl:z.cps.toList.length=z.length:=by simp[Str.length]
 rw[hl] at h1 h4 h5
 have hn:=line63
 exact tail_any (typeIs_str s z t) slot_str_getitem.lookup (getItem_str (c:=c) (by
  have e1:decide (i < -(2 ^ 63:Int))=false:=decide_eq_false (by omega)
  have e2:decide (i ≥ 2 ^ 63)=false:=decide_eq_false (by omega)
  rw[e1,e2,Bool.or_false]) (by rw[h1];simpa using h2) ⟨.str ⟨#[c]⟩,H,I.tok _,⟨_,rfl⟩,q⟩) hs
theorem fB_(its:List Value)(n j:Nat)(u:Value):Obj.mapSeq (·.setIfInBounds j u) { cls:=.type "list",data:=.seq its.toArray n }={ cls:=.type "list",data:=.seq (its.set j u).toArray n }:=by
 simp[Obj.mapSeq]
theorem Inv.lst{pins:List (Addr × Obj)}{σ:St}{H:Hp}{s:Shared}{p:Addr}{xs:List V}(I:Inv X pins σ H s)(h:H p=some (.lst xs)) :
  ∃(its:List Value) (n:Nat),Vals xs its/\s.heap.get? p=some { cls:=.type "list",data:=.seq its.toArray n }/\xs.length<=sizeLine:=by
 obtain⟨z,its,n,r,e⟩:=I.hok p _ h
 exact⟨its,n,r,e,z⟩
theorem Inv.lstUpd{pins:List (Addr × Obj)}{σ:St}{H:Hp}{s:Shared}{p:Addr}{xs ys:List V}{its its':List Value}{n n':Nat}{f:Obj->Obj}(I:Inv X pins σ H s)(h:H p=some (.lst xs))
  (ho:s.heap.get? p=some { cls:=.type "list",data:=.seq its.toArray n }) (hf:f { cls:=.type "list",data:=.seq its.toArray n }={ cls:=.type "list",data:=.seq its'.toArray n' }) (r:Vals ys its') (hz:ys.length<=sizeLine) (t:Nat) :
  Inv X pins σ (upd H p (.lst ys)) { s with heap:=s.heap.update p f,toks:=t }:=by
 have e:(s.heap.update p f).get? p=some { cls:=.type "list",data:=.seq its'.toArray n' }:=by
  rw[Heap.get?_update_self f ho (by rw[hf]<;>rfl),hf]
 refine I.write (x:=p) (e:=p) (by rw[h];trivial) (.inl rfl) (fun b u hb q=>(Heap.get?_update_other _ _ (Ne.symm hb)).trans q) ⟨_,e⟩ ?_
 exact⟨hz,its',n',r,e⟩
def rSetL:V->V->V->Hp->(Hp->Prop)->Prop:=fun o i v H Q=>∃p xs k j,o=.ref p/\i=.int k/\H p=some (.lst xs)/\ixN xs.length k=some j/\Q (upd H p (.lst (xs.set j v)))
theorem dt_:PSet X rSetL:=by
 intro pins s σ H o i v ov iv u Q I ro ri rv h
 obtain⟨p,xs,k,j,rfl,rfl,hp,hj,q⟩:=h
 cases ro
 obtain⟨t,rfl⟩:=ri
 obtain⟨its,n,r,ho,hz⟩:=I.lst hp
 obtain⟨h1,h2,h3,h4⟩:=g7_ hj
 have hl:=r.length
 have hn:=line63
 have I':Inv X pins σ (upd H p (.lst (xs.set j v))) { s with heap:=s.heap.update p (Obj.mapSeq (·.setIfInBounds j u)) }:=
  I.lstUpd hp ho (fB_ its n j u) (r.set rv j) (by rw[List.length_set];exact hz) s.toks
 by_cases h0:0<=k
 ·have hk:k.toNat=j:=by
   rw[seqIndex_of h0 h4] at h1
   exact Option.some.inj h1
  exact PySem.W.ki_setAt ho h0 (by omega) (by rw[List.size_toArray,<- hl];exact h4) (by rw[hk];exact⟨_,I',q⟩)
 ·have hk:(k+(its.toArray.size:Int)).toNat=j:=by
   rw[seqIndex_neg (by omega) h3] at h1
   rw[List.size_toArray,<- hl]
   exact Option.some.inj h1
  exact PySem.W.ki_setBack ho (by omega) (by rw[List.size_toArray,<- hl];exact h3) (by omega) (by rw[hk];exact⟨_,I',q⟩)
theorem dR_(lo hi:Option Int)(n:Nat):(sliceBounds lo hi none n).1=((HT.sIx n 0 lo:Nat):Int)/\(sliceBounds lo hi none n).2.1=((HT.sIx n n hi:Nat):Int)/\(sliceBounds lo hi none n).2.2=1:=by
 refine⟨?_,?_,rfl⟩
 ·cases lo with
  |none=>simp[sliceBounds,HT.sIx]
  |some i=>
   simp only[sliceBounds,HT.sIx,Option.getD_none,show (1:Int) > 0 by decide,if_true]
   by_cases h:i<0
   ·simp only[h,if_true]<;>omega
   ·simp only[h,if_false]<;>omega
 ·cases hi with
  |none=>simp[sliceBounds,HT.sIx]
  |some i=>
   simp only[sliceBounds,HT.sIx,Option.getD_none,show (1:Int) > 0 by decide,if_true]
   by_cases h:i<0
   ·simp only[h,if_true]<;>omega
   ·simp only[h,if_false]<;>omega
theorem de_(its:List Value)(lo hi:Option Int):slicePick its.toArray lo hi none=((its.drop (HT.sIx its.length 0 lo)).take (HT.sIx its.length its.length hi - HT.sIx its.length 0 lo)).toArray:=by
 obtain⟨h1,h2,h3⟩:=dR_ lo hi its.toArray.size
 unfold slicePick
 rw[h1,h2,h3]
 simp only[sliceRange_one,pick_run,List.size_toArray]<;>rfl
def rSlL(K:PySem.W.Frag):V->Option Int->Option Int->Hp->VK->Prop:=fun x lo hi H Q=>∃a xs,x=.ref a/\SqL K H a xs/\∀p,H p=none->Q (.ref p) (upd H p (.lst (cutV xs lo hi)))
theorem bv_:SlR X (rSlL X.K):=by
 intro pins s σ H x v vl vu lo hi sl Q I rx hs pl pu h
 obtain⟨a,xs,rfl,hx,q⟩:=h
 cases rx
 obtain⟨its,r,ht,hz⟩:=I.list hx
 have hlen:=r.length
 refine⟨"list",_,slot_list_getitem.lookup,ht.isList.typeIs,?_⟩
 refine wpAny_getItem_list_slice ht.isList hs pl pu .none (by simp) ?_ (by rw[List.size_toArray]<;>omega)
 rw[de_,<- hlen]
 refine⟨.ref s.heap.objs.size,_,I.laid (t':=s.toks) (o:=.lst (cutV xs lo hi)) (fun b ob q=>Heap.get?_push_of_some _ q) (Nat.le_refl _) ?_,rfl,q _ (I.hok.fresh (Nat.le_refl _))⟩
 exact⟨Nat.le_trans (ey_ xs lo hi) hz,_,0,(r.drop (HT.sIx xs.length 0 lo)).take (HT.sIx xs.length xs.length hi - HT.sIx xs.length 0 lo),Heap.get?_push_size _ rfl⟩
def flatV:V->Bool
 |.non=>true
 |.bl _=>true
 |.int _=>true
 |.str _=>true
 |_=>false
def eqV:V->V->Bool
 |.non,.non=>true
 |.bl a,.bl b=>a == b
 |.bl a,.int b=>(if a then 1 else 0) == b
 |.int a,.bl b=>a == (if b then 1 else 0)
 |.int a,.int b=>a == b
 |.str a,.str b=>a == b
 |_,_=>false
theorem eJ_{A:Around}{s:Shared}{y x:V}{u v:Value}(ry:RelV y u)(rx:RelV x v)(fy:flatV y=true)(fx:flatV x=true):SeqAt.EqAt A s u v (eqV y x):=by
 cases y with
 |non=>
  cases ry
  cases x with
  |non=>cases rx;exact SeqAt.EqAt.same _
  |bl b=>cases rx;exact SeqAt.EqAt.none_bool b
  |int b=>obtain⟨t,rfl⟩:=rx;exact SeqAt.EqAt.none_int b t
  |str b=>obtain⟨t,rfl⟩:=rx;exact SeqAt.EqAt.none_str b t
  |_=>exact absurd (show false=true from fx) Bool.false_ne_true
 |bl a=>
  cases ry
  cases x with
  |non=>cases rx;exact SeqAt.EqAt.bool_none a
  |bl b=>cases rx;exact SeqAt.EqAt.bool_bool a b
  |int b=>obtain⟨t,rfl⟩:=rx;exact SeqAt.EqAt.bool_int a b t
  |str b=>obtain⟨t,rfl⟩:=rx;exact SeqAt.EqAt.bool_str a b t
  |_=>exact absurd (show false=true from fx) Bool.false_ne_true
 |int a=>
  obtain⟨t',rfl⟩:=ry
  cases x with
  |non=>cases rx;exact SeqAt.EqAt.int_none a t'
  |bl b=>cases rx;exact SeqAt.EqAt.int_bool a t' b
  |int b=>obtain⟨t,rfl⟩:=rx;exact SeqAt.EqAt.int_int a t' b t
  |str b=>obtain⟨t,rfl⟩:=rx;exact SeqAt.EqAt.int_str a t' b t
  |_=>exact absurd (show false=true from fx) Bool.false_ne_true
 |str a=>
  obtain⟨t',rfl⟩:=ry
  cases x with
  |non=>cases rx;exact SeqAt.EqAt.str_none a t'
  |bl b=>cases rx;exact SeqAt.EqAt.str_bool a t' b
  |int b=>obtain⟨t,rfl⟩:=rx;exact SeqAt.EqAt.str_int a t' b t
  |str b=>obtain⟨t,rfl⟩:=rx;exact SeqAt.EqAt.str_str a t' b t
  |_=>exact absurd (show false=true from fx) Bool.false_ne_true
 |_=>exact absurd (show false=true from fy) Bool.false_ne_true
theorem an_:CallR X (.builtin "len") (fun xs H Q=>∃p ys,xs=[.ref p]/\(SqL X.K H p ys∨SqT X.K H p ys)/\Q (.int ys.length) H):=by
 intro pins s σ H xs us Q I r h
 obtain⟨p,ys,rfl,hq,q⟩:=h
 obtain⟨u,rfl,rx⟩:=vals1 r
 cases rx
 have hn:=line63
 rcases hq with hq|hq
 ·obtain⟨its,r',pl,hz⟩:=I.list hq
  have hlen:=r'.length
  exact Calls.call_len_list pl.isList (by simp only[List.size_toArray]<;>omega) ⟨.int ys.length,H,I.tok _,⟨s.toks+1,by rw[List.size_toArray,hlen]⟩,q⟩
 ·obtain⟨its,r',pl,hz⟩:=I.tuple hq
  have hlen:=r'.length
  exact len_tuple pl (by simp only[List.size_toArray]<;>omega) ⟨.int ys.length,H,I.tok _,⟨s.toks+1,by rw[List.size_toArray,hlen]⟩,q⟩
theorem e9_:CallR X (.builtin "len") (fun xs H Q=>∃z,xs=[.str z]/\z.length<=sizeLine/\Q (.int z.length) H):=by
 intro pins s σ H xs us Q I r h
 obtain⟨z,rfl,hz,q⟩:=h
 obtain⟨u,rfl,t,rfl⟩:=vals1 r
 have hn:=line63
 exact len_str (by omega) ⟨.int z.length,H,I.tok _,⟨_,rfl⟩,q⟩
def tyV(K:PySem.W.Frag)(T:String)(x:V)(H:Hp):Prop:=match x with
 |.str _=>T="str"
 |.int _=>T="int"
 |.ref p=>(T="list"/\∃xs,SqL K H p xs)∨(T="tuple"/\∃o,K.lookup p=some o/\o.cls=.type "tuple"/\o.dict=none) ∨
   (T="dict"/\((∃kvs,H p=some (.dK kvs))∨∃kvs,H p=some (.dT kvs)))∨(T="set"/\∃S n,H p=some (.set S n))
 |_=>False
theorem ju_{pins:List (Addr × Obj)}{σ:St}{H:Hp}{s:Shared}{T:String}{x:V}{v:Value}(I:Inv X pins σ H s)(r:RelV x v)(ty:tyV X.K T x H) :
  s.TypeIs v T/\∀a,v=.ref a->∃ob,s.heap.get? a=some ob/\ob.dict=none:=by
 cases x with
 |str z=>
  obtain⟨t,rfl⟩:=r
  cases (show T="str" from ty)
  exact⟨typeIs_str s z t,fun _ e=>nomatch e⟩
 |int i=>
  obtain⟨t,rfl⟩:=r
  cases (show T="int" from ty)
  exact⟨typeIs_int s i t,fun _ e=>nomatch e⟩
 |ref p=>
  cases r
  rcases ty with⟨rfl,xs,hq⟩|⟨rfl,o,hk,hc,hd⟩|⟨rfl,hk⟩|⟨rfl,S,n,hk⟩
  ·obtain⟨its,_,pl,_⟩:=I.list hq
   refine⟨pl.isList.typeIs,fun a e=>?_⟩
   cases e
   obtain⟨o,n,e,c,hd,_⟩:=pl
   exact⟨o,e,hd⟩
  ·refine⟨⟨o,I.kIn p o hk,hc⟩,fun a e=>?_⟩
   cases e
   exact⟨o,I.kIn _ o hk,hd⟩
  ·have z:∃o,s.heap.get? p=some o/\o.ExactDict:=by
    rcases hk with⟨kvs,hk⟩|⟨kvs,hk⟩
    ·obtain⟨_,_,_,_,o,_,_,e,ex,_⟩:=I.hok p _ hk
     exact⟨o,e,ex⟩
    ·obtain⟨_,_,_,_,o,_,_,e,ex,_⟩:=I.hok p _ hk
     exact⟨o,e,ex⟩
   obtain⟨o,e,ex⟩:=z
   refine⟨⟨o,e,ex.1⟩,fun a e2=>?_⟩
   cases e2
   exact⟨o,e,ex.2.1⟩
  ·obtain⟨o,_,_,_,e,ex,_⟩:=I.hok p _ hk
   refine⟨⟨o,e,ex.1⟩,fun a e2=>?_⟩
   cases e2
   exact⟨o,e,ex.2.1⟩
 |_=>exact False.elim ty
def tBM(K:PySem.W.Frag)(T:String)(r:V->List V->Hp->VK->Prop)(to:TE)(t:TA):TE:=fun σ H Q=>to σ H fun x H1=>tyV K T x H1/\t σ H1 fun xs H2=>r x xs H2 Q
variable{o e:Expr}{es:List Expr}{to:TE}{t:TA}{name:Str}{apos cpos:Pos}{T id:String}{r:V->List V->Hp->VK->Prop}
theorem fM_(pa:PlainAttrs T)(slot:Slot T name id)(hty:typeOf (.builtin id)=pure (.type "method_descriptor"))(hm:MtR X id r)(ho:PE X o to)(ha:PA X (e::es) t)
  (hbase:attributeBase o name X.env (eval o X.env)=eval o X.env:=by rfl)
  (hfew:((backTo cpos (starEach (e::es) X.env)).all (fun x=>!x.1)&&(backToKw cpos (keywordEach [] X.env)).all (fun x=>x.1.isSome)
   && decide ((e::es).length+([]:List Keyword).length+(if ([]:List Keyword).isEmpty then 0 else 1)<30))=true:=by rfl)
  (hline:(apos.endLine == cpos.line)=true:=by rfl) (hs:starEach (e::es) X.env=(false,eval e X.env)::starEach es X.env:=by rfl) (hplain:(backTo cpos (starEach es X.env)).any (·.1)=false:=by rfl) :
  PE X (.Call (.Attribute o name apos) (e::es) [] cpos) (tBM X.K T r to t):=by
 intro pins s σ H Q I h
 refine wpAny_Call_method_late hbase hfew hline rfl (thn (ho pins s σ H _ I h) fun v s1 ⟨x,H1,I1,r1,ty,q1⟩=>?_)
 obtain⟨h1,h2⟩:=ju_ I1 r1 ty
 refine⟨T,id,pa,slot,hty,h1,h2,?_⟩
 have hA:=ha cpos pins s1 σ H1 _ I1 q1
 rw[hs] at hA ⊢
 refine Calls.callWith_builtin (by show (false || (backTo cpos (starEach es X.env)).any (·.1))=false;rw[hplain]<;>rfl) (Calls.evalArgs_plain ?_)
 exact thn hA fun us s2 ⟨vs,H2,I2,r2,q2⟩=>hm pins s2 σ H2 x vs v us Q I2 r1 r2 q2
end
end L2
namespace L2
open PySem PySem.Spec PyProof.Rows
def MtM(X:Cx)(id:String)(r:V->List V->Hp->VK->Prop):Prop:=
 ∀(pins:List (Addr × Obj)) (s:Shared) (σ:St) (H:Hp) (x:V) (xs:List V) (v:Value) (us:List Value) (Q:VK),Inv X pins σ H s->RelV x v->Vals xs us->r x xs H Q->
  wpAny (model X.prog X.w) X.A (call (.builtin id) (v::us)) (EP X pins σ Q) X.xe s
theorem Vals.one:∀{x:V} {us:List Value},Vals [x] us->∃u,us=[u]/\RelV x u
 |_,_,.cons r .nil=>⟨_,rfl,r⟩
theorem Vals.two:∀{x y:V} {us:List Value},Vals [x,y] us->∃u v,us=[u,v]/\RelV x u/\RelV y v
 |_,_,_,.cons r (.cons q .nil)=>⟨_,_,rfl,r,q⟩
section
variable{X:Cx}{pins:List (Addr × Obj)}{σ:St}{H:Hp}{s:Shared}{l b:Addr}{xs ys zs:List V}
theorem Inv.lset{its its':List Value}{n:Nat}{f:Array Value->Array Value}{t':Nat}(I:Inv X pins σ H s)(hH:H l=some (.lst xs))
  (e:s.heap.get? l=some { cls:=.type "list",data:=.seq its.toArray n }) (hf:f its.toArray=its'.toArray) (hv:Vals ys its') (hz:ys.length<=sizeLine) :
  Inv X pins σ (upd H l (.lst ys)) { s with heap:=s.heap.update l (Obj.mapSeq f),toks:=t' }:=by
 have q:=PySem.IsL.update e f
 rw[hf] at q
 refine I.write (x:=l) (e:=l) (by rw[hH];exact trivial) (.inl rfl) (fun b' u hb hu=>(Heap.get?_update_other s.heap (Obj.mapSeq f) (Ne.symm hb)).trans hu) ⟨_,q⟩ ?_
 exact⟨hz,its',_,hv,q⟩
theorem Inv.lnew{its:List Value}{t':Nat}(I:Inv X pins σ H s)(hv:Vals ys its)(hz:ys.length<=sizeLine) :
  Inv X pins σ (upd H s.heap.objs.size (.lst ys)) { s with heap:=s.heap.push { cls:=.type "list",data:=.seq its.toArray },toks:=t' }:=
 I.laid (fun _ _ q=>Heap.get?_push_of_some _ q) (Nat.le_refl _) ⟨hz,its,0,hv,Heap.get?_push_size _ rfl⟩
theorem Inv.fresh(I:Inv X pins σ H s):H s.heap.objs.size=none:=I.hok.fresh (Nat.le_refl _)
theorem Inv.lstM(I:Inv X pins σ H s)(hH:H l=some (.lst xs)):xs.length<=sizeLine/\∃(its:List Value) (n:Nat),Vals xs its/\xs.length=its.length/\s.heap.get? l=some { cls:=.type "list",data:=.seq its.toArray n }:=by
 obtain⟨z,its,n,r,e⟩:=I.hok l _ hH
 exact⟨z,its,n,r,r.length,e⟩
theorem notLongL{n:Nat}(h:n<=sizeLine):Builtin.List.listTooLong n=false:=by
 unfold Builtin.List.listTooLong
 exact decide_eq_false (by omega)
end
section
variable{X:Cx}
def rAppend:V->List V->Hp->VK->Prop:=fun x vs H Q=>∃l xs y,x=.ref l/\vs=[y]/\H l=some (.lst xs)/\xs.length<sizeLine/\Q .non (upd H l (.lst (xs++[y])))
theorem bN_:MtM X "list.append" rAppend:=by
 intro pins s σ H x vs v us Q I rx rv h
 obtain⟨l,xs,y,rfl,rfl,hH,hz,q⟩:=h
 cases rx
 obtain⟨u,rfl,ru⟩:=rv.one
 obtain⟨z,its,n,r,hl,e⟩:=I.lstM hH
 refine call_meets F.slot_list_append ⟨_,e,rfl⟩ F.entry_list_append (F.args_list_append_2 _ _) (PySem.list_append l its.toArray n u (by rw[List.size_toArray];omega)) ⟨e,?_⟩
 refine⟨.non,_,I.lset (its':=its++[u]) hH e (by simp) (r.append (.cons ru .nil)) ?_,rfl,q⟩
 rw[List.length_append,List.length_singleton]
 omega
def rExtend:V->List V->Hp->VK->Prop:=fun x vs H Q=>∃l b xs zs,x=.ref l/\vs=[.ref b]/\H l=some (.lst xs)/\H b=some (.lst zs)/\xs.length+zs.length<=sizeLine/\Q .non (upd H l (.lst (xs++zs)))
theorem g5_:MtM X "list.extend" rExtend:=by
 intro pins s σ H x vs v us Q I rx rv h
 obtain⟨l,b,xs,zs,rfl,rfl,hH,hB,hz,q⟩:=h
 cases rx
 obtain⟨u,rfl,ru⟩:=rv.one
 cases ru
 obtain⟨z,its,n,r,hl,e⟩:=I.lstM hH
 obtain⟨z2,its2,n2,r2,hl2,e2⟩:=I.lstM hB
 have hsz:its.toArray.size+its2.toArray.size<=sizeLine:=by rw[List.size_toArray,List.size_toArray];omega
 have hlong:¬(!its.toArray.isEmpty&&Builtin.List.listTooLong (its.toArray.size+its2.toArray.size))=true:=by
  rw[notLongL hsz,Bool.and_false]
  exact Bool.false_ne_true
 refine call_meets F.slot_list_extend ⟨_,e,rfl⟩ F.entry_list_extend (F.args_list_extend_2 _ _)
  (AutoSeq1.list_extend_list_list_0 l its.toArray n b its2.toArray n2 hlong (by rw[List.size_toArray];omega) (by omega)) ⟨e,e2,?_⟩
 refine⟨.non,_,I.lset (its':=its++its2) hH e (by simp) (r.append r2) ?_,rfl,q⟩
 rw[List.length_append]
 omega
def rCat:R2:=fun x y H Q=>∃l b xs zs,x=.ref l/\y=.ref b/\H l=some (.lst xs)/\H b=some (.lst zs)/\xs.length+zs.length<=sizeLine/\∀p,H p=none->Q (.ref p) (upd H p (.lst (xs++zs)))
theorem dX_:OpR X (binaryOp .Add) rCat:=by
 intro pins s σ H x y v u Q I rx ry h
 obtain⟨l,b,xs,zs,rfl,rfl,hH,hB,hz,q⟩:=h
 cases rx
 cases ry
 obtain⟨z,its,n,r,hl,e⟩:=I.lstM hH
 obtain⟨z2,its2,n2,r2,hl2,e2⟩:=I.lstM hB
 refine PySem.P.add_list e e2 ?_ (by rw[List.size_toArray,List.size_toArray];omega)
 have ea:its.toArray++its2.toArray=(its++its2).toArray:=by simp
 rw[ea]
 exact⟨.ref _,_,I.lnew (t':=s.toks) (r.append r2) (by rw[List.length_append];omega),rfl,q _ I.fresh⟩
end
section
variable{prog:Program}{w:World}{A:Around}{E:Value->Shared->Prop}{s:Shared}
end
section
variable{X:Cx}
end
end L2
namespace L2
open PySem PySem.Spec PyProof.Rows
section
variable{κ:Type}[DecidableEq κ]
def valV(kvs:List (κ × V))(k:κ):Option V:=(kvs.find? fun kv=>decide (kv.1=k)).map (·.2)
def putK(kvs:List (κ × V))(k:κ)(v:V):List (κ × V):=
 if (kvs.any fun kv=>decide (kv.1=k))=true then kvs.map (fun kv=>if kv.1=k then (kv.1,v) else kv) else kvs++[(k,v)]
theorem bi_{p:κ × V}{r:List (κ × V)}{k:κ}(e:p.1=k):valV (p::r) k=some p.2:=by simp[valV,List.find?_cons,e]
theorem bn_{p:κ × V}{r:List (κ × V)}{k:κ}(e:¬p.1=k):valV (p::r) k=valV r k:=by simp[valV,List.find?_cons,e]
theorem bM_(k:κ):∀kvs:List (κ × V),(kvs.any fun kv=>decide (kv.1=k))=(valV kvs k).isSome
 |[]=>rfl
 |p::r=>by
  rw[List.any_cons]
  by_cases e:p.1=k
  ·simp only[bi_ e,decide_eq_true e,Bool.true_or,Option.isSome_some]
  ·rw[bn_ e,decide_eq_false e,Bool.false_or];exact bM_ k r
theorem bI_(kvs:List (κ × V))(k:κ)(v:V):(putK kvs k v).length<=kvs.length+1:=by
 unfold putK
 split
 ·rw[List.length_map];omega
 ·rw[List.length_append,List.length_cons,List.length_nil];omega
theorem bB_{kvs:List (κ × V)}{k:κ}(v:V)(h:valV kvs k=none):putK kvs k v=kvs++[(k,v)]:=by
 unfold putK
 rw[bM_,h]
 exact if_neg (by decide)
theorem RelO.isSome_eq{o:Option V}{u:Option Value}(r:RelO o u):o.isSome=u.isSome:=by
 cases o with
 |none=>cases u with
  |none=>rfl
  |some _=>exact (show False from r).elim
 |some _=>cases u with
  |none=>exact (show False from r).elim
  |some _=>rfl
theorem KV.val{kvs:List (κ × V)}{vs:List (κ × Value)}(r:KV kvs vs)(k:κ):RelO (valV kvs k) (valueAt vs k):=by
 unfold KV at r
 induction r with
 |nil=>exact True.intro
 |@cons p q ps qs h t ih=>
  obtain⟨h1,h2⟩:=h
  by_cases e:p.1=k
  ·have e':q.1=k:=h1.symm.trans e
   have b:valueAt (q::qs) k=some q.2:=by simp[valueAt,List.find?_cons,e']
   rw[bi_ e,b];exact h2
  ·have e':¬q.1=k:=fun z=>e (h1.trans z)
   have b:valueAt (q::qs) k=valueAt qs k:=by simp[valueAt,List.find?_cons,e']
   rw[bn_ e,b];exact ih
theorem KV.any{kvs:List (κ × V)}{vs:List (κ × Value)}(r:KV kvs vs)(k:κ):(kvs.any fun kv=>decide (kv.1=k))=vs.any fun kv=>decide (kv.1=k):=by
 unfold KV at r
 induction r with
 |nil=>rfl
 |cons h t ih=>rw[List.any_cons,List.any_cons,ih,h.1]
theorem KV.repl{kvs:List (κ × V)}{vs:List (κ × Value)}(r:KV kvs vs)(k:κ){y:V}{u:Value}(ry:RelV y u) :
  KV (kvs.map fun kv=>if kv.1=k then (kv.1,y) else kv) (vs.map fun kv=>if kv.1=k then (kv.1,u) else kv):=by
 unfold KV at r ⊢
 induction r with
 |nil=>exact .nil
 |@cons p q ps qs h t ih=>
  rw[List.map_cons,List.map_cons]
  refine .cons ?_ ih
  obtain⟨h1,h2⟩:=h
  by_cases e:p.1=k
  ·rw[if_pos e,if_pos (h1.symm.trans e)];exact⟨h1,ry⟩
  ·rw[if_neg e,if_neg (fun z=>e (h1.trans z))];exact⟨h1,h2⟩
theorem KV.put{kvs:List (κ × V)}{vs:List (κ × Value)}(r:KV kvs vs)(k:κ){y:V}{u:Value}(ry:RelV y u):KV (putK kvs k y) (stored vs k u):=by
 unfold putK stored
 rw[r.any k]
 by_cases e:(vs.any fun kv=>decide (kv.1=k))=true
 ·rw[if_pos e,if_pos e];exact r.repl k ry
 ·rw[if_neg e,if_neg e];exact Paired.snoc r ⟨rfl,ry⟩
theorem KV.keys{kvs:List (κ × V)}{vs:List (κ × Value)}(r:KV kvs vs):kvs.map (·.1)=vs.map (·.1):=by
 unfold KV at r
 induction r with
 |nil=>rfl
 |cons h t ih=>rw[List.map_cons,List.map_cons,ih,h.1]
theorem KV.length{kvs:List (κ × V)}{vs:List (κ × Value)}(r:KV kvs vs):kvs.length=vs.length:=Paired.length r
end
theorem fv_{P:Program}{w:World}{k:Key}{u:Value}(r:RelV (kV k) u):(mixKind P w).is k u=true:=by
 cases k with
 |inl i=>obtain⟨t,e⟩:=(show ∃t,u=Value.int i t from r);subst e;exact eu_ P w i t
 |inr x=>obtain⟨t,e⟩:=(show ∃t,u=Value.str x t from r);subst e;exact el_ P w x t
theorem e4_{P:Program}{w:World}:∀{ks:List Key} {us:List Value},Vals (ks.map kV) us->ItemsAre (mixKind P w) ks us
 |[],_,r=>by rw[List.map_nil] at r;cases r;exact .nil
 |k::ks,_,r=>by
  rw[List.map_cons] at r
  cases r with
  |cons h t=>exact .cons (fv_ h) (e4_ t)
abbrev KT(H:Hp):List (List Key × V)->List (List Key × Addr × Value)->Prop:=Paired fun p q=>p.1=q.1/\H q.2.1=some (.tup (p.1.map kV))/\RelV p.2 q.2.2
theorem KT.val{H:Hp}{kvs:List (List Key × V)}{xs:List (List Key × Addr × Value)}(r:KT H kvs xs)(k:List Key):RelO (valV kvs k) ((atKey xs k).map (·.2)):=by
 induction r with
 |nil=>exact True.intro
 |@cons p q ps qs h t ih=>
  obtain⟨h1,_,h2⟩:=h
  by_cases e:p.1=k
  ·have e':q.1=k:=h1.symm.trans e
   have b:atKey (q::qs) k=some q.2:=by simp[atKey,List.find?_cons,e']
   rw[bi_ e,b];exact h2
  ·have e':¬q.1=k:=fun z=>e (h1.trans z)
   have b:atKey (q::qs) k=atKey qs k:=by simp[atKey,List.find?_cons,e']
   rw[bn_ e,b];exact ih
theorem KT.repl{H:Hp}{kvs:List (List Key × V)}{xs:List (List Key × Addr × Value)}(r:KT H kvs xs)(k:List Key){y:V}{u:Value}(ry:RelV y u) :
  KT H (kvs.map fun kv=>if kv.1=k then (kv.1,y) else kv) (xs.map (putAt k u)):=by
 induction r with
 |nil=>exact .nil
 |@cons p q ps qs h t ih=>
  rw[List.map_cons,List.map_cons]
  refine .cons ?_ ih
  obtain⟨h1,h2,h3⟩:=h
  unfold putAt
  by_cases e:p.1=k
  ·rw[if_pos e,if_pos (h1.symm.trans e)];exact⟨h1,h2,ry⟩
  ·rw[if_neg e,if_neg (fun z=>e (h1.trans z))];exact⟨h1,h2,h3⟩
theorem KT.put{H:Hp}{kvs:List (List Key × V)}{xs:List (List Key × Addr × Value)}(r:KT H kvs xs)(k:List Key){b:Addr}{y:V}{u:Value}(hb:H b=some (.tup (k.map kV)))(ry:RelV y u) :
  KT H (putK kvs k y) (storedH xs k b u):=by
 have e:(kvs.any fun kv=>decide (kv.1=k))=(atKey xs k).isSome:=by
  rw[bM_,(r.val k).isSome_eq,Option.isSome_map]
 unfold putK storedH
 rw[e]
 by_cases q:(atKey xs k).isSome=true
 ·rw[if_pos q,if_pos q];exact r.repl k ry
 ·rw[if_neg q,if_neg q];exact Paired.snoc r ⟨rfl,hb,ry⟩
theorem KT.keeps{H H':Hp}{kvs:List (List Key × V)}{xs:List (List Key × Addr × Value)}(r:KT H kvs xs)(ht:∀b ys,H b=some (.tup ys)->H' b=some (.tup ys)):KT H' kvs xs:=
 Paired.mapP r fun _ _ z=>⟨z.1,ht _ _ z.2.1,z.2.2⟩
section
variable{P:Program}{w:World}{H:Hp}{h:Heap}{a:Addr}
theorem jI_{u:HO}(ok:HOk P w H h)(e:Rd H a u):ObjOk P w H h a u:=e.ok ok
theorem bo_{kvs:List (Key × V)}(ok:HOk P w H h)(e:Rd H a (.dK kvs)):kvs.length<=sizeLine/\(a == sysModules)=false/\∃vs,KV kvs vs/\h.DictOf (mixKind P w) a vs:=
 show ObjOk P w H h a (.dK kvs) from jI_ ok e
theorem ej_{kvs:List (Key × V)}(ok:HOk P w H h)(e:H a=some (.dK kvs)):kvs.length<=sizeLine/\(a == sysModules)=false/\∃vs,KV kvs vs/\h.DictOf (mixKind P w) a vs:=bo_ ok (.inl e)
theorem e0_{ks:List Key}(ok:HOk P w H h)(e:H a=some (.tup (ks.map kV))):(tupleKind (mixKind P w)).is h ks a:=by
 obtain⟨_,its,r,⟨o,h1,h2,n,h3⟩,_⟩:=(show ObjOk P w H h a (.tup (ks.map kV)) from ok a _ e)
 exact⟨o,its.toArray,n,h1,h2,h3,by simpa using e4_ r⟩
theorem fE_{kvs:List (List Key × V)}(ok:HOk P w H h)(e:Rd H a (.dT kvs)):kvs.length<=sizeLine/\(a == sysModules)=false /\
  ∃xs,KT H kvs xs/\h.DictOfH (tupleKind (mixKind P w)) a xs:=by
 obtain⟨z,y,xs,r,o,es,ep,h1,h2,h3,h4,h5⟩:=(show ObjOk P w H h a (.dT kvs) from jI_ ok e)
 refine⟨z,y,xs,r,o,es,ep,h1,h2,h3,h4,fun x hx=>?_,h5⟩
 have all:∀{l:List (List Key × V)} {m:List (List Key × Addr × Value)},KT H l m->∀x∈m,(tupleKind (mixKind P w)).is h x.1 x.2.1:=by
  intro l m q
  induction q with
  |nil=>intro x hx;exact nomatch hx
  |@cons p q ps qs hq t ih=>
   intro x hx
   rcases List.mem_cons.mp hx with e|hx
   ·subst e
    exact e0_ ok (by rw[<- hq.1];exact hq.2.1)
   ·exact ih x hx
 exact all r x hx
theorem k4_{kvs:List (List Key × V)}(ok:HOk P w H h)(e:H a=some (.dT kvs)):kvs.length<=sizeLine/\(a == sysModules)=false /\
  ∃xs,KT H kvs xs/\h.DictOfH (tupleKind (mixKind P w)) a xs:=fE_ ok (.inl e)
end
def DGet(H:Hp)(a:Addr)(y:V)(r:Option V):Prop:=
 (∃kvs k,Rd H a (.dK kvs)/\y=kV k/\r=valV kvs k)∨∃kvs k b,Rd H a (.dT kvs)/\y=.ref b/\H b=some (.tup (k.map kV))/\r=valV kvs k
def DPut(H:Hp)(a:Addr)(y v:V)(H':Hp):Prop:=
 (∃kvs k,H a=some (.dK kvs)/\y=kV k/\kvs.length<sizeLine/\H'=upd H a (.dK (putK kvs k v))) ∨
 ∃kvs k b,H a=some (.dT kvs)/\y=.ref b/\H b=some (.tup (k.map kV))/\kvs.length<sizeLine/\H'=upd H a (.dT (putK kvs k v))
theorem DGet.k{H:Hp}{a:Addr}{kvs:List (Key × V)}{k:Key}(e:H a=some (.dK kvs)):DGet H a (kV k) (valV kvs k):=.inl ⟨kvs,k,.inl e,rfl,rfl⟩
theorem DGet.t{H:Hp}{a b:Addr}{kvs:List (List Key × V)}{k:List Key}(e:H a=some (.dT kvs))(eb:H b=some (.tup (k.map kV))):DGet H a (.ref b) (valV kvs k):=.inr ⟨kvs,k,b,.inl e,rfl,eb,rfl⟩
theorem DPut.k{H:Hp}{a:Addr}{kvs:List (Key × V)}{k:Key}{v:V}(e:H a=some (.dK kvs))(hl:kvs.length<sizeLine):DPut H a (kV k) v (upd H a (.dK (putK kvs k v))):=.inl ⟨kvs,k,e,rfl,hl,rfl⟩
theorem DPut.t{H:Hp}{a b:Addr}{kvs:List (List Key × V)}{k:List Key}{v:V}(e:H a=some (.dT kvs))(eb:H b=some (.tup (k.map kV)))(hl:kvs.length<sizeLine) :
  DPut H a (.ref b) v (upd H a (.dT (putK kvs k v))):=.inr ⟨kvs,k,b,e,rfl,eb,hl,rfl⟩
section
variable{X:Cx}{pins:List (Addr × Obj)}{σ:St}{H:Hp}{s:Shared}{a:Addr}{y v:V}{u r:Value}{o:Option V}{A:Around}{E:Value->Shared->Prop}
theorem Inv.big(I:Inv X pins σ H s):sysModules<s.heap.objs.size:=by
 have h:mainGlobals<s.heap.objs.size:=(I.mod.glob.keeps I.bk).lt
 exact Nat.lt_trans (by decide) h
theorem g3_{Q:Value->Shared->Prop}(hu:A.units+1<cLine)(I:Inv X pins σ H s)(g:DGet H a y (some v))(ry:RelV y u)(h:∀w' s',Inv X pins σ H s'->RelV v w'->Q w' s') :
  wpAny (model X.prog X.w) A (getItem (.ref a) u) Q E s:=by
 rcases g with⟨kvs,k,e,ey,l⟩|⟨kvs,k,b,e,ey,eb,l⟩
 ·subst ey
  obtain⟨z,hd,vs,rel,dd⟩:=bo_ I.hok e
  obtain⟨w',hw,rw'⟩:=RelO.some_of (v:=v) (o:=valueAt vs k) (by rw[l];exact rel.val k)
  exact wpAny_getItem_of (fv_ ry) dd.mapOf hw (h w' _ (I.tok _) rw')
 ·subst ey
  cases (show u=Value.ref b from ry)
  obtain⟨z,hd,xs,rel,dd⟩:=fE_ I.hok e
  obtain⟨w',hw,rw'⟩:=RelO.some_of (v:=v) (o:=(atKey xs k).map (·.2)) (by rw[l];exact rel.val k)
  obtain⟨p,hp,hp2⟩:=Option.map_eq_some_iff.mp hw
  refine wpAny_getItem_heap (tupleKind_room_in1 hu) (e0_ I.hok eb) dd hp ?_
  rw[hp2]
  exact h w' _ (I.tok _) rw'
theorem d_in{Q:Value->Shared->Prop}(hu:A.units+1<cLine)(I:Inv X pins σ H s)(g:DGet H a y o)(ry:RelV y u)(h:∀s',Inv X pins σ H s'->Q (.bool o.isSome) s') :
  wpAny (model X.prog X.w) A (compareOp .In u (.ref a)) Q E s:=by
 rcases g with⟨kvs,k,e,ey,l⟩|⟨kvs,k,b,e,ey,eb,l⟩
 ·subst ey
  obtain⟨z,hd,vs,rel,dd⟩:=bo_ I.hok e
  refine wpAny_in_of (fv_ ry) hd dd.mapOf ?_
  rw[<- (rel.val k).isSome_eq,<- l]
  exact h _ (I.tok _)
 ·subst ey
  cases (show u=Value.ref b from ry)
  obtain⟨z,hd,xs,rel,dd⟩:=fE_ I.hok e
  refine wpAny_in_heap (tupleKind_room_in1 hu) (e0_ I.hok eb) hd dd ?_
  have q:=(rel.val k).isSome_eq
  rw[Option.isSome_map] at q
  rw[<- q,<- l]
  exact h _ (I.tok _)
theorem iu_{Q:Value->Shared->Prop}(hu:A.units+1<cLine)(I:Inv X pins σ H s)(g:DGet H a y o)(ry:RelV y u)(h:∀s',Inv X pins σ H s'->Q (.bool (!o.isSome)) s') :
  wpAny (model X.prog X.w) A (compareOp .NotIn u (.ref a)) Q E s:=by
 rcases g with⟨kvs,k,e,ey,l⟩|⟨kvs,k,b,e,ey,eb,l⟩
 ·subst ey
  obtain⟨z,hd,vs,rel,dd⟩:=bo_ I.hok e
  refine wpAny_notIn_of (fv_ ry) hd dd.mapOf ?_
  rw[<- (rel.val k).isSome_eq,<- l]
  exact h _ (I.tok _)
 ·subst ey
  cases (show u=Value.ref b from ry)
  obtain⟨z,hd,xs,rel,dd⟩:=fE_ I.hok e
  refine wpAny_notIn_heap (tupleKind_room_in1 hu) (e0_ I.hok eb) hd dd ?_
  have q:=(rel.val k).isSome_eq
  rw[Option.isSome_map] at q
  rw[<- q,<- l]
  exact h _ (I.tok _)
theorem fQ_{h':Heap}{t':Nat}{ob:HO}(I:Inv X pins σ H s)(mu:Mut (H a))(hs:Heap.SameBut a s.heap h')(he:∃q,h'.get? a=some q)(new:ObjOk X.prog X.w (upd H a ob) h' a ob) :
  Inv X pins σ (upd H a ob) { s with heap:=h',toks:=t' }:=
 I.write (x:=a) (e:=a) mu (.inl rfl) (fun b q hb z=>(hs.2 b hb).trans z) he new
theorem ij_{P:Program}{w:World}{H':Hp}{h':Heap}{kvs:List (Key × V)}{vs:List (Key × Value)}(z:kvs.length<=sizeLine)(hd:(a == sysModules)=false)(rel:KV kvs vs)(dd:h'.DictOf (mixKind P w) a vs) :
  ObjOk P w H' h' a (.dK kvs):=⟨z,hd,vs,rel,dd⟩
theorem gn_{H':Hp}{Q:Unit->Shared->Prop}(hu:A.units+1<cLine)(I:Inv X pins σ H s)(g:DPut H a y v H')(ry:RelV y u)(rv:RelV v r)(h:∀s',Inv X pins σ H' s'->Q () s') :
  wpAny (model X.prog X.w) A (setItem (.ref a) u r) Q E s:=by
 rcases g with⟨kvs,k,e,ey,l,eH⟩|⟨kvs,k,b,e,ey,eb,l,eH⟩
 ·subst ey eH
  obtain⟨z,hd,vs,rel,dd⟩:=ej_ I.hok e
  have hz:vs.length<=sizeLine:=by rw[<- rel.length];exact z
  have hl:(putK kvs k v).length<=sizeLine:=by have:=bI_ kvs k v;omega
  refine wpAny_setItem_pairs (hsz:=hz) (fv_ ry) dd fun h' dd' hs=>h _ ?_
  have he:∃q,h'.get? a=some q:=let ⟨q,_,_,hq,_⟩:=dd';⟨q,hq⟩
  exact fQ_ I (by rw[e];exact True.intro) hs he (ij_ hl hd (rel.put k rv) dd')
 ·subst ey eH
  cases (show u=Value.ref b from ry)
  obtain⟨z,hd,xs,rel,dd⟩:=k4_ I.hok e
  have hz:xs.length<=sizeLine:=by rw[<- Paired.length rel];exact z
  have hl:(putK kvs k v).length<=sizeLine:=by have:=bI_ kvs k v;omega
  refine wpAny_setItem_heap (hsz:=hz) (tupleKind_room_in1 hu) (e0_ I.hok eb) dd fun h' dd' hs=>h _ ?_
  obtain⟨q,es,ep,hq,h2,h3,h4,_,h5⟩:=dd'
  refine fQ_ I (by rw[e];exact True.intro) hs ⟨q,hq⟩ ⟨hl,hd,_,(rel.put k eb rv).keeps fun c ys ec=>?_,q,es,ep,hq,h2,h3,h4,h5⟩
  rw[a7_ (az_ ec e (fun z=>nomatch z))]
  exact ec
end
section
variable{X:Cx}{pins:List (Addr × Obj)}{σ:St}{H:Hp}{s:Shared}{a:Addr}{kvs:List (Key × V)}{k:Key}{u:Value}{A:Around}{E:Value->Shared->Prop}
theorem k0_{Q:Value->Shared->Prop}(I:Inv X pins σ H s)(e:Rd H a (.dK kvs))(h:∀t s',Inv X pins σ H s'->Q (.int kvs.length t) s'):wpAny (model X.prog X.w) A (call (.builtin "len") [.ref a]) Q E s:=by
 obtain⟨z,hd,vs,rel,dd⟩:=bo_ I.hok e
 refine call_len_dict hd dd (by rw[<- rel.length];rw[sizeLine_eq] at z;omega) ?_
 rw[<- rel.length]
 exact h _ _ (I.tok _)
end
def NoSl(i:Expr):Prop:=∀ov iv,subscripted i false ov iv=operate [ov,iv] (getItem ov iv)
theorem iA_{prog:Program}{w:World}{A:Around}{E:Value->Shared->Prop}{s:Shared}{env:Env}{value slice:Expr}{pos:Pos}{T id:String}{Q:Value->Shared->Prop}
  (hl:typeLookup (.type T) "__getitem__"=pure (some (.builtin id))) (hs:NoSl slice)
  (h:wpAny (model prog w) A (eval value env) (fun o s₁=>wpAny (model prog w) A (eval slice env) (fun i s₂=>s₂.TypeIs o T/\wpAny (model prog w) A (getItem o i) Q E s₂) E s₁) E s) :
  wpAny (model prog w) A (eval (.Subscript value slice pos) env) Q E s:=by
 refine Subscript_ (wpAny_mono h (fun o s₁ h₁=>wpAny_mono h₁ (fun i s₂ h₂=>?_) fun _ _ x=>x) fun _ _ x=>x)
 obtain⟨hT,h₂⟩:=h₂
 unfold subscriptTail
 refine wpAny_bind ?_
 rw[getitemInPython_of_ne hT.not_modules]
 refine wpAny_bind (wpAny_specialOf hT hl ?_)
 have fin:wpAny (model prog w) A (subscripted slice false o i) (fun r s₃=>wpAny (model prog w) A (letTemporaryGo value o r >>= fun _=>pure r) Q E s₃) E s₂:=by
  rw[hs o i]
  exact wpAny_operating (wpAny_mono h₂ (fun r s₃ h₃=>wpAny_bind (wpAny_letTemporaryGo (wpAny_pure h₃))) fun _ _ x=>x)
 first
  |exact wpAny_pure (wpAny_bind fin)
  |exact wpAny_bind (wpAny_pure (wpAny_bind fin))
  |exact wpAny_bind fin
theorem eq_{X:Cx}{pins:List (Addr × Obj)}{σ:St}{H:Hp}{s:Shared}{a:Addr}{y:V}{o:Option V}(I:Inv X pins σ H s)(g:DGet H a y o):s.TypeIs (.ref a) "dict":=by
 rcases g with⟨kvs,k,e,_,_⟩|⟨kvs,k,b,e,_,_,_⟩
 ·obtain⟨_,_,vs,_,dd⟩:=bo_ I.hok e
  exact dd.typeIs
 ·obtain⟨_,_,xs,_,dd⟩:=fE_ I.hok e
  exact dd.typeIs
def tDGet(td ty:TE):TE:=fun σ H Q=>td σ H fun x H1=>ty σ H1 fun y H2=>∃a v,x=.ref a/\DGet H2 a y (some v)/\Q v H2
def tDIn(ty td:TE):TE:=fun σ H Q=>ty σ H fun y H1=>td σ H1 fun x H2=>∃a o,x=.ref a/\DGet H2 a y o/\Q (.bl o.isSome) H2
def tDNotIn(ty td:TE):TE:=fun σ H Q=>ty σ H fun y H1=>td σ H1 fun x H2=>∃a o,x=.ref a/\DGet H2 a y o/\Q (.bl (!o.isSome)) H2
def sDPut(td ty tv:TE):TS:=fun D σ H=>tv σ H fun v H1=>td σ H1 fun x H2=>ty σ H2 fun y H3=>∃a H4,x=.ref a/\DPut H3 a y v H4/\D.nx σ H4
section
variable{X:Cx}{o i e value:Expr}{pos pos' tpos:Pos}{td ty tv:TE}
theorem aJ_(hu:X.A.units+1<cLine)(ho:PE X o td)(hi:PE X i ty)(hs:NoSl i):PE X (.Subscript o i pos) (tDGet td ty):=by
 intro pins s σ H Q I h
 refine iA_ PySem.F.slot_dict_getitem.lookup hs (thn (ho pins s σ H _ I h) fun u s1 ⟨x,H1,I1,rx,q1⟩=>thn (hi pins s1 σ H1 _ I1 q1) fun iv s2 ⟨y,H2,I2,ry,a,v,ex,g,q2⟩=>?_)
 subst ex
 obtain rfl:u=Value.ref a:=rx
 exact⟨eq_ I2 g,g3_ hu I2 g ry fun w' s3 I3 rw'=>⟨v,H2,I3,rw',q2⟩⟩
theorem d5_(hu:X.A.units+1<cLine)(hi:PE X i ty)(ho:PE X o td):PC X .In i o (tDIn ty td):=by
 intro pins s σ H Q I h
 refine thn (hi pins s σ H _ I h) fun iv s1 ⟨y,H1,I1,ry,q1⟩=>thn (ho pins s1 σ H1 _ I1 q1) fun u s2 ⟨x,H2,I2,rx,a,ov,ex,g,q2⟩=>?_
 subst ex
 obtain rfl:u=Value.ref a:=rx
 exact d_in hu I2 g ry fun s3 I3=>⟨.bl ov.isSome,H2,I3,rfl,q2⟩
theorem e5_(hu:X.A.units+1<cLine)(hi:PE X i ty)(ho:PE X o td):PC X .NotIn i o (tDNotIn ty td):=by
 intro pins s σ H Q I h
 refine thn (hi pins s σ H _ I h) fun iv s1 ⟨y,H1,I1,ry,q1⟩=>thn (ho pins s1 σ H1 _ I1 q1) fun u s2 ⟨x,H2,I2,rx,a,ov,ex,g,q2⟩=>?_
 subst ex
 obtain rfl:u=Value.ref a:=rx
 exact iu_ hu I2 g ry fun s3 I3=>⟨.bl (!ov.isSome),H2,I3,rfl,q2⟩
theorem bt_(hu:X.A.units+1<cLine)(ho:PE X o td)(hi:PE X i ty)(hv:PE X value tv)(hs:swapsWith value (some (.Subscript o i pos')) pos.line X.env=pure false) :
  PS X (.Assign [.Subscript o i pos'] value pos) (sDPut td ty tv):=by
 intro pins s σ H D I h
 refine wpAny_Assign_Subscript (thn (hv pins s σ H _ I h) fun r s1 ⟨v,H1,I1,rv,q1⟩=>thn (ho pins s1 σ H1 _ I1 q1) fun u s2 ⟨x,H2,I2,rx,q2⟩=>thn (hi pins s2 σ H2 _ I2 q2) fun iv s3 ⟨y,H3,I3,ry,a,H4,ex,g,q3⟩=>?_) hs
 subst ex
 obtain rfl:u=Value.ref a:=rx
 exact gn_ hu I3 g ry rv fun s4 I4=>⟨σ,H4,I4,q3⟩
end
theorem hL_{P:Program}{w:World}{H:Hp}(h:Heap)(hb:sysModules<h.objs.size):ObjOk P w H (h.push { cls:=.type "dict",data:=.dict #[] }) h.objs.size (.dK []):=
 ⟨Nat.zero_le _,beq_eq_false_iff_ne.mpr (Ne.symm (Nat.ne_of_lt hb)),[],.nil,Heap.DictOf.new h⟩
theorem hE_{P:Program}{w:World}{H:Hp}(h:Heap)(hb:sysModules<h.objs.size):ObjOk P w H (h.push { cls:=.type "dict",data:=.dict #[] }) h.objs.size (.dT []):=
 ⟨Nat.zero_le _,beq_eq_false_iff_ne.mpr (Ne.symm (Nat.ne_of_lt hb)),[],.nil,_,#[],0,Heap.get?_push_size _ rfl,⟨rfl,rfl,rfl⟩,rfl,rfl,List.nodup_nil⟩
def tDNewK:TE:=fun _ H Q=>∀p,H p=none->Q (.ref p) (upd H p (.dK []))
def tDNewT:TE:=fun _ H Q=>∀p,H p=none->Q (.ref p) (upd H p (.dT []))
section
variable{X:Cx}{pos:Pos}
theorem bA_:PE X (.Dict [] [] pos) tDNewK:=fun pins s σ H Q I h=>
 wpAny_Dict_empty ⟨.ref s.heap.objs.size,_,I.laid (a:=s.heap.objs.size) (o:=.dK []) (t':=s.toks) (fun _ _ q=>Heap.get?_push_of_some _ q) (Nat.le_refl _) (hL_ s.heap I.big),rfl,h _ (I.hok.fresh (Nat.le_refl _))⟩
theorem hd_:PE X (.Dict [] [] pos) tDNewT:=fun pins s σ H Q I h=>
 wpAny_Dict_empty ⟨.ref s.heap.objs.size,_,I.laid (a:=s.heap.objs.size) (o:=.dT []) (t':=s.toks) (fun _ _ q=>Heap.get?_push_of_some _ q) (Nat.le_refl _) (hE_ s.heap I.big),rfl,h _ (I.hok.fresh (Nat.le_refl _))⟩
end
def mergeK(kvs more:List (Key × V)):List (Key × V):=more.foldl (fun acc kv=>putK acc kv.1 kv.2) kvs
theorem bU_:∀(more kvs:List (Key × V)),(mergeK kvs more).length<=kvs.length+more.length
 |[],kvs=>by show kvs.length<=kvs.length+0;omega
 |p::r,kvs=>by
  have h1:=bU_ r (putK kvs p.1 p.2)
  have h2:=bI_ kvs p.1 p.2
  show (mergeK (putK kvs p.1 p.2) r).length<=_
  rw[List.length_cons];omega
structure M1 (X:Cx) (o:Expr) (m:Str) (apos:Pos) (e:Expr) (cpos:Pos):Prop where
 base:attributeBase o m X.env (eval o X.env)=eval o X.env
 few:((backTo cpos (starEach [e] X.env)).all (fun x=>!x.1)&&(backToKw cpos (keywordEach [] X.env)).all (fun x=>x.1.isSome)
  && decide (([e]:List Expr).length+([]:List Keyword).length+(if ([]:List Keyword).isEmpty then 0 else 1)<30))=true
 line:(apos.endLine == cpos.line)=true
 trees:backTo cpos (starEach [e] X.env)=[(false,eval e X.env)]
structure M2 (X:Cx) (o:Expr) (m:Str) (apos:Pos) (e f:Expr) (cpos:Pos):Prop where
 base:attributeBase o m X.env (eval o X.env)=eval o X.env
 few:((backTo cpos (starEach [e,f] X.env)).all (fun x=>!x.1)&&(backToKw cpos (keywordEach [] X.env)).all (fun x=>x.1.isSome)
  && decide (([e,f]:List Expr).length+([]:List Keyword).length+(if ([]:List Keyword).isEmpty then 0 else 1)<30))=true
 line:(apos.endLine == cpos.line)=true
 trees:backTo cpos (starEach [e,f] X.env)=[(false,eval e X.env),(false,eval f X.env)]
def IsD(H:Hp)(a:Addr):Prop:=(∃kvs,Rd H a (.dK kvs))∨∃kvs,Rd H a (.dT kvs)
theorem ie_{X:Cx}{pins:List (Addr × Obj)}{σ:St}{H:Hp}{s:Shared}{a:Addr}(I:Inv X pins σ H s)(d:IsD H a) :
  s.TypeIs (.ref a) "dict"/\(∀b,Value.ref a=.ref b->∃ob,s.heap.get? b=some ob/\ob.dict=none)/\(a == sysModules)=false:=by
 rcases d with⟨kvs,e⟩|⟨kvs,e⟩
 ·obtain⟨_,hd,vs,_,dd⟩:=bo_ I.hok e
  refine⟨dd.typeIs,fun b q=>?_,hd⟩
  cases q
  obtain⟨ob,_,_,h1,h2,_⟩:=dd
  exact⟨ob,h1,h2.2.1⟩
 ·obtain⟨_,hd,xs,_,dd⟩:=fE_ I.hok e
  refine⟨dd.typeIs,fun b q=>?_,hd⟩
  cases q
  obtain⟨ob,_,_,h1,h2,_⟩:=dd
  exact⟨ob,h1,h2.2.1⟩
section
variable{X:Cx}{pins:List (Addr × Obj)}{σ:St}{H:Hp}{s:Shared}{a:Addr}{y d:V}{u r:Value}{o:Option V}{A:Around}{E:Value->Shared->Prop}
end
section
variable{X:Cx}{o e f:Expr}{apos cpos:Pos}{td ty tx:TE}
end
section
variable{X:Cx}{pins:List (Addr × Obj)}{σ:St}{H:Hp}{s:Shared}{a:Addr}{kvs:List (Key × V)}{A:Around}{E:Value->Shared->Prop}
end
section
variable{X:Cx}{pins:List (Addr × Obj)}{σ:St}{H:Hp}{s:Shared}{a:Addr}{y:V}{u:Value}{A:Around}{E:Value->Shared->Prop}
end
end L2
namespace Att
open PySem PySem.W PySem.Calls PyProof.Rows
theorem cK_{P:Params}{h:Heap}:∀(ns:List Int) (vs:List Value),WellAll P h vs (ns.map WData.int)->IntsAre vs ns:=by
 intro ns
 induction ns with
 |nil=>
  intro vs w
  rw[List.map_nil] at w
  cases w
  exact .nil
 |cons n ns ih=>
  intro vs w
  rw[List.map_cons] at w
  cases w with
  |cons a b=>
   cases a
   exact .cons _ _ (ih _ b)
theorem gF_{l:OpenLaw}{n:Nat}(hn:l.most=some n){P:Params}{h:Heap}{args:List WData}{vals:List Value}
  (hpre:l.row.toRowW.claim.pre args=true) (hwl:WellAll P h vals args) :
  ∃a vs ns,vals=[Value.ref a]/\args=[WData.list (ns.map WData.int)]/\h.get? a=some { cls:=.type "list",data:=.seq vs.toArray }/\IntsAre vs ns/\ns.length<=n:=by
 have hsh:WShape.hasAll [] args [.list .int]=true:=(pre_splitW hpre).1
 have hc:l.pre.holds [] { args:=args }=true:=(pre_splitW hpre).2
 obtain⟨d,r,rfl,h1,h2⟩:=hasAllW_cons hsh
 obtain rfl:=hasAllW_nil h2
 obtain⟨xs,rfl,h3⟩:=hasW_list h1
 obtain⟨ns,rfl⟩:=items_int h3
 have hlen:ns.length<=n:=by
  unfold OpenLaw.pre at hc
  have h4:(WTm.not (.lt (.lit (.int (n:Int))) (.len (.arg 0)))).holds [] { args:=[.list (ns.map .int)] }=true:=by
   have h4:=(holds_andW hc).1
   rw[hn] at h4
   exact h4
  have h5:=condW_of h4 (w_not (w_lt w_lit (w_len_list (w_arg rfl))))
  rw[List.length_map] at h5
  refine Nat.le_of_not_lt fun q=>?_
  have q':(n:Int)<((ns.length:Nat):Int):=by omega
  first
   |(rw[decide_eq_true q'] at h5;exact absurd h5 (by decide))
   |(simp at h5;omega)
 cases hwl with
 |cons w1 w2=>
  cases w2
  cases w1 with
  |list ho hall=>exact⟨_,_,ns,rfl,rfl,ho,cK_ ns _ hall,hlen⟩
theorem fZ_(l:OpenLaw)(args:List WData):l.row.toRowW.claim.post args (.bool true) args=true:=
 postW_of (r:=l.row.toRowW) (X:=(true == true))
  (show WShape.has [] (.bool true) .bool=true by first|rfl|decide|simp[WShape.has,WShape.arms,WShape.armsAll])
  (show (WTm.eq .res (.lit (.bool true))).value [] { args:=args,res:=some (.bool true),after:=args }=some (.bool (true == true)) from w_eq_bool (w_res rfl) w_lit) rfl
theorem attach_call{l:OpenLaw}{n:Nat}{q:Program}{loose:List Str}{XP:(Str->Option Value)->Heap->Prop}{YP:World->Heap->Prop}{d:DefRec}
  (hn:l.most=some n) (hdf:d.params.defaults=[])
  (call:∀(w:World) (s₀ s₁:Shared) (mg mb:Str->Option Value) (fa:Addr) (o:Obj) (pm cd doc:Value) (a:Addr) (vs:List Value) (ns:List Int),
   Ground q loose [] XP w s₀ mg mb s₁.heap->YP w s₁.heap->
   s₁.heap.get? fa=some o->o.data=.func (docDef d.name d.params d.body d.scope pm cd doc)->s₁.heap.CodeRec cd d.name->mg d.name=some (.ref fa)->
   s₁.heap.get? a=some { cls:=.type "list",data:=.seq vs.toArray }->IntsAre vs ns->ns.length<=n->s₁.gens=#[]->
   codeAny (model l.prog w) callerA (.call (.ref fa) ⟨[.ref a],[]⟩) (fun r s'=>r=.ok (.ret (.bool true))/\OldK s₁.heap s'.heap/\s'.os=s₁.os/\AllBare s'.gens) s₁) :
  WalkO q loose XP YP l.row.toRowW d [] (fun f vs=>PySem.call f vs):=by
 intro w s₀ s₁ mg mb G Y fa o pm cd doc dV kV ho hd hcd hD hmg hg args vals as hpre hlay hrd hwl hlo
 obtain rfl:dV=.none:=Dflts.none hD hdf
 obtain rfl:kV=.none:=Dflts.noKw hD
 obtain⟨a,vs,ns,rfl,rfl,hobj,hints,hlen⟩:=gF_ hn hpre hwl
 refine enter_call (codeAny_mono (call w s₀ s₁ mg mb fa o pm cd doc a vs ns G Y ho (fd_plain hd) hcd hmg hobj hints hlen hg) fun r s' hq=>?_)
 obtain⟨rfl,h2,h3,h4⟩:=hq
 exact⟨.inl ⟨.bool true,.bool true,[],rfl,fun _=>rfl,.bool true,fZ_ l _,fun _=>⟨List.Pairwise.nil,fun _ hm=>(nomatch hm)⟩⟩,h2,h3,h4⟩
section
variable{prog:Program}{w:World}{A:Around}{E:Value->Shared->Prop}{s:Shared}{K:Frag}
end
end Att
namespace L2
open PySem PySem.Spec PyProof.Rows
theorem e1_:∀{vs:List Value} {ns:List Int},IntsAre vs ns->Vals (ns.map V.int) vs
 |_,_,.nil=>.nil
 |_,_,.cons n t h=>.cons ⟨t,rfl⟩ (e1_ h)
def Only(H:Hp):Prop:=∀b,H b=none∨∃o xs,H b=some (.frz o (.lst xs))
theorem hh_{P:Program}{w:World}{K:PySem.W.Frag}{mg mb:Str->Option Value}{CX:CXT}{k:Nat}{fa a:Addr}{fd:FuncData}{x:Str}{sp:Sp}{s₁:Shared}{vs:List Value}{ns:List Int}
  (KX:K.In s₁.heap) (hns:s₁.heap.Ns mainGlobals mg) (hb:s₁.heap.Ns builtinsNs mb) (hbb:∀x:Str,x≠"__name__"->mb x=bootBuiltins x) (hlim:s₁.heap.NoLimit) (hg:s₁.gens=#[])
  (ha:s₁.heap.get? a=some { cls:=.type "list",data:=.seq vs.toArray }) (hi:IntsAre vs ns) (hl:ns.length<=sizeLine) (hr:Room k callerA)
  (F:∀base:Heap,K.In base->base.Ns mainGlobals mg->FnOk P w K mg base CX k fa fd [x] sp) (hbind:∀(s:Shared) (u:Value),BindsTo s fd ⟨[u],[]⟩ [(x,u)])
  (hsp:∀H:Hp,Only H->SqL K H a (ns.map V.int)->sp [.ref a] H (fun v _=>v=.bl true) fun _ _ _=>False)
  (hCX:∀H e s',CX [] H s₁ (fun _ _ _=>False) e s'->False) :
  codeAny (model P w) callerA (.call (.ref fa) ⟨[.ref a],[]⟩) (fun r s'=>r=.ok (.ret (.bool true))/\OldK s₁.heap s'.heap/\s'.os=s₁.os/\AllBare s'.gens) s₁:=by
 have rv:=e1_ hi
 have lenV:=hi.length
 have core:∀H:Hp,Only H->SqL K H a (ns.map V.int)->HOk P w H s₁.heap->(∀b,H b≠none->b=a)->(H a≠none->K.lookup a=none)->
   codeAny (model P w) callerA (.call (.ref fa) ⟨[.ref a],[]⟩) (fun r s'=>r=.ok (.ret (.bool true))/\OldK s₁.heap s'.heap/\s'.os=s₁.os/\AllBare s'.gens) s₁:=by
  intro H hO hS hok hA hK
  have base_of:∀{b:Addr} {o:Obj},s₁.heap.get? b=some o->H b=none->(hidT s₁.heap H).get? b=some o:=fun e n=>i1_ e n
  have noA:∀{b:Addr} {o:Obj} {es:Array DictEntry} {ep:Nat},s₁.heap.get? b=some o->o.data=.dict es ep->H b=none:=fun {b o es ep} e d=>by
   cases q:H b with
   |none=>rfl
   |some u=>
    have e':b=a:=hA b (by rw[q];simp)
    subst e'
    rw[ha] at e;cases e
    have d':Data.seq vs.toArray _=Data.dict es ep:=d
    cases d'
  have nsK:∀{b:Addr} {m:Str->Option Value},s₁.heap.Ns b m->(hidT s₁.heap H).Ns b m:=fun {b m} ⟨o,es,ep,e,d,r⟩=>⟨o,es,ep,base_of e (noA e d),d,r⟩
  have hKb:K.In (hidT s₁.heap H):=fun b o e=>base_of (KX b o e) (by
   cases q:H b with
   |none=>rfl
   |some u=>
    have e':b=a:=hA b (by rw[q];simp)
    subst e'
    rw[hK (by rw[q];simp)] at e;cases e)
  have hM:Mod K mg (hidT s₁.heap H):=⟨hKb,nsK hns,⟨mb,nsK hb,hbb⟩,let ⟨mc,h1,h2⟩:=hlim;⟨mc,nsK h1,h2⟩⟩
  have e0:Env0 P w K mg (hidT s₁.heap H) callerA [] s₁ H:=⟨rfl,hM,fun b o e=>ir_ e,Nat.le_of_eq (fN_ _ _),trivial,fun b hb=>absurd (show b∈([]:List Addr) from hb) (by simp),hok,.of_eq hg⟩
  refine codeAny_mono ((F _ hKb (nsK hns)).run callerA [] s₁ H ⟨[.ref a],[]⟩ [.ref a] [.ref a] _ _ hr e0 (hbind s₁ (.ref a)) (.cons rfl .nil) (hsp H hO hS)) fun r s' h=>?_
  cases r with
  |error e=>exact (hCX H e s' h).elim
  |ok fl=>
   cases fl with
   |next=>exact False.elim h
   |brk=>exact False.elim h
   |cont=>exact False.elim h
   |ret u=>
    obtain⟨v,H',os,bare,un,hok',r',q⟩:=h
    have q':v=.bl true:=q
    subst q'
    obtain rfl:u=Value.bool true:=r'
    refine⟨rfl,OldK.of_keep fun b o e=>?_,os,bare⟩
    cases q:H b with
    |none=>exact un.keep b o e q (by intro z;exact absurd (show b∈([]:List Addr) from z) (by simp)) (by simp)
    |some u=>
     rcases hO b with z|⟨ob,xs,z⟩
     ·rw[q] at z;cases z
     ·have z2:=un.frzs b ob _ z
      obtain⟨e1,_⟩:=hok b _ z
      obtain⟨e2,_⟩:=hok' b _ z2
      rw[e] at e1;cases e1
      exact e2
 cases hk:K.lookup a with
 |some o=>
  have e:=KX a o hk
  rw[ha] at e
  cases e
  refine core (fun _=>none) (fun _=>.inl rfl) (.inr ⟨_,vs.toArray,_,hk,rfl,rfl,rfl,by rw[List.size_toArray,lenV];exact hl,by simpa using rv⟩) (fun b u z=>by have z':(none:Option HO)=some u:=z;cases z') (fun b z=>absurd rfl z) fun z=>absurd rfl z
 |none=>
  refine core (fun b=>if b=a then some (.frz { cls:=.type "list",data:=.seq vs.toArray } (.lst (ns.map V.int))) else none) (fun b=>?_) (.inl (.inr ⟨{ cls:=.type "list",data:=.seq vs.toArray },if_pos rfl⟩)) (fun b u z=>?_) (fun b z=>?_) fun _=>hk
  ·by_cases hb:b=a
   ·exact .inr ⟨_,_,if_pos hb⟩
   ·exact .inl (if_neg hb)
  ·by_cases hb:b=a
   ·have z':=(if_pos hb).symm.trans z
    cases z'
    subst hb
    exact⟨ha,by rw[List.length_map];exact hl,vs,_,rv,ha⟩
   ·have z':=(if_neg hb).symm.trans z
    cases z'
  ·by_cases hb:b=a
   ·exact hb
   ·exact absurd (if_neg hb) z
end L2
namespace L2
open PySem PySem.Spec PyProof.Rows
theorem walk_of{l:PySem.W.OpenLaw}{n k:Nat}{q:Program}{loose:List Str}{XP:(Str->Option Value)->Heap->Prop}{YP:World->Heap->Prop}{d:DefRec}{K:Params->PySem.W.Frag}{CX:World->CXT}{sp:World->Sp}{x:Str}
  (hn:l.most=some n) (hn2:n<=sizeLine) (hdf:d.params.defaults=[]) (hr:Room k callerA)
  (hY:∀(w:World) (h:Heap),YP w h->(K w.params).In h)
  (F:∀(w:World) (mg:Str->Option Value) (fa:Addr) (h:Heap),(K w.params).In h->h.Ns mainGlobals mg->mg d.name=some (.ref fa)->
   ∃fd:FuncData,(∀(s:Shared) (u:Value),BindsTo s fd ⟨[u],[]⟩ [(x,u)]) /\
    ∀base:Heap,(K w.params).In base->base.Ns mainGlobals mg->FnOk l.prog w (K w.params) mg base (CX w) k fa fd [x] (sp w))
  (hsp:∀(w:World) (H:Hp) (a:Addr) (ns:List Int),ns.length<=n->Only H->SqL (K w.params) H a (ns.map V.int)->sp w [.ref a] H (fun v _=>v=.bl true) fun _ _ _=>False)
  (hCX:∀(w:World) (H:Hp) (s:Shared) (e:Value) (s':Shared),CX w [] H s (fun _ _ _=>False) e s'->False) :
  PySem.W.WalkO q loose XP YP l.row.toRowW d [] (fun f vs=>PySem.call f vs):=by
 refine Att.attach_call hn hdf fun w s₀ s₁ mg mb fa o pm cd doc a vs ns G Y ho hd hcd hmg hobj hints hlen hg=>?_
 have KX:=hY w _ Y
 obtain⟨fd,hb,hF⟩:=F w mg fa _ KX G.T.g hmg
 exact hh_ KX G.T.g G.T.b G.T.builtins G.T.nolimit hg hobj hints (Nat.le_trans hlen hn2) hr hF hb (fun H hO hS=>hsp w H a ns hlen hO hS) fun H e s'=>hCX w H s₁ e s'
end L2
namespace L2
open PySem PySem.Spec PyProof.Rows
def inClass(s:Stmt)(j:Nat):Stmt:=match s with
 |.ClassDef _ _ _ body _ _ _ _ _ _ _=>body.getD j (.Pass ⟨0,0,0,0⟩)
 |_=>.Pass ⟨0,0,0,0⟩
def defArgs(s:Stmt):Arguments:=match s with
 |.FunctionDef _ a _ _ _ _ _ _ _ _=>a
 |_=>{ posonlyargs:=[],args:=[],vararg:=none,kwonlyargs:=[],kw_defaults:=[],kwarg:=none,defaults:=[] }
def defBody(s:Stmt):List Stmt:=match s with
 |.FunctionDef _ _ b _ _ _ _ _ _ _=>b
 |_=>[]
def defScope(s:Stmt):Scope:=match s with
 |.FunctionDef _ _ _ _ _ _ sc _ _ _=>sc
 |_=>{ kind:=.function,names:=[],isGenerator:=false,isCoroutine:=false }
abbrev CX0:CXT:=fun _ _ _ _ _ _=>False
abbrev E0:XK:=fun _ _ _=>False
theorem pass0{X:Cx}:Passes CX0 X E0:=fun _ _ _ _ _ _ _ h=>h.elim
structure Fun (K:PySem.W.Frag) (x qual:Str) (st:Stmt) (f:Addr) (fd:FuncData):Prop where
 ex:∃(oc:Value) (od:Option Addr) (kV doc pm:Value) (an:Option Addr) (cdv ct:Value) (osl:Array (Option Value)),
  fd=PySem.W.fnOf x qual (defArgs st) (defBody st) (defScope st) .none kV doc pm an cdv ct/\K.lookup f=some ⟨oc,od,.func fd,osl⟩/\PySem.W.codeIn K cdv qual=true
 kp:PySem.W.keepIn K (.ref f)=true
section
variable{P:Program}{w:World}{K:PySem.W.Frag}{mg:Str->Option Value}{base:Heap}
theorem Fun.ok{x qual:Str}{st:Stmt}{f:Addr}{fd:FuncData}{N ps:List Str}{k:Nat}{sp:Sp}(F:Fun K x qual st f fd)(S:FnScope N ps (defScope st))(len:∀vs H Q E,sp vs H Q E->vs.length=ps.length)
  (hbody:∀(cdv:Value) (A:Around) (outer:List Env) (s:Shared) (H:Hp) (vs:List V) (Q:VK) (E:XK),Room k (A.deeper (envOfC qual (defScope st) s.heap.objs.size f cdv))->sp vs H Q E->
   ∃t,PSs (cxOf CX0 P w K mg base N qual (defScope st) f cdv A outer s H E).nox (defBody st) t/\t { nx:=fun _ H'=>Q .non H',rt:=Q } (start N vs) H):FnOk P w K mg base CX0 (k+1) f fd ps sp:=by
 obtain⟨oc,od,kV,doc,pm,an,cdv,ct,osl,rfl,lk,hcd⟩:=F.ex
 refine jE_ lk hcd S len fun A outer s H vs Q E hr hsp=>?_
 obtain⟨t,h,q⟩:=hbody cdv A outer s H vs Q E hr hsp
 exact⟨t,h.nox,q⟩
theorem Fun.binds{x qual:Str}{st:Stmt}{f:Addr}{fd:FuncData}{ps:List Str}(F:Fun K x qual st f fd)
  (h:∀(kV doc pm:Value) (an:Option Addr) (cdv ct:Value) (us:List Value),us.length=ps.length->bindArgs (PySem.W.fnOf x qual (defArgs st) (defBody st) (defScope st) .none kV doc pm an cdv ct) ⟨us,[]⟩=pure (ps.zip us)):Binds K fd ps []:=by
 obtain⟨oc,od,kV,doc,pm,an,cdv,ct,osl,rfl,lk,hcd⟩:=F.ex
 exact .all (h kV doc pm an cdv ct)
theorem gd_{x qual:Str}{st:Stmt}{f:Addr}{oc:Value}{od an:Option Addr}{osl:Array (Option Value)}{kV doc pm cdv ct:Value}(l:K.lookup f=some ⟨oc,od,.func (PySem.W.fnOf x qual (defArgs st) (defBody st) (defScope st) .none kV doc pm an cdv ct),osl⟩)
  (c:PySem.W.codeIn K cdv qual=true) (k:PySem.W.keepIn K (.ref f)=true):Fun K x qual st f (PySem.W.fnOf x qual (defArgs st) (defBody st) (defScope st) .none kV doc pm an cdv ct):=⟨⟨oc,od,kV,doc,pm,an,cdv,ct,osl,rfl,l,c⟩,k⟩
end
theorem b1_{A:Around}{k:Nat}(hr:Room k A):A.units+1<cLine:=Nat.lt_of_le_of_lt (Nat.add_le_add_left (by decide:1<=64) _) hr.units
section
variable{X:Cx}
theorem pv(i:Nat){x:Str}{pos:Pos}(hN:X.N[i]? = some x:=by rfl)(hv:Vis X.env.scope x:=by first|exact Or.inl rfl|exact Or.inr (Or.inl rfl)|exact Or.inr (Or.inr rfl))(hd:(x == ("__debug__":Str))=false:=by decide)
  (hcd:(x == ("__classdict__":Str))=false:=by decide):PE X (.Name x pos) (tVar i):=jL_ hN hv hd hcd
theorem gq_:CallR X (.builtin "len") (fun xs H Q=>∃a kvs,xs=[V.ref a]/\H a=some (.dK kvs)/\Q (.int kvs.length) H):=by
 intro pins s σ H xs us Q I r h
 obtain⟨a,kvs,rfl,ha,q⟩:=h
 obtain⟨u,rfl,ru⟩:=vals1 r
 cases ru
 exact k0_ I (.inl ha) fun t s' I'=>⟨.int kvs.length,H,I',⟨t,rfl⟩,q⟩
end
theorem iteF{A B:Prop}(h:B):if false=true then A else B:=by
 rw[if_neg Bool.false_ne_true]
 exact h
theorem iteT{A B:Prop}(h:A):if true=true then A else B:=by
 rw[if_pos rfl]
 exact h
theorem ite2{c A B:Prop}[Decidable c](h1:c->A)(h2:¬c->B):if c then A else B:=by
 by_cases h:c
 ·rw[if_pos h]
  exact h1 h
 ·rw[if_neg h]
  exact h2 h
theorem iteNS{c A B:Prop}[Decidable c](hc:c)(h:B):if (!decide c)=true then A else B:=by
 rw[decide_eq_true hc]
 exact iteF h
def Same(H H':Hp):Prop:=∀b o,H b=some o->H' b=some o
theorem Same.refl(H:Hp):Same H H:=fun _ _ h=>h
theorem Same.trans{H H1 H2:Hp}(a:Same H H1)(b:Same H1 H2):Same H H2:=fun c o h=>b c o (a c o h)
theorem Same.free{H H':Hp}(e:Same H H'){l:Addr}(h:H' l=Option.none):H l=Option.none:=by
 cases q:H l with
 |none=>rfl
 |some o=>
  rw[e l o q] at h
  cases h
theorem Same.seq{K:PySem.W.Frag}{H H':Hp}{a:Addr}{xs:List V}(e:Same H H')(h:SqL K H a xs):SqL K H' a xs:=by
 rcases h with (h|⟨o,h⟩)|h
 ·exact .inl (.inl (e _ _ h))
 ·exact .inl (.inr ⟨o,e _ _ h⟩)
 ·exact .inr h
section
variable{κ:Type}[DecidableEq κ]
theorem iE_{kvs:List (κ × V)}{k:κ}{v:V}(h:valV kvs k=some v):k∈kvs.map (·.1):=by
 have q:(kvs.any fun kv=>decide (kv.1=k))=true:=by
  rw[bM_,h]
  all_goals rfl
 obtain⟨p,hp,e⟩:=List.any_eq_true.mp q
 exact List.mem_map.mpr ⟨p,hp,of_decide_eq_true e⟩
theorem fX_:∀{l:List κ} {k:κ},l.Nodup->¬k∈l->(l++[k]).Nodup
 |[],k,_,_=>by simp
 |a::r,k,h,hk=>by
  obtain⟨h1,h2⟩:=List.nodup_cons.mp h
  show (a::(r++[k])).Nodup
  refine List.nodup_cons.mpr ⟨fun m=>?_,fX_ h2 fun m=>hk (List.mem_cons.mpr (Or.inr m))⟩
  rcases List.mem_append.mp m with q|q
  ·exact h1 q
  ·exact hk (List.mem_cons.mpr (Or.inl (List.mem_singleton.mp q).symm))
end
end L2
set_option Elab.async false
set_option linter.all false
set_option maxRecDepth 100000
namespace L2
open PySem PySem.Spec PyProof.Rows
def closOf(env:Env):List (Str × NameKind)->List (Str × Addr)->List (Str × Addr)
 |[],cs=>cs
 |(n,k)::r,cs=>closOf env r (if k == .free then (n,(env.cells.lookup n).getD 0)::cs else cs)
theorem bg_{env:Env}(f:Str × NameKind->List (Str × Addr)->Sem (ForInStep (List (Str × Addr))))
  (hf:∀n k cs,f (n,k) cs=if (k == .free)=true then (do let a <- cellOf env n;pure (.yield ((n,a)::cs))) else pure (.yield cs)) :
  ∀(names:List (Str × NameKind)) (cs:List (Str × Addr)),(∀x∈names,x.2=.free->∃c,env.cells.lookup x.1=some c)->forIn names cs f=(pure (closOf env names cs):Sem _)
 |[],cs,_=>by rw[List.forIn_nil];rfl
 |(n,k)::r,cs,h=>by
  rw[List.forIn_cons,hf]
  have hr:∀x∈r,x.2=.free->∃c,env.cells.lookup x.1=some c:=fun x hx=>h x (List.mem_cons_of_mem _ hx)
  unfold closOf
  by_cases hk:(k == NameKind.free)=true
  ·obtain⟨c,hc⟩:=h (n,k) List.mem_cons_self (by simpa using hk)
   have hc:env.cells.lookup n=some c:=hc
   rw[if_pos hk,if_pos hk]
   have e:cellOf env n=pure c:=by unfold cellOf;rw[hc]
   rw[e]
   simp only[pure_bind]
   rw[bg_ f hf r _ hr,hc]
   rfl
  ·rw[if_neg hk,if_neg hk]
   simp only[pure_bind]
   exact bg_ f hf r _ hr
theorem bL_{scope:Scope}{env:Env}(h:∀x∈scope.names,x.2=.free->∃c,env.cells.lookup x.1=some c):closureFor scope env=pure (closOf env scope.names []):=by
 simp only[closureFor]
 rw[bg_ (env:=env) _ (fun n k cs=>by by_cases hk:(k == NameKind.free)=true<;>simp[hk]) scope.names [] h]
 simp only[pure_bind]
theorem d6_{env:Env}:∀{names:List (Str × NameKind)} {cs:List (Str × Addr)} {x:Str} {c:Addr},(x,c)∈closOf env names cs->(x,c)∈cs∨((x,NameKind.free)∈names/\c=(env.cells.lookup x).getD 0)
 |[],cs,x,c,h=>.inl h
 |(n,k)::r,cs,x,c,h=>by
  unfold closOf at h
  rcases d6_ h with h|⟨h,e⟩
  ·by_cases hk:(k == NameKind.free)=true
   ·rw[if_pos hk] at h
    rcases List.mem_cons.mp h with q|q
    ·cases q
     have:k=.free:=by simpa using hk
     subst this
     exact .inr ⟨List.mem_cons_self,rfl⟩
    ·exact .inl q
   ·rw[if_neg hk] at h
    exact .inl h
  ·exact .inr ⟨List.mem_cons_of_mem _ h,e⟩
theorem c0_{env:Env}:∀{names:List (Str × NameKind)} {cs:List (Str × Addr)} {x:Str},(x,NameKind.free)∈names∨(∃c,(x,c)∈cs)->∃c,(x,c)∈closOf env names cs
 |[],cs,x,h=>by
  rcases h with h|h
  ·cases h
  ·exact h
 |(n,k)::r,cs,x,h=>by
  unfold closOf
  refine c0_ ?_
  rcases h with h|⟨c,h⟩
  ·rcases List.mem_cons.mp h with e|h
   ·cases e
    exact .inr ⟨(env.cells.lookup n).getD 0,by rw[if_pos (by decide)];exact List.mem_cons_self⟩
   ·exact .inl h
  ·refine .inr ⟨c,?_⟩
   split
   ·exact List.mem_cons_of_mem _ h
   ·exact h
theorem bh_:∀(names:List (Str × NameKind)) (n:Nat) (acc cl:List (Str × Addr)),cellsFrom n names (acc++cl)=cellsFrom n names acc++cl
 |[],_,_,_=>rfl
 |(x,k)::r,n,acc,cl=>by
  unfold cellsFrom
  split
  ·exact bh_ r (n+1) ((x,n)::acc) cl
  ·exact bh_ r n acc cl
theorem bj_:∀{names:List (Str × NameKind)} {n:Nat} {acc:List (Str × Addr)} {x:Str} {c:Addr},(x,c)∈cellsFrom n names acc->(x,c)∈acc∨(x,NameKind.cell)∈names
 |[],_,_,_,_,h=>.inl h
 |(y,k)::r,n,acc,x,c,h=>by
  unfold cellsFrom at h
  by_cases hk:(k == NameKind.cell)=true
  ·rw[if_pos hk] at h
   rcases bj_ h with h|h
   ·rcases List.mem_cons.mp h with e|h
    ·cases e
     have:k=.cell:=by simpa using hk
     subst this
     exact .inr List.mem_cons_self
    ·exact .inl h
   ·exact .inr (List.mem_cons_of_mem _ h)
  ·rw[if_neg hk] at h
   rcases bj_ h with h|h
   ·exact .inl h
   ·exact .inr (List.mem_cons_of_mem _ h)
theorem bk_{α:Type}:∀{l:List (Str × α)} {x:Str} {c:α},(x,c)∈l->∃c',l.lookup x=some c'
 |(k,v)::r,x,c,h=>by
  rw[List.lookup_cons]
  cases hb:x == k with
  |true=>exact⟨v,rfl⟩
  |false=>
   rcases List.mem_cons.mp h with e|h
   ·cases e
    simp at hb
   ·exact bk_ h
def cpEnv(scope:Scope)(C:Addr)(env:Env):Env:=
 { scope:=relabel scope env,locals:=C,globals:=env.globals,cells:=cellsFrom (C+1) scope.names (closOf env scope.names []),qual:=env.qual,func:=none,code:=env.code,frame:=env.frame,builtins:=env.builtins }
theorem ct_{M:Model}{A:Around}{E:Value->Shared->Prop}{s:Shared}{scope:Scope}{cl:List (Str × Addr)}{env:Env}{Q:Env->Shared->Prop}
  (h:Q { scope:=scope,locals:=s.heap.objs.size,globals:=env.globals,cells:=cellsFrom (s.heap.objs.size+1) scope.names cl,qual:=env.qual,func:=none,code:=env.code,frame:=env.frame,builtins:=env.builtins }
   { s with heap:=pushCells (s.heap.push { cls:=.type "dict",data:=.dict #[] }) scope.names }) :
  wpAny M A (newFunctionEnv scope env.globals cl [] env.qual none .none (some env)) Q E s:=by
 simp only[newFunctionEnv,Option.isSome_some,if_true]
 refine wpAny_bind (wpAny_alloc ?_)
 refine wpAny_bind (wpAny_layCells _ (fun name kind cells=>by cases hkc:kind == NameKind.cell<;>simp[hkc]) _ _ _ _ ?_)
 rw[show ({ s with heap:=s.heap.push { cls:=.type "dict",data:=.dict #[] } }:Shared).heap.objs.size=s.heap.objs.size+1 from Heap.size_push ..]
 rw[List.forIn_nil]
 exact wpAny_bind (wpAny_pure (wpAny_pure h))
def cpCheck(PN:List Str)(ps:Scope)(N:List Str)(own:Nat)(fr:List Nat)(scope:Scope):Bool:=
 decide (scope.kind=.function)&&decide N.Nodup&&decide (own+fr.length=N.length)
 && (scope.names.all fun y=>decide (scope.names.lookup y.1=some y.2))
 && (scope.names.all fun y=>if y.2=.free then decide (ps.names.lookup y.1=some .cell) || decide (ps.names.lookup y.1=some .free) else true)
 && ((fr.map fun j=>PN[j]?) == (N.drop own).map some)
 && ((N.drop own).all fun x=>decide (scope.names.lookup x=some .free))
structure CpOk (PN:List Str) (ps:Scope) (N:List Str) (own:Nat) (fr:List Nat) (scope:Scope):Prop where
 kind:scope.kind=.function
 nd:N.Nodup
 len:own+fr.length=N.length
 look:∀y∈scope.names,scope.names.lookup y.1=some y.2
 par:∀y∈scope.names,y.2=.free->ps.names.lookup y.1=some .cell∨ps.names.lookup y.1=some .free
 frs:(fr.map fun j=>PN[j]?)=(N.drop own).map some
 frk:∀x∈N.drop own,scope.names.lookup x=some .free
theorem CpOk.of{PN:List Str}{ps:Scope}{N:List Str}{own:Nat}{fr:List Nat}{scope:Scope}(h:cpCheck PN ps N own fr scope=true):CpOk PN ps N own fr scope:=by
 unfold cpCheck at h
 simp only[Bool.and_eq_true,decide_eq_true_eq,List.all_eq_true,beq_iff_eq] at h
 obtain⟨⟨⟨⟨⟨⟨h1,h2⟩,h3⟩,h4⟩,h5⟩,h6⟩,h7⟩:=h
 refine⟨h1,h2,h3,h4,fun y hy e=>?_,h6,h7⟩
 have q:=h5 y hy
 rw[if_pos e] at q
 simpa using q
def cpStart(own:Nat)(fr:List Nat)(σ:St):St:=List.replicate own none++fr.map fun j=>(σ[j]?).join
def cxComp(X:Cx)(N:List Str)(scope:Scope)(fp:List Addr)(s:Shared)(H:Hp):Cx where
 prog:=X.prog
 w:=X.w
 K:=X.K
 mg:=X.mg
 base:=X.base
 A:=X.A
 N:=N
 s₀:=s
 H₀:=H
 env:=cpEnv scope s.heap.objs.size X.env
 outer:=X.stack
 stack:=X.stack
 ex:=fp
 fn:=fun x=>decide (scope.names.lookup x=some .local) || decide (scope.names.lookup x=some .cell)
 calm:=X.calm
 pn:=[]
 xe:=fun _ _=>False
theorem cg_{ps:Scope}{env:Env}(he:env.scope=ps){x:Str}:∀{names:List (Str × NameKind)} {k:NameKind},names.lookup x=some k->
  (names.map fun(n,k)=>if (k == NameKind.free&&env.scope.kind == .function&&env.kindOf n == some .cell) then (n,NameKind.cell) else (n,k)).lookup x =
   some (if (k == NameKind.free&&env.scope.kind == .function&&env.kindOf x == some .cell) then .cell else k)
 |(n,k')::r,k,h=>by
  rw[List.lookup_cons] at h
  rw[List.map_cons]
  cases hb:x == n with
  |true=>
   rw[hb] at h
   cases h
   have e:x=n:=by simpa using hb
   subst e
   dsimp only
   split<;>simp[List.lookup_cons]
  |false=>
   rw[hb] at h
   have ih:=cg_ he (env:=env) h
   dsimp only
   split<;>(rw[List.lookup_cons,hb];exact ih)
theorem cc_{env:Env}{x:Str}:∀{names:List (Str × NameKind)} {k:NameKind},(names.map fun(n,k)=>if (k == NameKind.free&&env.scope.kind == .function&&env.kindOf n == some .cell) then (n,NameKind.cell) else (n,k)).lookup x=some k->∃k',names.lookup x=some k'/\(k'=k∨(k'=.free/\k=.cell))
 |(n,k')::r,k,h=>by
  rw[List.map_cons] at h
  rw[List.lookup_cons]
  dsimp only at h
  cases hb:x == n with
  |true=>
   refine⟨k',rfl,?_⟩
   by_cases hc:(k' == NameKind.free&&env.scope.kind == .function&&env.kindOf n == some .cell)=true
   ·rw[if_pos hc,List.lookup_cons,hb] at h
    cases h
    simp only[Bool.and_eq_true,beq_iff_eq] at hc
    exact .inr ⟨hc.1.1,rfl⟩
   ·rw[if_neg hc,List.lookup_cons,hb] at h
    cases h
    exact .inl rfl
  |false=>
   have h':(r.map fun(n,k)=>if (k == NameKind.free&&env.scope.kind == .function&&env.kindOf n == some .cell) then (n,NameKind.cell) else (n,k)).lookup x=some k:=by
    split at h<;>(rw[List.lookup_cons,hb] at h;exact h)
   exact cc_ h'
theorem di_{α:Type}{x:Str}{c:α}:∀{l r:List (Str × α)},(l++r).lookup x=some c->(x,c)∈l∨(x,c)∈r:=fun h=>List.mem_append.mp (PySem.mem_of_lookup h)
section
variable{X:Cx}{pins:List (Addr × Obj)}{σ:St}{H:Hp}{s:Shared}{N:List Str}{own:Nat}{fr:List Nat}{scope:Scope}{fp:List Addr}
theorem closCell(I:Inv X pins σ H s)(S:CpOk X.N X.env.scope N own fr scope){x:Str}{c:Addr}(h:(x,c)∈closOf X.env scope.names []):X.env.cells.lookup x=some c/\(x,NameKind.free)∈scope.names:=by
 rcases d6_ h with h|⟨h,e⟩
 ·cases h
 ·obtain⟨c',hc⟩:=I.ok.has x (S.par _ h rfl)
  refine⟨?_,h⟩
  rw[e,hc]
  rfl
theorem Inv.block(I:Inv X pins σ H s)(S:CpOk X.N X.env.scope N own fr scope)(hfp:∀b∈fp,FpOk X pins H b)(hfo:∀b∈fp,∃o,s.heap.get? b=some o) :
  Inv (cxComp X N scope fp s H) [] (cpStart own fr σ) H { s with heap:=pushCells (s.heap.push { cls:=.type "dict",data:=.dict #[] }) scope.names }:=by
 have kept:∀b o,s.heap.get? b=some o->(pushCells (s.heap.push { cls:=.type "dict",data:=.dict #[] }) scope.names).get? b=some o:=fun b o e=>pushCells_keeps _ _ b o (Heap.get?_push_of_some _ e)
 have cok:=cellsFrom_ok scope.names (s.heap.push { cls:=.type "dict",data:=.dict #[] }) (s.heap.objs.size+1) [] ⟨fun _ _ hm=>(nomatch hm),List.Pairwise.nil⟩ (by rw[Heap.size_push];exact Nat.le_refl _)
 rw[Heap.size_push] at cok
 have ecs:cellsFrom (s.heap.objs.size+1) scope.names (closOf X.env scope.names [])=cellsFrom (s.heap.objs.size+1) scope.names []++closOf X.env scope.names []:=bh_ _ _ [] _
 have lookC:∀{x c},(cellsFrom (s.heap.objs.size+1) scope.names (closOf X.env scope.names [])).lookup x=some c->((x,c)∈cellsFrom (s.heap.objs.size+1) scope.names []/\(x,NameKind.cell)∈scope.names/\s.heap.objs.size+1<=c)∨(X.env.cells.lookup x=some c/\(x,NameKind.free)∈scope.names):=fun {x c} h=>by
  rw[ecs] at h
  rcases di_ h with h|h
  ·refine .inl ⟨h,?_,(cok.empty _ _ h).2⟩
   rcases bj_ h with q|q
   ·cases q
   ·exact q
  ·exact .inr (closCell I S h)
 have oldC:∀{x c},X.env.cells.lookup x=some c->c<s.heap.objs.size:=fun {x c} h=>by
  obtain⟨v,hv⟩:=I.cell x c h
  exact hv.lt
 have hb:∀b∈fp,b<s.heap.objs.size:=fun b hb=>let ⟨o,e⟩:=hfo b hb;Heap.lt_size e
 refine⟨⟨I.ok.mod,S.kind,I.ok.glob,I.ok.blt,Nat.le_refl _,fun x y c h1 h2=>?_,fun x hx=>?_,fun x c hf h=>?_,I.ok.hd,I.ok.frames,.inl rfl,fun b hb'=>⟨Nat.ne_of_lt (hb b hb'),fun x c h=>?_⟩,I.bs,?_,fun b o e hb'=>?_,fun b hb' hs=>?_,I.stack,I.stkFree⟩,
  rfl,I.bare,Un.kept kept,⟨_,(Heap.Ns.new s.heap (.type "dict")).keeps (pushCells_keeps _ _),fun i x v h1 h2 h3=>?_⟩,fun x c h=>?_,I.hok.fresh (Nat.le_refl _),fun x c h=>?_,fun p hp=>absurd (show p∈([]:List (Addr × Obj)) from hp) (by simp),I.hok.kept kept,?_⟩
 ·-- inj
  rcases lookC h1 with⟨m1,k1,l1⟩|⟨m1,k1⟩<;>rcases lookC h2 with⟨m2,k2,l2⟩|⟨m2,k2⟩
  ·exact name_of_addr cok.apart m1 m2
  ·exact absurd (oldC m2) (Nat.not_lt.mpr (Nat.le_of_succ_le l1))
  ·exact absurd (oldC m1) (Nat.not_lt.mpr (Nat.le_of_succ_le l2))
  ·exact I.ok.inj x y c m1 m2
 ·-- has
  have key:(x,NameKind.cell)∈scope.names∨(x,NameKind.free)∈scope.names:=by
   rcases hx with hx|hx
   ·obtain⟨k',e,q⟩:=cc_ (env:=X.env) (show _=some NameKind.cell from hx)
    have m:=PySem.mem_of_lookup e
    rcases q with q|⟨q,_⟩
    ·exact .inl (q▸m)
    ·exact .inr (q▸m)
   ·obtain⟨k',e,q⟩:=cc_ (env:=X.env) (show _=some NameKind.free from hx)
    have m:=PySem.mem_of_lookup e
    rcases q with q|⟨_,q⟩
    ·exact .inr (q▸m)
    ·cases q
  show ∃c,(cellsFrom (s.heap.objs.size+1) scope.names (closOf X.env scope.names [])).lookup x=some c
  have:((cellsFrom (s.heap.objs.size+1) scope.names (closOf X.env scope.names [])).lookup x).isSome=true:=by
   refine PySem.W.cellsFrom_some _ _ _ ?_
   rcases key with q|q
   ·exact .inl (S.look _ q)
   ·obtain⟨c,m⟩:=c0_ (env:=X.env) (names:=scope.names) (cs:=[]) (x:=x) (.inl q)
    obtain⟨c',e⟩:=bk_ m
    exact .inr (by rw[e];rfl)
  exact Option.isSome_iff_exists.mp this
 ·-- cab
  rcases lookC h with⟨_,_,l⟩|⟨_,k⟩
  ·exact Nat.le_of_succ_le l
  ·have e:=S.look _ k
   have hf:(decide (scope.names.lookup x=some .local) || decide (scope.names.lookup x=some .cell))=true:=hf
   rw[show scope.names.lookup x=some .free from e] at hf
   exact absurd hf (by decide)
 ·rcases lookC h with⟨_,_,l⟩|⟨q,_⟩
  ·exact Nat.ne_of_gt (Nat.lt_of_lt_of_le (hb b hb') (Nat.le_of_succ_le l))
  ·exact (hfp b hb').2.2.2.2.1 x c q
 ·exact Nat.le_trans I.ok.bsz I.sz
 ·rcases (hfp b hb').2.2.2.1 with q|q
  ·exact I.ok.noex b o e q
  ·exact absurd (Nat.lt_of_lt_of_le (Heap.lt_size e) I.ok.bsz) (by omega)
 ·rcases List.mem_cons.mp (I.stkSub b hs) with q|q
  ·exact (hfp b hb').2.1 q
  ·exact (hfp b hb').2.2.1 q
 ·-- names
  have hi:own<=i:=by
   refine Nat.le_of_not_lt fun hlt=>?_
   unfold cpStart at h2
   rw[List.getElem?_append_left (by rw[List.length_replicate];exact hlt),List.getElem?_replicate,if_pos hlt] at h2
   cases h2
  have h2':(fr.map fun j=>(σ[j]?).join)[i - own]? = some (some v):=by
   unfold cpStart at h2
   rw[List.getElem?_append_right (by rw[List.length_replicate];exact hi),List.length_replicate] at h2
   exact h2
  have h1:N[i]? = some x:=h1
  have hx:(N.drop own)[i - own]? = some x:=by rw[List.getElem?_drop,show own+(i - own)=i by omega];exact h1
  rw[List.getElem?_map] at h2'
  cases ej:fr[i - own]? with
  |none=>rw[ej] at h2';cases h2'
  |some j=>
   rw[ej] at h2'
   have h2':(σ[j]?).join=some v:=Option.some.inj h2'
   have hσ:σ[j]? = some (some v):=by
    cases q:σ[j]? with
    |none=>rw[q] at h2';cases h2'
    |some o=>rw[q] at h2';exact congrArg some h2'
   have hN:X.N[j]? = some x:=by
    have q:=congrArg (fun l=>l[i - own]?) S.frs
    simp only[List.getElem?_map,ej,hx,Option.map_some] at q
    exact Option.some.inj q
   have kf:=S.frk x (List.mem_of_getElem? hx)
   have mf:=PySem.mem_of_lookup kf
   obtain⟨m,hm,hv⟩:=I.loc
   have pk:=S.par _ mf rfl
   obtain⟨u,ru,lk⟩:=hv j x v hN hσ (pk.elim (fun q=>.inr (.inl q)) fun q=>.inr (.inr q))
   refine⟨u,ru,?_⟩
   have pk':X.env.kindOf x=some .cell∨X.env.kindOf x=some .free:=pk
   rcases lk with⟨k,_⟩|⟨_,c,hc,hcell⟩
   ·rw[k] at pk'
    rcases pk' with q|q<;>cases q
   ·obtain⟨c',m1⟩:=c0_ (env:=X.env) (names:=scope.names) (cs:=[]) (x:=x) (.inl mf)
    have e1:=(closCell I S m1).1
    rw[hc] at e1
    cases e1
    refine .inr ⟨?_,c,?_,hcell.keeps kept⟩
    ·have q:=cg_ (env:=X.env) rfl kf
     show (relabel scope X.env).names.lookup x=some .cell∨(relabel scope X.env).names.lookup x=some .free
     unfold relabel
     rw[q]
     split
     ·exact .inl rfl
     ·exact .inr rfl
    ·obtain⟨c2,e2⟩:=Option.isSome_iff_exists.mp (PySem.W.cellsFrom_some (x:=x) scope.names (s.heap.objs.size+1) (closOf X.env scope.names []) (.inr (by obtain⟨c',e⟩:=bk_ m1;rw[e];rfl)))
     show (cellsFrom (s.heap.objs.size+1) scope.names (closOf X.env scope.names [])).lookup x=some c
     rcases lookC e2 with⟨_,q,_⟩|⟨q,_⟩
     ·have:=S.look _ q
      rw[show scope.names.lookup x=some .free from kf] at this
      cases this
     ·rw[hc] at q
      cases q
      exact e2
 ·-- cells
  rcases lookC h with⟨q,_,_⟩|⟨q,_⟩
  ·exact⟨_,(cok.empty _ _ q).1⟩
  ·obtain⟨v,hv⟩:=I.cell x c q
   exact⟨v,hv.keeps kept⟩
 ·rcases lookC h with⟨q,_,l⟩|⟨q,_⟩
  ·exact I.hok.fresh (by omega)
  ·exact I.freeC x c q
 ·show (cpStart own fr σ).length=N.length
  unfold cpStart
  rw[List.length_append,List.length_replicate,List.length_map]
  exact S.len
end
def PTs(X:Cx)(ifs:List Expr)(t:TT):Prop:=
 ∀(pins:List (Addr × Obj)) (s:Shared) (σ:St) (H:Hp) (Q:Bool->Hp->Prop),Inv X pins σ H s->t σ H Q->
  wpAny (model X.prog X.w) X.A (forIn ifs true fun c r=>if r=true then do let ok <- isTrue c X.env (eval c X.env);pure (ForInStep.yield ok) else pure (ForInStep.yield r)) (TP X pins σ Q) X.xe s
def tYes:TT:=fun _ H Q=>Q true H
theorem yesT{σ:St}{H:Hp}{A B:Hp->Prop}(h:A H):tYes σ H fun b H4=>if b=true then A H4 else B H4:=by
 unfold tYes
 exact iteT h
theorem au_{X:Cx}:PTs X [] tYes:=fun _ _ _ H _ I h=>wpAny_tests_nil ⟨H,I,h⟩
theorem ep_{X:Cx}{c:Expr}{t:TT}(h:PT X c t):PTs X [c] t:=fun pins s σ H Q I q=>wpAny_tests_one (h pins s σ H Q I q)
def CompW(J:It)(g:TG)(tc:TT)(te:TE)(σ0:St)(D:Addr)(H1:Hp)(Q:VK):Prop:=∃W:Nat->Nat->St->Hp->Prop,
 (∃m,W 0 m σ0 (upd H1 D (.lst [])))/\∀i m σ' H',W i m σ' H'->(J.stop i H'/\Q (.ref D) H') ∨
  (J.go i H'/\∃Nx:St->Hp->Prop,(∀σ2 H2,Nx σ2 H2->∃m',m'<m/\W (i+1) m' σ2 H2) /\
   ∀x H2,J.yld i H' x H2->g x σ' H2 fun σ3 H3=>tc σ3 H3 fun b H4=>if b=true then te σ3 H4 fun y H5=>∃out,H5 D=some (.lst out)/\out.length<sizeLine/\Nx σ3 (upd H5 D (.lst (out++[y]))) else Nx σ3 H4)
def tComp(wi:TI)(own:Nat)(fr:List Nat)(g:TG)(tc:TT)(te:TE):TE:=fun σ H Q=>wi σ H fun J H1=>∀D,H1 D=none->CompW J g tc te (cpStart own fr σ) D H1 Q
section
variable{X:Cx}{tg iter elt:Expr}{ifs:List Expr}{scope:Scope}{pos:Pos}{wi:TI}{g:TG}{tc:TT}{te:TE}{N:List Str}
theorem g1_{R:Result->Shared->Prop}{own:Nat}{fr:List Nat}{pins:List (Addr × Obj)}{σ:St}{H1:Hp}{s2:Shared}{it:Addr}{fp:List Addr}{tn:Nat->Heap->Prop}{J:It}{D:Addr}{Q:VK}
  (S:CpOk X.N X.env.scope N own fr scope) (hc:X.calm=true) (hg:∀fp s H,PG (cxComp X N scope fp s H) tg g) (ht:∀fp s H,PTs (cxComp X N scope fp s H) ifs tc) (he:∀fp s H,PE (cxComp X N scope fp s H) elt te)
  (I3:Inv X pins σ (upd H1 D (.lst [])) s2) (T:Turn X.prog X.w X.K tg J fp it tn) (st:tn 0 s2.heap) (f2:∀b∈fp,FpOk X pins (upd H1 D (.lst [])) b)
  (k:CompW J g tc te (cpStart own fr σ) D H1 Q)
  (hR:∀H' s',Inv X pins σ H' s'->(∃m,s'.heap.Ns s2.heap.objs.size m)->H' s2.heap.objs.size=none->Q (.ref D) H'->R (.ok .next) s') :
  codeAny (model X.prog X.w) X.A (.compStart (.ListComp elt [⟨tg,iter,ifs,0⟩] scope pos) 0 (.ref it) (.ref D) (cpEnv scope s2.heap.objs.size X.env)) R
   { s2 with heap:=pushCells (s2.heap.push { cls:=.type "dict",data:=.dict #[] }) scope.names }:=by
 obtain⟨W,⟨m0,w0⟩,turn⟩:=k
 have I4:=I3.block (N:=N) S f2 (fun b hb=>let ⟨o,e,_⟩:=T.obj _ _ st b hb;⟨o,e⟩)
 have kept:∀b o,s2.heap.get? b=some o->(pushCells (s2.heap.push { cls:=.type "dict",data:=.dict #[] }) scope.names).get? b=some o:=fun b o e=>pushCells_keeps _ _ b o (Heap.get?_push_of_some _ e)
 have st4:tn 0 (pushCells (s2.heap.push { cls:=.type "dict",data:=.dict #[] }) scope.names):=T.keep _ _ _ st fun b hb o e=>kept b o e
 have fx:∀{H':Hp},(∀b∈fp,H' b=none)->∀b∈fp,FpOk (cxComp X N scope fp s2 (upd H1 D (.lst []))) [] H' b:=fun hn b hb=>
  ⟨hn b hb,(I4.ok.exf b hb).1,I4.ok.exfs b hb,.inl hb,(I4.ok.exf b hb).2,fun p hp=>absurd (show p∈([]:List (Addr × Obj)) from hp) (by simp)⟩
 have loop:codeAny (model X.prog X.w) X.A (.compLoop (.ListComp elt [⟨tg,iter,ifs,0⟩] scope pos) 0 (.ref it) (.ref D) (cpEnv scope s2.heap.objs.size X.env)) R
   { s2 with heap:=pushCells (s2.heap.push { cls:=.type "dict",data:=.dict #[] }) scope.names }:=by
  refine codeAny_loop rfl (fun n s'=>∃i σ' H',Inv (cxComp X N scope fp s2 (upd H1 D (.lst []))) [] σ' H' s'/\tn i s'.heap/\(∀b∈fp,H' b=none)/\W i n σ' H') (fun n s' hI=>?_) m0 ⟨0,_,_,I4,st4,fun b hb=>(f2 b hb).1,w0⟩
  obtain⟨i,σ',H',I5,st5,fr5,w5⟩:=hI
  show wpAny _ X.A ((compTurn (.ListComp elt [⟨tg,iter,ifs,0⟩] scope pos) 0 (.ref it) (.ref D) (cpEnv scope s2.heap.objs.size X.env)).onRaise (fun x=>do noteFrame x (cpEnv scope s2.heap.objs.size X.env);theTreesLotGoes x)) _ _ s'
  refine wpAny_noted (wpAny_mono (E:=fun _ _=>False) ?_ (fun _ _ q=>q) fun _ _ q=>q.elim)
  rw[compTurn_list]
  refine wpAny_bind (wpAny_standAt (wpAny_bind ?_))
  rcases turn i n σ' H' w5 with⟨stop,q⟩|⟨go,Nx,hN,step⟩
  ·refine thn (T.done (cxComp X N scope fp s2 (upd H1 D (.lst []))) rfl rfl rfl hc i [] s' σ' H' _ I5 (fx fr5) st5 stop) fun r s6 ⟨hr,I6⟩=>?_
   subst hr
   refine wpAny_pure (hR H' s6 (I3.call' I6.os I6.base I6.hok I6.bare fun b hb=>?_) ?_ I6.free q)
   ·exact⟨(f2 b hb).2.2.2.1,(f2 b hb).2.1,(f2 b hb).2.2.2.2.1,(f2 b hb).2.2.2.2.2⟩
   ·obtain⟨m,hm,_⟩:=I6.loc
    exact⟨m,hm⟩
  ·refine thn (T.item (cxComp X N scope fp s2 (upd H1 D (.lst []))) rfl rfl rfl hc i [] s' σ' H' _ I5 (fx fr5) st5 go) fun r s6 ⟨u,hr,h6⟩=>?_
   subst hr
   refine wpAny_bind (thn h6 fun _ s7 ⟨x,H7,I7,r7,y7,st7,fr7⟩=>?_)
   have I7':=I7.pinned (fx fr7) (T.obj _ _ st7)
   have back:∀{σ8:St} {H8:Hp} {s8:Shared},Inv (cxComp X N scope fp s2 (upd H1 D (.lst []))) ([]++pinsAt fp s7.heap) σ8 H8 s8->Nx σ8 H8->∃m,m<n/\∃i σ' H',Inv (cxComp X N scope fp s2 (upd H1 D (.lst []))) [] σ' H' s8/\tn i s8.heap/\(∀b∈fp,H' b=none)/\W i m σ' H':=fun {σ8 H8 s8} I8 n8=>by
    obtain⟨m',hm,w8⟩:=hN σ8 H8 n8
    refine⟨m',hm,i+1,σ8,H8,I8.unpinned,T.keep _ _ _ st7 fun b hb o e=>(I8.pin (b,o) (List.mem_append_right _ (List.mem_append_right _ (bz_ hb e)))).1,fun b hb=>?_,w8⟩
    obtain⟨o,e,d⟩:=T.obj _ _ st7 b hb
    exact (I8.pin (b,o) (List.mem_append_right _ (List.mem_append_right _ (bz_ hb e)))).2.1
   refine wpAny_bind (thn (hg fp s2 (upd H1 D (.lst [])) _ s7 σ' H7 x u _ I7' r7 (step x H7 y7)) fun _ s8 ⟨σ8,H8,I8,q8⟩=>?_)
   refine wpAny_bind (thn (ht fp s2 (upd H1 D (.lst [])) _ s8 σ8 H8 _ I8 q8) fun b s9 ⟨H9,I9,q9⟩=>?_)
   cases b with
   |false=>
    simp only[Bool.false_eq_true,if_false] at q9 ⊢
    exact wpAny_pure ⟨rfl,back I9 q9⟩
   |true=>
    simp only[if_true] at q9 ⊢
    refine wpAny_bind (wpAny_bind (thn (he fp s2 (upd H1 D (.lst [])) _ s9 σ8 H9 _ I9 q9) fun y s10 ⟨yv,H10,I10,r10,out,hD,hz,q10⟩=>?_))
    refine wpAny_bind (thn (bN_ (X:=cxComp X N scope fp s2 (upd H1 D (.lst []))) _ s10 σ8 H10 (.ref D) [yv] (.ref D) [y] (fun _ H'=>Nx σ8 H') I10 rfl (.cons r10 .nil) ⟨D,out,yv,rfl,rfl,hD,hz,q10⟩) fun _ s11 ⟨_,H11,I11,_,q11⟩=>?_)
    exact wpAny_pure (wpAny_pure ⟨rfl,back I11 q11⟩)
 exact codeAny_compStart_list loop (T.self _ 0 _ _ _ st4 loop)
theorem aI_(N:List Str)(own:Nat)(fr:List Nat)(hi:PI X tg iter wi)(hg:∀fp s H,PG (cxComp X N scope fp s H) tg g)(ht:∀fp s H,PTs (cxComp X N scope fp s H) ifs tc)(he:∀fp s H,PE (cxComp X N scope fp s H) elt te)
  (S:cpCheck X.N X.env.scope N own fr scope=true:=by kernel_rfl) (hc:X.calm=true:=by rfl) (hs:∀x,foldedSetIterable iter X.env x=pure x:=by intro _;rfl) :
  PE X (.ListComp elt [⟨tg,iter,ifs,0⟩] scope pos) (tComp wi own fr g tc te):=by
 intro pins s σ H Q I h
 have S':=CpOk.of S
 rw[eval_ListComp]
 have hclos:closureFor scope X.env=pure (closOf X.env scope.names []):=bL_ fun x hx e=>I.ok.has x.1 (S'.par x hx e)
 refine wpAny_comprehension_free (use:=none) rfl hs hclos S'.kind (fun x hx e=>by rw[S'.look x hx,e]) (thn (hi pins s σ H _ I h) fun v s1 h1=>thn h1 fun itv s2 h2=>?_)
 obtain⟨it,fp,tn,J,H1,rfl,I2,T,st2,f2,k⟩:=h2
 refine wpAny_newObj_type (ct_ ?_)
 have hD:H1 s2.heap.objs.size=none:=I2.fresh
 have I3:=I2.lnew (ys:=[]) (its:=[]) (t':=s2.toks) .nil (Nat.zero_le _)
 have kept:∀b o,s2.heap.get? b=some o->(s2.heap.push { cls:=.type "list",data:=.seq ([]:List Value).toArray }).get? b=some o:=fun b o e=>Heap.get?_push_of_some _ e
 refine g1_ (own:=own) (fr:=fr) (Q:=Q) S' hc hg ht he I3 T (T.keep _ _ _ st2 fun b hb o e=>kept b o e) (fun b hb=>?_) (k _ hD) ?_
 ·refine⟨?_,(f2 b hb).2⟩
  obtain⟨o,e,_⟩:=T.obj _ _ st2 b hb
  rw[a7_ (Nat.ne_of_lt (Heap.lt_size e))]
  exact (f2 b hb).1
 ·rintro H' s' I' ⟨m,hm⟩ hn q
  refine⟨m,hm,fun h' hs'=>⟨.ref s2.heap.objs.size,H',?_,rfl,q⟩⟩
  exact I'.turned (t':=s'.toks) (fun b o hb e=>hs'.extBut b o hb e) hn (Nat.ne_of_gt I3.lt) (.inr I3.sz) (fun x c hcx e=>by
   obtain⟨v,hv⟩:=I3.cell x c hcx
   exact absurd hv.lt (by rw[e];exact Nat.lt_irrefl _)) fun p hp e=>by
    have:=(I3.pin p hp).1
    rw[e] at this
    exact absurd (Heap.lt_size this) (Nat.lt_irrefl _)
def tAsgC(i:Nat)(te:TE):TS:=fun D σ H=>te σ H fun x H1=>D.nx (σ.set i (some x)) H1
theorem bp_{i:Nat}{x:Str}{px:Pos}(N:List Str)(own:Nat)(fr:List Nat)(hN:X.N.Nodup)(hi':X.N[i]? = some x)(hx:Loc X.env.scope x)
  (hi:PI X tg iter wi) (hg:∀fp s H,PG (cxComp X N scope fp s H) tg g) (ht:∀fp s H,PTs (cxComp X N scope fp s H) ifs tc) (he:∀fp s H,PE (cxComp X N scope fp s H) elt te) {pos':Pos}
  (S:cpCheck X.N X.env.scope N own fr scope=true:=by kernel_rfl) (hc:X.calm=true:=by rfl) (hs:∀x,foldedSetIterable iter X.env x=pure x:=by intro _;rfl)
  (hf:X.fn x=true∨X.env.scope.names.lookup x=some .local:=by first|exact .inl rfl|exact .inr rfl|assumption)
  (hsw:swapsWith (.ListComp elt [⟨tg,iter,ifs,0⟩] scope pos) (some (.Name x px)) pos'.line X.env=pure true:=by rfl) :
  PS X (.Assign [.Name x px] (.ListComp elt [⟨tg,iter,ifs,0⟩] scope pos) pos') (tAsgC i (tComp wi own fr g tc te)):=by
 intro pins s σ H E I h
 have S':=CpOk.of S
 rw[exec_Assign_Name_used _ _ _ _ hsw]
 refine wpAny_bind (wpAny_standAt (wpAny_bind ?_))
 show wpAny _ X.A (do let _ <- comprehension (.ListComp elt [⟨tg,iter,ifs,0⟩] scope pos) scope X.env _ (newList []) false (eval iter X.env) (some (assign (.Name x px) X.env))) _ _ s
 have hclos:closureFor scope X.env=pure (closOf X.env scope.names []):=bL_ fun x hx e=>I.ok.has x.1 (S'.par x hx e)
 refine wpAny_bind (wpAny_mono (wpAny_comprehension_free (use:=some (assign (.Name x px) X.env)) (Q:=fun _ s'=>SP X pins E .next s') rfl hs hclos S'.kind (fun x hx e=>by rw[S'.look x hx,e]) (thn (hi pins s σ H _ I h) fun v s1 h1=>thn h1 fun itv s2 h2=>?_))
  (fun _ s' hq=>wpAny_pure (wpAny_pure hq)) fun _ _ e=>e)
 obtain⟨it,fp,tn,J,H1,rfl,I2,T,st2,f2,k⟩:=h2
 refine wpAny_newObj_type (ct_ ?_)
 have hD:H1 s2.heap.objs.size=none:=I2.fresh
 have I3:=I2.lnew (ys:=[]) (its:=[]) (t':=s2.toks) .nil (Nat.zero_le _)
 have kept:∀b o,s2.heap.get? b=some o->(s2.heap.push { cls:=.type "list",data:=.seq ([]:List Value).toArray }).get? b=some o:=fun b o e=>Heap.get?_push_of_some _ e
 refine g1_ (own:=own) (fr:=fr) (Q:=fun x H1=>E.nx (σ.set i (some x)) H1) S' hc hg ht he I3 T (T.keep _ _ _ st2 fun b hb o e=>kept b o e) (fun b hb=>?_) (k _ hD) ?_
 ·refine⟨?_,(f2 b hb).2⟩
  obtain⟨o,e,_⟩:=T.obj _ _ st2 b hb
  rw[a7_ (Nat.ne_of_lt (Heap.lt_size e))]
  exact (f2 b hb).1
 ·rintro H' s' I' ⟨m,hm⟩ hn q
  have cne:∀y c,X.env.cells.lookup y=some c->c≠(s2.heap.push { cls:=.type "list",data:=.seq ([]:List Value).toArray }).objs.size:=fun y c hcx e=>by
   obtain⟨v,hv⟩:=I3.cell y c hcx
   exact absurd hv.lt (by rw[e];exact Nat.lt_irrefl _)
  show wpAny _ X.A (assign (.Name x px) X.env (.ref s2.heap.objs.size)) _ _ s'
  refine wpAny_assign_Name (dO_ (v:=V.ref s2.heap.objs.size) I' hN hi' hx rfl (fun s'' I'' ⟨a,hs2,ha⟩=>?_) hf)
  have hCa:(s2.heap.push { cls:=.type "list",data:=.seq ([]:List Value).toArray }).objs.size≠a:=by
   rcases ha with e|e
   ·rw[e]
    exact Nat.ne_of_gt I3.lt
   ·exact (cne x a e).symm
  refine⟨m,hm.sameBut hs2 hCa,fun h' hs'=>⟨_,H',?_,q⟩⟩
  exact I''.turned (t':=s''.toks) (fun b o hb e=>hs'.extBut b o hb e) hn (Nat.ne_of_gt I3.lt) (.inr I3.sz) cne fun p hp e=>by
    have:=(I3.pin p hp).1
    rw[e] at this
    exact absurd (Heap.lt_size this) (Nat.lt_irrefl _)
end
def GOk(g:TG)(own:Nat)(fv:List (Option V))(dec:V->Hp->List (Option V)->Prop):Prop:=
 ∀(x:V) (o:List (Option V)) (H:Hp) (k:St->Hp->Prop) (o3:List (Option V)),o.length=own->dec x H o3->k (o3++fv) H->g x (o++fv) H k
theorem gok1{fv:List (Option V)}:GOk (gName 0) 1 fv (fun x _ o3=>o3=[some x]):=fun x o H k o3 hl e h=>by
 subst e
 match o,hl with
 |[a],_=>exact h
def dec2(K:PySem.W.Frag):V->Hp->List (Option V)->Prop:=fun x H o3=>∃p u v,x=.ref p/\SqT K H p [u,v]/\o3=[some u,some v]
def dec3(K:PySem.W.Frag):V->Hp->List (Option V)->Prop:=fun x H o3=>∃p u v w,x=.ref p/\SqT K H p [u,v,w]/\o3=[some u,some v,some w]
theorem gok2{K:PySem.W.Frag}{fv:List (Option V)}:GOk (gTup K 2 (gCons (gName 0) (gCons (gName 1) gNil))) 2 fv (dec2 K):=fun x o H k o3 hl e h=>by
 obtain⟨p,u,v,rfl,hp,rfl⟩:=e
 match o,hl with
 |[a,b],_=>exact⟨p,[u,v],rfl,hp,rfl,u,[v],rfl,v,[],rfl,rfl,h⟩
theorem gok3{K:PySem.W.Frag}{fv:List (Option V)}:GOk (gTup K 3 (gCons (gName 0) (gCons (gName 1) (gCons (gName 2) gNil)))) 3 fv (dec3 K):=fun x o H k o3 hl e h=>by
 obtain⟨p,u,v,w,rfl,hp,rfl⟩:=e
 match o,hl with
 |[a,b,c],_=>exact⟨p,[u,v,w],rfl,hp,rfl,u,[v,w],rfl,v,[w],rfl,w,[],rfl,rfl,h⟩
theorem cz_{J:It}{g:TG}{tc:TT}{te:TE}{own:Nat}{fv:List (Option V)}{dec:V->Hp->List (Option V)->Prop}{D:Addr}{H:Hp}{Q:VK}{σ0:St}(hσ:σ0=List.replicate own none++fv)(G:GOk g own fv dec)(n:Nat)(Pv:Nat->List V->Hp->Prop)
  (h0:Pv 0 [] (upd H D (.lst []))) (hstop:∀out H',Pv n out H'->J.stop n H'/\Q (.ref D) H')
  (hgo:∀i out H',i<n->Pv i out H'->J.go i H'/\∀x H2,J.yld i H' x H2->∃o3,dec x H2 o3/\o3.length=own/\∀Nx:Hp->Prop,(∀out' H2,Pv (i+1) out' H2->Nx H2)->
   tc (o3++fv) H2 fun b H4=>if b=true then te (o3++fv) H4 fun y H5=>∃out2,H5 D=some (.lst out2)/\out2.length<sizeLine/\Nx (upd H5 D (.lst (out2++[y]))) else Nx H4) :
  CompW J g tc te σ0 D H Q:=by
 subst hσ
 refine⟨fun i m σ' H'=>m=n - i/\i<=n/\(∃o:List (Option V),σ'=o++fv/\o.length=own)/\∃out,Pv i out H',⟨n,by simp,Nat.zero_le _,⟨_,rfl,List.length_replicate⟩,_,h0⟩,?_⟩
 rintro i m σ' H' ⟨rfl,hi,⟨o,rfl,ho⟩,out,p⟩
 by_cases hlt:i<n
 ·obtain⟨go,k⟩:=hgo i out H' hlt p
  refine .inr ⟨go,fun σ2 H2=>(∃o:List (Option V),σ2=o++fv/\o.length=own)/\∃out,Pv (i+1) out H2,fun σ2 H2 q=>⟨n - (i+1),by omega,rfl,hlt,q⟩,fun x H2 y=>?_⟩
  obtain⟨o3,d,l3,q⟩:=k x H2 y
  exact G x o H2 _ o3 ho d (q (fun H2=>(∃o:List (Option V),o3++fv=o++fv/\o.length=own)/\∃out,Pv (i+1) out H2) fun out' H2 z=>⟨⟨o3,rfl,l3⟩,out',z⟩)
 ·have e:i=n:=by omega
  subst e
  exact .inl (hstop out H' p)
theorem aq_{K:PySem.W.Frag}{a:Addr}{xs:List V}{g:TG}{tc:TT}{te:TE}{own:Nat}{fv:List (Option V)}{dec:V->Hp->List (Option V)->Prop}{D:Addr}{H:Hp}{Q:VK}{σ0:St}(hσ:σ0=List.replicate own none++fv)(G:GOk g own fv dec)(Pv:Nat->List V->Hp->Prop)
  (h0:Pv 0 [] (upd H D (.lst []))) (hl:∀i out H',i<=xs.length->Pv i out H'->SqL K H' a xs) (hd:∀out H',Pv xs.length out H'->Q (.ref D) H')
  (hgo:∀i x out H',xs[i]? = some x->Pv i out H'->∃o3,dec x H' o3/\o3.length=own/\∀Nx:Hp->Prop,(∀out' H2,Pv (i+1) out' H2->Nx H2)->
   tc (o3++fv) H' fun b H4=>if b=true then te (o3++fv) H4 fun y H5=>∃out2,H5 D=some (.lst out2)/\out2.length<sizeLine/\Nx (upd H5 D (.lst (out2++[y]))) else Nx H4) :
  CompW (Itl K a) g tc te σ0 D H Q:=by
 refine cz_ hσ G xs.length Pv h0 (fun out H' p=>⟨⟨xs,hl _ _ _ (Nat.le_refl _) p,Nat.le_refl _⟩,hd out H' p⟩) fun i out H' hi p=>?_
 have q:=hl i out H' (Nat.le_of_lt hi) p
 refine⟨⟨xs,xs[i],q,by simp[hi]⟩,fun x H2 y=>?_⟩
 obtain⟨e,y⟩:=y
 subst e
 exact hgo i x out _ (y xs q) p
end L2
set_option Elab.async false
set_option linter.all false
set_option maxRecDepth 100000
namespace EvS
open PySem PySem.W PyProof.Rows
def Ok{α:Type}(f:Nat->Nat->Bool)(n:Nat):KasT α->(α->Prop)->Prop
 |.ret a,Q=>Q a
 |.ask i j k,Q=>i<n/\j<n/\Ok f n (k (f i j)) Q
theorem Ok.bind{α β:Type}{f:Nat->Nat->Bool}{n:Nat}{g:α->KasT β}{Q:β->Prop}:∀{t:KasT α} {R:α->Prop},Ok f n t R->(∀a,R a->Ok f n (g a) Q)->Ok f n (t.bind g) Q
 |.ret a,R,h,k=>k a h
 |.ask i j t,R,h,k=>⟨h.1,h.2.1,Ok.bind h.2.2 k⟩
theorem Ok.imp{α:Type}{f:Nat->Nat->Bool}{n:Nat}{Q R:α->Prop}(k:∀a,Q a->R a):∀{t:KasT α},Ok f n t Q->Ok f n t R
 |.ret a,h=>k a h
 |.ask i j t,h=>⟨h.1,h.2.1,Ok.imp k h.2.2⟩
theorem Ok.wp{α:Type}{f:Nat->Nat->Bool}{n:Nat}{cmp:Nat->Nat->(Bool->Shared->Prop)->Shared->Prop}{s:Shared}(hc:∀i j C,i<n->j<n->C (f i j) s->cmp i j C s){Q:α->Prop}{G:α->Shared->Prop}(k:∀a,Q a->G a s) :
  ∀{t:KasT α},Ok f n t Q->t.kasWp cmp G s
 |.ret a,h=>k a h
 |.ask i j t,h=>hc i j _ h.1 h.2.1 (Ok.wp hc k h.2.2)
structure Ord (f:Nat->Nat->Bool):Prop where
 rfl':∀i,f i i=false
 trans:∀{i j k},f j i=false->f k j=false->f k i=false
 tot:∀{i j},f i j=true->f j i=false
section
variable{f:Nat->Nat->Bool}(O:Ord f){N:Nat}
abbrev at'(p:Array Nat)(i:Nat):Nat:=p.getD i 0
def Up(f:Nat->Nat->Bool)(p:Array Nat)(k:Nat):Prop:=∀i j,i<=j->j<k->f (at' p j) (at' p i)=false
def Down(f:Nat->Nat->Bool)(p:Array Nat)(k:Nat):Prop:=∀i j,i<=j->j<k->f (at' p i) (at' p j)=false
def Like(f:Nat->Nat->Bool)(p:Array Nat)(lo k:Nat):Prop:=∀i,lo<=i->i<k->f (at' p i) (at' p (k - 1))=false/\f (at' p (k - 1)) (at' p i)=false
def Good(N:Nat)(p:Array Nat):Prop:=p.Perm (List.range N).toArray
theorem Good.size{p:Array Nat}(h:Good N p):p.size=N:=by
 have:=h.size_eq
 simpa using this
theorem Good.lt{p:Array Nat}(h:Good N p)(hN:0<N)(i:Nat):at' p i<N:=by
 unfold at'
 by_cases hi:i<p.size
 ·have e:p.getD i 0=p[i]:=by simp[Array.getD,hi]
  rw[e]
  have m:p[i]∈(List.range N).toArray:=h.mem_iff.mp (Array.getElem_mem hi)
  simpa using m
 ·have e:p.getD i 0=0:=by simp[Array.getD,hi]
  rw[e]
  exact hN
theorem Good.rev{p:Array Nat}(h:Good N p)(i j:Nat):Good N (kas_rev p i j):=(mirror_perm _ _ _ _).trans h
theorem Good.bub{p:Array Nat}(h:Good N p)(i j:Nat):Good N (bubble p i j):=(bubble_perm _ _ _).trans h
theorem cC_{p q:Array Nat}{i j:Nat}(h:p[i]? = q[j]?):at' p i=at' q j:=by
 unfold at'
 rw[Array.getD_eq_getD_getElem?,Array.getD_eq_getD_getElem?,h]
theorem cv_{p:Array Nat}{i j:Nat}(hj:j<=p.size)(k:Nat):at' (kas_rev p i j) k=if i<=k/\k<j then at' p (i+j - 1 - k) else at' p k:=by
 have e:=getElem?_mirror_all (i:=i) hj k
 unfold kas_rev
 split
 ·rename_i c
  rw[if_pos c] at e
  exact cC_ e
 ·rename_i c
  rw[if_neg c] at e
  exact cC_ e
theorem ik_{p:Array Nat}{k l:Nat}(hk:k<p.size)(hl:l<=k)(i:Nat):at' (bubble p k (k - l)) i=if i=l then at' p k else if l<i/\i<=k then at' p (i - 1) else at' p i:=by
 have e:=getElem?_bubble hk (k - l) (by omega) i
 rw[show k - (k - l)=l by omega] at e
 by_cases c:i=l
 ·rw[if_pos c] at e ⊢
  exact cC_ e
 ·rw[if_neg c] at e ⊢
  split
  ·rename_i d
   rw[if_pos d] at e
   exact cC_ e
  ·rename_i d
   rw[if_neg d] at e
   exact cC_ e
include O
theorem Up.more{p:Array Nat}{n:Nat}(h:Up f p n)(h1:1<=n)(c:f (at' p n) (at' p (n - 1))=false):Up f p (n+1):=fun i j hij hj=>by
 by_cases e:j<n
 ·exact h i j hij e
 ·have e:j=n:=by omega
  subst e
  by_cases e2:i=j
  ·subst e2
   exact O.rfl' _
  ·exact O.trans (h i (j - 1) (by omega) (by omega)) c
theorem Down.more{p:Array Nat}{n:Nat}(h:Down f p n)(h1:1<=n)(c:f (at' p (n - 1)) (at' p n)=false):Down f p (n+1):=fun i j hij hj=>by
 by_cases e:j<n
 ·exact h i j hij e
 ·have e:j=n:=by omega
  subst e
  by_cases e2:i=j
  ·subst e2
   exact O.rfl' _
  ·exact O.trans c (h i (j - 1) (by omega) (by omega))
theorem gi_{p:Array Nat}(g:Good N p)(hN:0<N):∀(m n:Nat),1<=n->Up f p n->Ok f N (kas_asc p m n) fun r=>n<=r/\r<=n+m/\Up f p r/\(r<n+m->f (at' p r) (at' p (r - 1))=true)
 |0,n,_,h=>⟨Nat.le_refl _,Nat.le_refl _,h,fun q=>absurd q (by omega)⟩
 |m+1,n,h1,h=>by
  refine⟨g.lt hN _,g.lt hN _,?_⟩
  dsimp only
  by_cases c:f (at' p n) (at' p (n - 1))=true
  ·rw[if_pos c]
   exact⟨Nat.le_refl _,by omega,h,fun _=>c⟩
  ·rw[if_neg c]
   refine (gi_ g hN m (n+1) (by omega) (h.more O h1 (by simpa using c))).imp fun r ⟨a,b,u,z⟩=>⟨by omega,by omega,u,fun q=>z (by omega)⟩
theorem Like.rev{p:Array Nat}{lo k:Nat}(h:Like f p lo k)(hk:k<=p.size)(i:Nat):f (at' (kas_rev p lo k) i) (at' p i)=false/\f (at' p i) (at' (kas_rev p lo k) i)=false:=by
 rw[cv_ hk]
 split
 ·rename_i c
  obtain⟨a1,a2⟩:=h i c.1 c.2
  obtain⟨b1,b2⟩:=h (lo+k - 1 - i) (by omega) (by omega)
  exact⟨O.trans a2 b1,O.trans b2 a1⟩
 ·exact⟨O.rfl' _,O.rfl' _⟩
theorem Down.rev{p:Array Nat}{lo k n:Nat}(h:Down f p n)(l:Like f p lo k)(hk:k<=p.size):Down f (kas_rev p lo k) n:=fun i j hij hj=>by
 obtain⟨a1,_⟩:=l.rev O hk i
 obtain⟨_,b2⟩:=l.rev O hk j
 exact O.trans (O.trans b2 (h i j hij hj)) a1
theorem dj_(hN:0<N):∀(m:Nat) (p:Array Nat) (n q:Nat),Good N p->1<=n->q+1<=n->n+m<=N->Down f p n->Like f p (n - (q+1)) n->
  Ok f N (kas_desc m p n q) fun r=>Good N r.1/\n<=r.2.1/\r.2.1<=n+m/\Down f r.1 r.2.1/\r.2.2+1<=r.2.1/\Like f r.1 (r.2.1 - (r.2.2+1)) r.2.1
 |0,p,n,q,g,h1,hq,hn,d,l=>⟨g,Nat.le_refl _,Nat.le_refl _,d,hq,l⟩
 |m+1,p,n,q,g,h1,hq,hn,d,l=>by
  refine⟨g.lt hN _,g.lt hN _,?_⟩
  dsimp only
  by_cases c:f (at' p n) (at' p (n - 1))=true
  ·rw[if_pos c]
   have d2:Down f p (n+1):=d.more O h1 (O.tot c)
   have one:∀p':Array Nat,Like f p' (n+1 - (0+1)) (n+1):=fun p' i h2 h3=>by
    have e:i=n+1 - 1:=by omega
    subst e
    exact⟨O.rfl' _,O.rfl' _⟩
   by_cases hq0:q > 0
   ·rw[if_pos hq0]
    have hk:n<=p.size:=by rw[g.size];omega
    exact (dj_ hN m _ (n+1) 0 (g.rev _ _) (by omega) (by omega) (by omega) (d2.rev O l hk) (one _)).imp fun r ⟨a,b,b2,z⟩=>⟨a,by omega,by omega,z⟩
   ·rw[if_neg hq0]
    exact (dj_ hN m _ (n+1) 0 g (by omega) (by omega) (by omega) d2 (one _)).imp fun r ⟨a,b,b2,z⟩=>⟨a,by omega,by omega,z⟩
  ·rw[if_neg c]
   refine⟨g.lt hN _,g.lt hN _,?_⟩
   dsimp only
   have c:f (at' p n) (at' p (n - 1))=false:=by simpa using c
   by_cases e:f (at' p (n - 1)) (at' p n)=true
   ·rw[if_pos e]
    exact⟨g,Nat.le_refl _,by show n<=n+(m+1);omega,d,hq,l⟩
   ·rw[if_neg e]
    have e:f (at' p (n - 1)) (at' p n)=false:=by simpa using e
    refine (dj_ hN m p (n+1) (q+1) g (by omega) (by omega) (by omega) (d.more O h1 e) fun i h2 h3=>?_).imp fun r ⟨a,b,b2,z⟩=>⟨a,by omega,by omega,z⟩
    show f (at' p i) (at' p n)=false/\f (at' p n) (at' p i)=false
    by_cases ei:i=n
    ·subst ei
     exact⟨O.rfl' _,O.rfl' _⟩
    ·obtain⟨a1,a2⟩:=l i (by omega) (by omega)
     exact⟨O.trans e a1,O.trans a2 c⟩
def Counted(f:Nat->Nat->Bool)(N nrem:Nat)(r:Nat × Array Nat):Prop:=Good N r.2/\1<=r.1/\r.1<=nrem/\Up f r.2 r.1
theorem h8_(hN:0<N){p:Array Nat}{n nrem:Nat}(g:Good N p)(h1:1<=n)(hn:n<=nrem)(hr:nrem<=N)(d:Down f p n):Ok f N (kas_tail3 n nrem p) (Counted f N nrem):=by
 unfold kas_tail3
 have u:Up f (kas_rev p 0 n) n:=fun i j hij hj=>by
  rw[cv_ (by rw[g.size];omega),cv_ (by rw[g.size];omega),if_pos (by omega),if_pos (by omega)]
  exact d _ _ (by omega) (by omega)
 exact (gi_ O (g.rev _ _) hN (nrem - n) n h1 u).bind fun m ⟨a,b,u,_⟩=>⟨g.rev _ _,by show 1<=m;omega,by show m<=nrem;omega,u⟩
theorem cT_(hN:0<N){p:Array Nat}{n nrem:Nat}(g:Good N p)(hn:n+1<=nrem)(hr:nrem<=N)(d:Down f p (n+1)):Ok f N (kas_descPart n nrem p) (Counted f N nrem):=by
 unfold kas_descPart
 refine (dj_ O hN (nrem - (n+1)) p (n+1) 0 g (by omega) (by omega) (by omega) d fun i h2 h3=>?_).bind fun r ⟨g',a,b,d',hq,l⟩=>?_
 ·have e:i=n+1 - 1:=by omega
  subst e
  exact⟨O.rfl' _,O.rfl' _⟩
 ·split
  ·exact h8_ O hN (g'.rev _ _) (by omega) (by omega) hr (d'.rev O l (by rw[g'.size];omega))
  ·exact h8_ O hN g' (by omega) (by omega) hr d'
theorem hz_(hN:0<N){p:Array Nat}{nrem:Nat}(g:Good N p)(h1:1<=nrem)(hr:nrem<=N):Ok f N (kas_count nrem p) (Counted f N nrem):=by
 unfold kas_count
 refine (gi_ O g hN (nrem - 1) 1 (Nat.le_refl _) fun i j hij hj=>?_).bind fun n ⟨a,b,u,st⟩=>?_
 ·have e:i=j:=by omega
  subst e
  exact O.rfl' _
 ·by_cases e:(n == nrem)=true
  ·rw[if_pos e]
   exact⟨g,a,by show n<=nrem;omega,u⟩
  ·rw[if_neg e]
   have e:n≠nrem:=by simpa using e
   have c:=st (by omega)
   by_cases h2:n > 1
   ·rw[if_pos h2]
    refine⟨g.lt hN _,g.lt hN _,?_⟩
    dsimp only
    by_cases c2:f (at' p 0) (at' p (n - 1))=true
    ·rw[if_pos c2]
     exact⟨g,a,by show n<=nrem;omega,u⟩
    ·rw[if_neg c2]
     have c2:f (at' p 0) (at' p (n - 1))=false:=by simpa using c2
     refine cT_ O hN (g.rev _ _) (by omega) hr fun i j hij hj=>?_
     by_cases ej:j<n
     ·rw[cv_ (by rw[g.size];omega),cv_ (by rw[g.size];omega),if_pos (by omega),if_pos (by omega)]
      exact u _ _ (by omega) (by omega)
     ·have ej:j=n:=by omega
      subst ej
      by_cases ei:i=j
      ·subst ei
       exact O.rfl' _
      ·rw[cv_ (by rw[g.size];omega),cv_ (by rw[g.size];omega),if_pos (by omega),if_neg (by omega)]
       exact O.trans (O.trans (O.tot c) c2) (u 0 _ (by omega) (by omega))
   ·rw[if_neg h2]
    have e1:n=1:=by omega
    subst e1
    refine cT_ O hN g (by omega) hr fun i j hij hj=>?_
    by_cases ei:i=j
    ·subst ei
     exact O.rfl' _
    ·have q1:i=0:=by omega
     have q2:j=1:=by omega
     subst q1
     subst q2
     exact O.tot c
theorem dp_(hN:0<N){p:Array Nat}{k:Nat}(g:Good N p)(u:Up f p k):∀(m l r:Nat),r - l<=m->l<=r->r<=k->(∀i,i<l->f (at' p k) (at' p i)=false)->(∀i,r<=i->i<k->f (at' p k) (at' p i)=true)->
  Ok f N (kas_place p k m l r) fun x=>x<=k/\(∀i,i<x->f (at' p k) (at' p i)=false)/\∀i,x<=i->i<k->f (at' p k) (at' p i)=true
 |0,l,r,hm,hl,hr,h1,h2=>by
  have e:l=r:=by omega
  subst e
  exact⟨hr,h1,h2⟩
 |m+1,l,r,hm,hl,hr,h1,h2=>by
  unfold kas_place
  by_cases e:l ≥ r
  ·rw[if_pos e]
   have e:l=r:=by omega
   subst e
   exact⟨hr,h1,h2⟩
  ·rw[if_neg e]
   refine⟨g.lt hN _,g.lt hN _,?_⟩
   dsimp only
   by_cases c:f (at' p k) (at' p ((l+r) / 2))=true
   ·rw[if_pos c]
    refine dp_ hN g u m l _ (by omega) (by omega) (by omega) h1 fun i h3 h4=>?_
    by_cases ei:f (at' p k) (at' p i)=true
    ·exact ei
    ·have ei:f (at' p k) (at' p i)=false:=by simpa using ei
     have:=O.trans (u _ i h3 h4) ei
     rw[c] at this
     cases this
   ·rw[if_neg c]
    have c:f (at' p k) (at' p ((l+r) / 2))=false:=by simpa using c
    exact dp_ hN g u m _ r (by omega) (by omega) hr (fun i h3=>O.trans (u i _ (by omega) (by omega)) c) h2
theorem im_(hN:0<N):∀(m:Nat) (p:Array Nat) (k:Nat),Good N p->k+m=N->Up f p k->Ok f N (kas_bin m p k) fun r=>Good N r/\Up f r N
 |0,p,k,g,e,u=>by
  have e:k=N:=by omega
  subst e
  exact⟨g,u⟩
 |m+1,p,k,g,e,u=>by
  unfold kas_bin
  refine (dp_ O hN g u k 0 k (by omega) (by omega) (Nat.le_refl _) (fun i h=>absurd h (by omega)) fun i h1 h2=>absurd h2 (by omega)).bind fun l ⟨hl,h1,h2⟩=>?_
  have hk:k<p.size:=by rw[g.size];omega
  refine im_ hN m _ (k+1) (g.bub _ _) (by omega) fun i j hij hj=>?_
  rw[ik_ hk hl,ik_ hk hl]
  by_cases ej:j=l
  ·rw[if_pos ej]
   by_cases ei:i=l
   ·rw[if_pos ei]
    exact O.rfl' _
   ·rw[if_neg ei,if_neg (by omega)]
    exact h1 i (by omega)
  ·rw[if_neg ej]
   by_cases ej2:l<j/\j<=k
   ·rw[if_pos ej2]
    by_cases ei:i=l
    ·rw[if_pos ei]
     exact O.tot (h2 (j - 1) (by omega) (by omega))
    ·rw[if_neg ei]
     by_cases ei2:l<i/\i<=k
     ·rw[if_pos ei2]
      exact u _ _ (by omega) (by omega)
     ·rw[if_neg ei2]
      exact u _ _ (by omega) (by omega)
   ·rw[if_neg ej2]
    rw[if_neg (show ¬i=l by omega),if_neg (show ¬(l<i/\i<=k) by omega)]
    exact u _ _ (by omega) (by omega)
theorem iF_(hN:0<N):Ok f N (kas_sort N) fun p=>Good N p/\Up f p N:=by
 unfold kas_sort
 refine (hz_ O hN (p:=(List.range N).toArray) (Array.Perm.refl _) hN (Nat.le_refl _)).bind fun r ⟨g,h1,h2,u⟩=>?_
 split
 ·rename_i c
  rw[show max r.1 1=r.1 by omega]
  exact im_ O hN _ _ _ g (by omega) u
 ·rename_i c
  have e:r.1=N:=by omega
  exact⟨g,e▸u⟩
end
end EvS
set_option Elab.async false
set_option linter.all false
set_option maxRecDepth 100000
namespace EvS
open PySem PySem.W PyProof.Rows
section
variable{prog:Program}{w:World}{A:Around}{E:Value->Shared->Prop}{s:Shared}
def Asks(prog:Program)(w:World)(A:Around)(f:Nat->Nat->Bool)(vs:List Value)(s:Shared):Prop:=
 ∃κ,(∀Q:SortKind->Shared->Prop,Q κ s->wpAny (model prog w) A (keyKind' vs.toArray) Q (fun _ _=>False) s)/\∀i j C,i<vs.length->j<vs.length->C (f i j) s->kas_ask prog w A κ vs i j C s
def KeptBut(a:Addr)(h h':Heap):Prop:=∀b o,b≠a->h.get? b=some o->h'.get? b=some o
def putBy(p:Array Nat)(vs:List Value):List Value:=p.toList.map fun i=>vs.getD i Value.none
theorem eo_(vs:List Value):putBy (List.range vs.length).toArray vs=vs:=by
 unfold putBy
 apply List.ext_getElem?
 intro i
 simp only[List.getElem?_map]
 by_cases h:i<vs.length
 ·simp[h]
 ·simp[Nat.le_of_not_lt h]
theorem i4_{a:Addr}{vs:List Value}{n:Nat}{f:Nat->Nat->Bool}{P:Fin->Shared->Prop}(O:Ord f)(ho:s.heap.get? a=some (seqObj "list" vs.toArray n))(h64:vs.length<64)
  (hask:2<=vs.length->∀h',KeptBut a s.heap h'->Asks prog w A f vs { s with heap:=h' })
  (h:∀(p:Array Nat) (h':Heap) (e:Nat),Good vs.length p->Up f p vs.length->h'.get? a=some (seqObj "list" (putBy p vs).toArray e)->KeptBut a s.heap h'->P (.done (.ret .none)) { s with heap:=h' }) :
  wpAny (model prog w) A (Builtin.«list.sort» ⟨[.ref a],[]⟩) P E s:=by
 have haz:a<s.heap.objs.size:=Heap.lt_size ho
 obtain⟨e1,ho1⟩:∃e1,(s.heap.update a (Obj.mapSeq fun _=>(#[]:Array Value))).get? a=some (seqObj "list" #[] e1):=⟨_,get?_update_seq ho (fun _=>#[])⟩
 have l64:vs.length<=sizeLine:=by
  have:=sizeLine_eq
  omega
 rw[list_sort_plain]
 refine wpAny_bind (listItems_at ho rfl (wpAny_bind (listUpdate_at ho rfl (wpAny_bind (seqEpoch_at ho1 rfl (wpAny_bind (wpAny_newTuple (wpAny_bind (wpAny_newList (wpAny_holding ?_) (Nat.zero_le _))) l64)))) (by simpa using l64) (Nat.zero_le _))))
 have keep:∀g:Array Value->Array Value,KeptBut a s.heap ((((s.heap.update a (Obj.mapSeq fun _=>(#[]:Array Value))).push (seqObj "tuple" vs.toArray 0)).push (seqObj "list" #[] 0)).update a (Obj.mapSeq g)):=fun g b o hb e=>by
  refine (Heap.get?_update_other _ _ (Ne.symm hb)).trans (Heap.get?_push_of_some _ (Heap.get?_push_of_some _ ?_))
  exact (Heap.get?_update_other _ _ (Ne.symm hb)).trans e
 have keep0:KeptBut a s.heap (((s.heap.update a (Obj.mapSeq fun _=>(#[]:Array Value))).push (seqObj "tuple" vs.toArray 0)).push (seqObj "list" #[] 0)):=fun b o hb e=>
  Heap.get?_push_of_some _ (Heap.get?_push_of_some _ ((Heap.get?_update_other _ _ (Ne.symm hb)).trans e))
 have hoB:(((s.heap.update a (Obj.mapSeq fun _=>(#[]:Array Value))).push (seqObj "tuple" vs.toArray 0)).push (seqObj "list" #[] 0)).get? a=some (seqObj "list" #[] e1):=Heap.get?_push_of_some _ (Heap.get?_push_of_some _ ho1)
 show wpAny (model prog w) A _ P E { s with heap:=((s.heap.update a (Obj.mapSeq fun _=>(#[]:Array Value))).push (seqObj "tuple" vs.toArray 0)).push (seqObj "list" #[] 0) }
 dsimp only
 by_cases h2:vs.toArray.size<2
 ·rw[if_pos h2,if_pos h2]
  refine wpAny_bind (wpAny_pure ?_)
  rw[StateT.run_pure]
  have eout:((vs.toArray.zip vs.toArray).map fun x:Keyed=>x.2)=(putBy (List.range vs.length).toArray vs).toArray:=by
   rw[eo_]
   apply Array.ext'
   simp[List.map_snd_zip]
  refine wpAny_bind (wpAny_pure (wpAny_bind (seqEpoch_at hoB rfl (wpAny_bind (listUpdate_at hoB rfl ?_ (Nat.zero_le _) ?_)))))
  ·simp only[bne_self_eq_false,Bool.false_eq_true,if_false]
   refine wpAny_pure (h (List.range vs.length).toArray _ _ (Array.Perm.refl _) (fun i j hij hj=>?_) ((get?_update_seq hoB _).trans (congrArg (fun z=>some (seqObj "list" z _)) eout)) (keep _))
   ·have e:i=j:=by
     simp only[List.size_toArray] at h2
     omega
    subst e
    exact O.rfl' _
  ·have e:((vs.toArray.zip vs.toArray).map fun x:Keyed=>x.2).size<=sizeLine+1:=by
    simp only[Array.size_map,Array.size_zip,List.size_toArray]
    omega
   exact e
 ·rw[if_neg h2,if_neg h2]
  have h2':2<=vs.length:=by
   simp only[List.size_toArray] at h2
   omega
  obtain⟨κ,hk,hc⟩:=hask h2' _ keep0
  refine wpAny_bind (wpAny_mono (hk (fun k s'=>k=κ/\s'=_) ⟨rfl,rfl⟩) (fun k s' hks=>?_) fun _ _ x=>x.elim)
  obtain⟨rfl,rfl⟩:=hks
  refine wpAny_bind (wpAny_mono (kat_run (ks:=vs) (vs:=vs) (G:=fun p s'=>s'={ s with heap:=((s.heap.update a (Obj.mapSeq fun _=>(#[]:Array Value))).push (seqObj "tuple" vs.toArray 0)).push (seqObj "list" #[] 0) }/\Good vs.length p/\Up f p vs.length)
   (Q:=fun st' s'=>∃p:Array Nat,arrOf st'=p.map (kas_item (vs.toArray.zip vs.toArray))/\failedOf st'=none/\s'={ s with heap:=((s.heap.update a (Obj.mapSeq fun _=>(#[]:Array Value))).push (seqObj "tuple" vs.toArray 0)).push (seqObj "list" #[] 0) }/\Good vs.length p/\Up f p vs.length)
   rfl h2' h64 (fun p st' s' _ q1 q2 q3=>⟨p,q1,q2,q3⟩) (Ok.wp hc (fun p q=>⟨rfl,q⟩) (iF_ O (by omega)))) ?_ fun _ _ x=>x)
  rintro⟨⟨⟩,st'⟩ s' ⟨p,har,hf,hs',g,u⟩
  have hs':s'={ s with heap:=((s.heap.update a (Obj.mapSeq fun _=>(#[]:Array Value))).push (seqObj "tuple" vs.toArray 0)).push (seqObj "list" #[] 0) }:=hs'
  subst hs'
  have eout:((arrOf st').map fun x:Keyed=>x.2)=(putBy p vs).toArray:=by
   rw[har]
   apply Array.ext'
   unfold putBy
   simp only[Array.map_map,Array.toList_map,List.toList_toArray]
   refine List.map_congr_left fun i _=>?_
   show (kas_item (vs.toArray.zip vs.toArray) i).2=_
   unfold kas_item
   by_cases hi:i<vs.length
   ·simp[Array.getD,hi]
   ·simp[Array.getD,hi,Nat.le_of_not_lt hi]
  have esz:((arrOf st').map fun x:Keyed=>x.2).size=vs.length:=by
   rw[eout]
   unfold putBy
   simp only[List.size_toArray,List.length_map,Array.length_toList]
   exact g.size
  refine wpAny_bind (seqEpoch_at hoB rfl (wpAny_bind (listUpdate_at hoB rfl ?_ (Nat.zero_le _) (by rw[esz];omega))))
  rw[hf]
  simp only[bne_self_eq_false,Bool.false_eq_true,if_false]
  exact wpAny_pure (h p _ _ g u ((get?_update_seq hoB _).trans (congrArg (fun z=>some (seqObj "list" z _)) eout)) (keep _))
theorem db_{x:Value}{f:Nat->Nat->Bool}{Q:Value->Shared->Prop}(O:Ord f)
  (hcol:wpAny (model prog w) A.in1 (collect x) (fun vs s1=>vs.length<64/\(2<=vs.length->∀h':Heap,(∀b o,s1.heap.get? b=some o->h'.get? b=some o)->Asks prog w A.in1.in1 f vs { s1 with heap:=h' }) /\
   ∀(p:Array Nat) (h':Heap) (e:Nat),Good vs.length p->Up f p vs.length->h'.get? s1.heap.objs.size=some (seqObj "list" (putBy p vs).toArray e)->(∀b o,s1.heap.get? b=some o->h'.get? b=some o)->Q (.ref s1.heap.objs.size) { s1 with heap:=h' }) E s) :
  wpAny (model prog w) A (call (.builtin "sorted") [x]) Q E s:=by
 refine Calls.call_function_entry kind_sorted plain_sorted entry_sorted (args_sorted1 _) ?_
 unfold Builtin.«sorted»
 refine wpAny_bind (m:=checkCount "sorted" 1 1 _) (wpAny_pure (wpAny_bind (wpAny_mono hcol (fun vs s1 q=>?_) fun _ _ z=>z)))
 obtain⟨h64,hask,hQ⟩:=q
 refine wpAny_bind (wpAny_newList ?_ (by have:=sizeLine_eq;omega))
 have hn:(s1.heap.push (seqObj "list" vs.toArray 0)).get? s1.heap.objs.size=some (seqObj "list" vs.toArray 0):=Heap.get?_push_size _ rfl
 have old:∀h',KeptBut s1.heap.objs.size (s1.heap.push (seqObj "list" vs.toArray 0)) h'->∀b o,s1.heap.get? b=some o->h'.get? b=some o:=fun h' k b o e=>
  k b o (Nat.ne_of_lt (Heap.lt_size e)) (Heap.get?_push_of_some _ e)
 refine wpAny_bind (wpAny_holding (wpAny_call_entry slot_list_sort ⟨_,hn,rfl⟩ entry_list_sort (i4_ O hn h64 (fun h2 h' k=>hask h2 h' (old h' k)) fun p h' e g u q k=>⟨_,rfl,?_⟩) (args_list_sort _)))
 exact wpAny_pure ⟨_,rfl,hQ p h' e g u q (old h' k)⟩
end
end EvS
set_option Elab.async false
set_option linter.all false
set_option maxRecDepth 100000
namespace L2
open PySem PySem.Spec PyProof.Rows PySem.W EvS
def kLt:Key->Key->Bool
 |.inl i,.inl j=>decide (i<j)
 |.inl _,.inr _=>true
 |.inr _,.inl _=>false
 |.inr x,.inr y=>decide (x.cps.toList<y.cps.toList)
def lexK:List Key->List Key->Bool
 |[],[]=>false
 |[],_::_=>true
 |_::_,[]=>false
 |a::r,b::q=>if a=b then lexK r q else kLt a b
theorem gG_:∀a:Key,kLt a a=false
 |.inl i=>by simp[kLt]
 |.inr x=>by simp[kLt,List.lt_irrefl]
theorem e7_:∀{a b:Key},kLt a b=true->kLt b a=false
 |.inl i,.inl j,h=>by
  simp only[kLt,decide_eq_true_eq,decide_eq_false_iff_not] at *
  omega
 |.inl _,.inr _,_=>rfl
 |.inr _,.inl _,h=>by cases h
 |.inr x,.inr y,h=>by
  simp only[kLt,decide_eq_true_eq,decide_eq_false_iff_not] at *
  exact fun q=>List.lt_irrefl _ (List.lt_trans h q)
theorem g2_:∀{a b:Key},kLt a b=false->kLt b a=false->a=b
 |.inl i,.inl j,h,h2=>by
  simp only[kLt,decide_eq_false_iff_not] at *
  rw[show i=j by omega]
 |.inl _,.inr _,h,_=>by cases h
 |.inr _,.inl _,_,h=>by cases h
 |.inr x,.inr y,h,h2=>by
  simp only[kLt,decide_eq_false_iff_not] at *
  rw[ext_toList (List.le_antisymm (List.not_lt.mp h2) (List.not_lt.mp h))]
theorem g4_:∀{a b c:Key},kLt a b=true->kLt b c=true->kLt a c=true
 |.inl i,.inl j,.inl k,h,h2=>by
  simp only[kLt,decide_eq_true_eq] at *
  omega
 |.inl _,.inl _,.inr _,_,_=>rfl
 |.inl _,.inr _,.inr _,_,_=>rfl
 |.inl _,.inr _,.inl _,_,h=>by cases h
 |.inr _,.inl _,_,h,_=>by cases h
 |.inr _,.inr _,.inl _,_,h=>by cases h
 |.inr x,.inr y,.inr z,h,h2=>by
  simp only[kLt,decide_eq_true_eq] at *
  exact List.lt_trans h h2
theorem f6_:∀a:List Key,lexK a a=false
 |[]=>rfl
 |a::r=>by
  unfold lexK
  rw[if_pos rfl]
  exact f6_ r
theorem c4_:∀{a b:List Key},lexK a b=true->lexK b a=false
 |[],[],h=>by cases h
 |[],_::_,_=>rfl
 |_::_,[],h=>by cases h
 |a::r,b::q,h=>by
  unfold lexK at h ⊢
  by_cases e:a=b
  ·rw[if_pos e] at h
   rw[if_pos e.symm]
   exact c4_ h
  ·rw[if_neg e] at h
   rw[if_neg (Ne.symm e)]
   exact e7_ h
theorem dv_:∀{a b:List Key},lexK a b=false->lexK b a=false->a=b
 |[],[],_,_=>rfl
 |[],_::_,h,_=>by cases h
 |_::_,[],_,h=>by cases h
 |a::r,b::q,h,h2=>by
  unfold lexK at h h2
  by_cases e:a=b
  ·rw[if_pos e] at h
   rw[if_pos e.symm] at h2
   rw[e,dv_ h h2]
  ·rw[if_neg e] at h
   rw[if_neg (Ne.symm e)] at h2
   exact absurd (g2_ h h2) e
theorem ci_:∀{a b c:List Key},lexK a b=true->lexK b c=true->lexK a c=true
 |[],_,[],h,h2=>by
  rename_i b
  cases b with
  |nil=>cases h
  |cons _ _=>cases h2
 |[],_,_::_,_,_=>rfl
 |_::_,[],_,h,_=>by cases h
 |_::_,_::_,[],_,h=>by cases h
 |a::r,b::q,c::t,h,h2=>by
  unfold lexK at h h2 ⊢
  by_cases e:a=b
  ·subst e
   rw[if_pos rfl] at h
   by_cases e2:a=c
   ·rw[if_pos e2] at h2 ⊢
    exact ci_ h h2
   ·rw[if_neg e2] at h2 ⊢
    exact h2
  ·rw[if_neg e] at h
   by_cases e2:b=c
   ·subst e2
    rw[if_neg e]
    exact h
   ·rw[if_neg e2] at h2
    have h3:=g4_ h h2
    rw[if_neg (fun q=>by rw[q,gG_] at h3;cases h3)]
    exact h3
theorem dd_{a b c:List Key}(h:lexK b a=false)(h2:lexK c b=false):lexK c a=false:=by
 cases e:lexK c a with
 |false=>rfl
 |true=>
  by_cases e1:lexK a b=true
  ·have:=ci_ e e1
   rw[h2] at this
   cases this
  ·have e1:lexK a b=false:=by simpa using e1
   have:=dv_ e1 h
   subst this
   rw[h2] at e
   cases e
def Asc(ks:List (List Key)):Prop:=ks.Pairwise fun a b=>lexK b a=false
theorem c9_:∀{a b:List (List Key)},a.Perm b->Asc a->Asc b->a=b
 |[],b,p,_,_=>by
  have:=p.length_eq
  cases b with
  |nil=>rfl
  |cons _ _=>cases this
 |x::r,[],p,_,_=>by
  have:=p.length_eq
  cases this
 |x::r,y::q,p,h1,h2=>by
  obtain⟨a1,a2⟩:=List.pairwise_cons.mp h1
  obtain⟨b1,b2⟩:=List.pairwise_cons.mp h2
  have e:x=y:=by
   rcases List.mem_cons.mp (p.mem_iff.mp List.mem_cons_self) with m|m
   ·exact m
   ·rcases List.mem_cons.mp (p.mem_iff.mpr List.mem_cons_self) with m2|m2
    ·exact m2.symm
    ·exact dv_ (b1 _ m) (a1 _ m2)
  subst e
  rw[c9_ ((List.perm_cons _).mp p) a2 b2]
def sortKs(ks:List (List Key)):List (List Key):=ks.mergeSort fun a b=>!lexK b a
theorem am_(ks:List (List Key)):(sortKs ks).Perm ks:=List.mergeSort_perm _ _
theorem by_(ks:List (List Key)):Asc (sortKs ks):=by
 have:=List.pairwise_mergeSort (le:=fun a b=>!lexK b a) (fun a b c h1 h2=>by
  simp only[Bool.not_eq_true'] at *
  exact dd_ h1 h2) (fun a b=>by
  simp only[Bool.or_eq_true,Bool.not_eq_true']
  by_cases e:lexK b a=true
  ·exact .inr (c4_ e)
  ·exact .inl (by simpa using e)) ks
 exact this.imp fun h=>by simpa using h
theorem cI_{ks ks':List (List Key)}(p:ks'.Perm ks)(h:Asc ks'):ks'=sortKs ks:=c9_ (p.trans (am_ ks).symm) h (by_ ks)
theorem bw_{α:Type}{p:Array Nat}{n:Nat}(g:Good n p)(F:Nat->α):(p.toList.map F).Perm ((List.range n).map F):=by
 have e:p.toList.Perm (List.range n):=by
  have:=Array.perm_iff_toList_perm.mp g
  simpa using this
 exact e.map F
theorem gB_{p:Array Nat}{ks:List (List Key)}{f:Nat->Nat->Bool}(hf:∀i j,i<ks.length->j<ks.length->f i j=lexK (ks.getD i []) (ks.getD j []))(g:Good ks.length p)(u:Up f p ks.length):Asc (p.toList.map fun i=>ks.getD i []):=by
 unfold Asc
 rw[List.pairwise_map,List.pairwise_iff_getElem]
 intro i j hi hj hij
 have hs:=g.size
 rw[Array.length_toList] at hi hj
 have hj':j<ks.length:=by omega
 have q:=u i j (Nat.le_of_lt hij) hj'
 have hN:0<ks.length:=by omega
 rw[hf _ _ (g.lt hN _) (g.lt hN _)] at q
 have e1:at' p i=p.toList[i]:=by simp[at',Array.getD,hi]
 have e2:at' p j=p.toList[j]:=by simp[at',Array.getD,hj]
 rw[e1,e2] at q
 exact q
theorem eM_(ks:List (List Key)):Ord fun i j=>lexK (ks.getD i []) (ks.getD j []):=⟨fun _=>f6_ _,fun h h2=>dd_ h h2,fun h=>c4_ h⟩
theorem ba_{α:Type}(d:α)(l:List α):((List.range l.length).map fun i=>l.getD i d)=l:=by
 apply List.ext_getElem?
 intro i
 simp only[List.getElem?_map]
 by_cases h:i<l.length
 ·simp[h]
 ·simp[Nat.le_of_not_lt h]
theorem fl_{ys:List V}{vs:List Value}(r:Vals ys vs){p:Array Nat}(g:Good vs.length p):Vals (p.toList.map fun i=>ys.getD i .non) (putBy p vs):=by
 unfold putBy
 have key:∀l:List Nat,(∀i∈l,i<vs.length)->Vals (l.map fun i=>ys.getD i .non) (l.map fun i=>vs.getD i Value.none):=fun l=>by
  induction l with
  |nil=>exact fun _=>.nil
  |cons i l ih=>
   intro h
   refine .cons ?_ (ih fun j hj=>h j (List.mem_cons_of_mem _ hj))
   have hi:=h i List.mem_cons_self
   have hy:i<ys.length:=by rw[r.length];exact hi
   obtain⟨u,hu,ru⟩:=r.get (List.getElem?_eq_getElem hy)
   have e1:ys.getD i .non=ys[i]:=by simp[hy]
   have e2:vs.getD i Value.none=u:=by simp[hu]
   show RelV (ys.getD i .non) (vs.getD i Value.none)
   rw[e1,e2]
   exact ru
 refine key p.toList fun i hi=>?_
 have m:i∈(List.range vs.length).toArray:=g.mem_iff.mp (by simpa using hi)
 simpa using m
theorem fO_:∀{ss:List Str} {vs:List Value},Vals (ss.map V.str) vs->StrsAre vs ss
 |[],_,.nil=>.nil
 |x::r,_,.cons h t=>by
  obtain⟨tk,rfl⟩:=h
  exact .cons x tk (fO_ t)
def sortS(ss:List Str):List Str:=(sortKs (ss.map fun x=>[Sum.inr x])).map fun k=>match k with
 |[.inr x]=>x
 |_=>⟨#[]⟩
def keyS(x:Str):List Key:=[Sum.inr x]
theorem fT_{prog:Program}{w:World}{A:Around}{s:Shared}{ss:List Str}{vs:List Value}(r:StrsAre vs ss)(h2:2<=vs.length):Asks prog w A (fun i j=>lexK ((ss.map keyS).getD i []) ((ss.map keyS).getD j [])) vs s:=by
 refine⟨oneType',fun Q q=>?_,fun i j C hi hj hC=>?_⟩
 ·match vs,h2 with
  |v₁::v₂::t,_=>
   rw[keyKind_strs r]
   exact wpAny_pure q
 ·unfold kas_ask
  rw[keyLt'_oneType]
  have look:∀k,k<vs.length->∃x t,vs.getD k Value.none=.str x t/\(ss.map keyS).getD k []=[Sum.inr x]:=fun k hk=>by
   have e:=r.strs
   obtain⟨x,t,q⟩:=r.all vs[k] (List.getElem_mem hk)
   refine⟨x,t,by simp[hk,q],?_⟩
   have hk':k<ss.length:=by
    rw[<- e,List.length_map]
    exact hk
   have e2:ss[k]=x:=by
    have e3:(vs.map strOf)[k]? = ss[k]?:=by rw[e]
    rw[List.getElem?_map,List.getElem?_eq_getElem hk,List.getElem?_eq_getElem hk',q] at e3
    exact (Option.some.inj e3).symm
   simp[hk',e2,keyS]
  obtain⟨x,t,e1,e2⟩:=look i hi
  obtain⟨y,u,e3,e4⟩:=look j hj
  rw[e1,e3]
  dsimp only at hC
  rw[e2,e4] at hC
  refine oneLt_str ?_
  unfold lexK at hC
  by_cases e:x=y
  ·subst e
   rw[if_pos rfl] at hC
   have:decide (x.cps.toList<x.cps.toList)=false:=by simp[List.lt_irrefl]
   rw[this]
   exact hC
  ·rw[if_neg (fun q=>e (Sum.inr.inj q))] at hC
   exact hC
def isS:Key->Bool
 |.inl _=>false
 |.inr _=>true
theorem gN_{prog:Program}{w:World}{A:Around}{E:Value->Shared->Prop}{s:Shared}{c:Bool}{a b:Key}{p q:Value}{Q:Bool->Shared->Prop}(ra:RelV (kV a) p)(rb:RelV (kV b) q)(hk:isS a=isS b)(h:Q (kLt a b) s) :
  wpAny (model prog w) A (oneLt' c p q) Q E s:=by
 cases a with
 |inl i=>
  cases b with
  |inr y=>cases hk
  |inl j=>
   obtain⟨t,rfl⟩:=ra
   obtain⟨u,rfl⟩:=rb
   cases c with
   |true=>exact oneLt_int h
   |false=>exact kat_one _ _ (lt_int (show PySem.W.BoolBack Q (.bool _) s from h))
 |inr x=>
  cases b with
  |inl j=>cases hk
  |inr y=>
   obtain⟨t,rfl⟩:=ra
   obtain⟨u,rfl⟩:=rb
   cases c with
   |true=>exact oneLt_str h
   |false=>exact kat_one _ _ (PyProof.Rows.lt_str (show PySem.W.BoolBack Q (.bool _) s from h))
theorem iP_{a b:Key}(hk:isS a=isS b):eqV (kV a) (kV b)=decide (a=b):=by
 cases a with
 |inl i=>
  cases b with
  |inr y=>cases hk
  |inl j=>
   show (i == j)=_
   by_cases e:i=j
   ·subst e
    simp
   ·rw[decide_eq_false (fun q=>e (Sum.inl.inj q))]
    simpa using e
 |inr x=>
  cases b with
  |inl j=>cases hk
  |inr y=>
   show (x == y)=_
   by_cases e:x=y
   ·subst e
    simp
   ·rw[decide_eq_false (fun q=>e (Sum.inr.inj q))]
    simpa using e
theorem eS_(a:Key):flatV (kV a)=true:=by cases a<;>rfl
theorem cw_{prog:Program}{w:World}{A:Around}{s:Shared}{Q:Bool->Shared->Prop}:∀{k1 k2:List Key} {us vs:List Value} (i:Nat),Vals (k1.map kV) us->Vals (k2.map kV) vs->k1.map isS=k2.map isS->Q (lexK k1 k2) s->KatLex prog w A true false Q (us.zip vs) i s
 |[],[],_,_,i,.nil,.nil,_,h=>h
 |[],_::_,_,_,_,_,_,h,_=>by cases h
 |_::_,[],_,_,_,_,_,h,_=>by cases h
 |a::k1,b::k2,u::us,v::vs,i,.cons ra r1,.cons rb r2,hk,h=>by
  obtain⟨e1,e2⟩:=List.cons.inj hk
  refine kat_cons ?_
  refine eJ_ ra rb (eS_ a) (eS_ b) prog w _ _ ?_
  rw[iP_ e1]
  unfold lexK at h
  by_cases e:a=b
  ·rw[if_pos e] at h
   rw[decide_eq_true e]
   exact kat_yes (cw_ (i+1) r1 r2 e2 h)
  ·rw[if_neg e] at h
   rw[decide_eq_false e]
   exact kat_no (gN_ ra rb e1 h)
def TupsAt(K:PySem.W.Frag)(H:Hp):List V->List (List Key)->Prop:=Paired fun y k=>∃a,y=V.ref a/\H a=some (.tup (k.map kV))
def Alike(ks:List (List Key))(sh:List Bool):Prop:=sh≠[]/\∀k∈ks,k.map isS=sh
theorem gh_{X:Cx}{pins:List (Addr × Obj)}{σ:St}{H:Hp}{s s':Shared}{A:Around}{ys:List V}{ks:List (List Key)}{sh:List Bool}{vs:List Value}(I:Inv X pins σ H s)(r:Vals ys vs)(t:TupsAt X.K H ys ks)(al:Alike ks sh)(h2:2<=vs.length)
  (kp:∀b o,s.heap.get? b=some o->s'.heap.get? b=some o):Asks X.prog X.w A (fun i j=>lexK (ks.getD i []) (ks.getD j [])) vs s':=by
 have look:∀k,k<vs.length->∃a its,vs.getD k Value.none=.ref a/\Vals ((ks.getD k []).map kV) its/\IsTup s'.heap a its.toArray/\ks.getD k []∈ks:=fun k hk=>by
  have hy:k<ys.length:=by rw[r.length];exact hk
  have hk2:k<ks.length:=by rw[<- Paired.length t];exact hy
  obtain⟨u,hu,ru⟩:=r.get (List.getElem?_eq_getElem hy)
  have gen:∀{ys:List V} {ks:List (List Key)} (k:Nat) (hy:k<ys.length) (hk2:k<ks.length),TupsAt X.K H ys ks->∃a,ys[k]=V.ref a/\H a=some (.tup (ks[k].map kV)):=fun {ys ks} k hy hk2 t=>by
   induction t generalizing k with
   |nil=>exact absurd hy (by simp)
   |cons h t ih=>
    cases k with
    |zero=>exact h
    |succ k=>exact ih k (by simpa using hy) (by simpa using hk2)
  obtain⟨a,e,sq⟩:=gen k hy hk2 t
  obtain⟨its,ri,ti,_⟩:=I.tuple (SqT.of sq)
  rw[e] at ru
  cases ru
  have e2:ks.getD k []=ks[k]:=by simp[hk2]
  refine⟨a,its,by simp[hu],by rw[e2];exact ri,ti.keeps kp,?_⟩
  rw[e2]
  exact List.getElem_mem hk2
 obtain⟨hne,hal⟩:=al
 obtain⟨c,sh',rfl⟩:∃c sh',sh=c::sh':=by
  cases sh with
  |nil=>exact absurd rfl hne
  |cons c sh'=>exact⟨c,sh',rfl⟩
 refine⟨tuples' true,fun Q q=>?_,fun i j C hi hj hC=>?_⟩
 ·have firsts:∀l:List Value,(∀v∈l,∃(a:Addr) (its:List Value) (k:List Key),v=.ref a/\Vals (k.map kV) its/\IsTup s'.heap a its.toArray/\k.map isS=c::sh')->∃fs,KatTups s'.heap l fs/\fs.length=l.length/\∀v∈fs,Looks (model X.prog X.w) s'.heap (typeOf v) (.type (if c then "str" else "int")):=fun l=>by
   induction l with
   |nil=>exact fun _=>⟨[],.nil,rfl,fun _ h=>nomatch h⟩
   |cons v l ih=>
    intro h
    obtain⟨fs,h1,h2,h3⟩:=ih fun v hv=>h v (List.mem_cons_of_mem _ hv)
    obtain⟨a,its,k,rfl,rv,⟨o,ho,hc,n,hd⟩,hk⟩:=h v List.mem_cons_self
    match k,its,rv,hk with
    |k0::k,u::its,.cons r0 _,hk=>
     refine⟨u::fs,.cons ho hc hd (by simp) h1,by simp[h2],fun v hv=>?_⟩
     rcases List.mem_cons.mp hv with e|hv
     ·subst e
      have e0:=(List.cons.inj hk).1
      cases k0 with
      |inl i=>
       obtain⟨t,rfl⟩:=r0
       rw[<- e0]
       exact .now
      |inr x=>
       obtain⟨t,rfl⟩:=r0
       rw[<- e0]
       exact .now
     ·exact h3 v hv
  obtain⟨fs,h1,h3,h4⟩:=firsts vs fun v hv=>by
   obtain⟨k,hk,rfl⟩:=List.getElem_of_mem hv
   obtain⟨a,its,e,rv,ti,m⟩:=look k hk
   refine⟨a,its,_,?_,rv,ti,hal _ m⟩
   rw[<- e]
   simp[hk]
  refine kat_kind h1 (by omega) h4 (by cases c<;>decide) ?_
  have e:((Value.type (if c then "str" else "int")) != Value.type "tuple")=true:=by cases c<;>decide
  rw[e]
  exact q
 ·unfold kas_ask
  obtain⟨a,its,e1,r1,⟨o,ho,_,n,hd⟩,m1⟩:=look i hi
  obtain⟨b,its2,e2,r2,⟨o2,ho2,_,n2,hd2⟩,m2⟩:=look j hj
  rw[e1,e2]
  refine kat_lt ho hd ho2 hd2 ?_
  have l1:=r1.length
  have l2:=r2.length
  have l3:=congrArg List.length ((hal _ m1).trans (hal _ m2).symm)
  simp only[List.length_map] at l1 l2 l3
  rw[show decide (its.toArray.size<its2.toArray.size)=false by simp;omega]
  exact cw_ 0 r1 r2 ((hal _ m1).trans (hal _ m2).symm) hC
end L2
set_option Elab.async false
set_option linter.all false
set_option maxRecDepth 100000
namespace EvD
open PySem PySem.W PyProof.Rows
section
variable{prog:Program}{w:World}{A:Around}{E:Value->Shared->Prop}{s:Shared}
def Raw(h:Heap)(d:Addr)(es:Array DictEntry)(ep:Nat):Prop:=∃o,h.get? d=some o/\o.ExactDict/\o.data=.dict es ep
theorem Raw.stay{h h':Heap}{d:Addr}{es:Array DictEntry}{ep:Nat}(x:Raw h d es ep)(k:∀o,h.get? d=some o->h'.get? d=some o):Raw h' d es ep:=let ⟨o,e,r⟩:=x;⟨o,k o e,r⟩
theorem Raw.ty{d:Addr}{es:Array DictEntry}{ep:Nat}(x:Raw s.heap d es ep):s.TypeIs (.ref d) "dict":=let ⟨o,e,c,_⟩:=x;⟨o,e,c.1⟩
theorem hM_{d:Addr}{es:Array DictEntry}{ep:Nat}{Q:Value->Shared->Prop}(hd:(d == sysModules)=false)(x:Raw s.heap d es ep)
  (q:Q (.ref s.heap.objs.size) { s with heap:=s.heap.push { cls:=.type "dict_keyiterator",data:=.fields #[.ref d,.int 0 0,.int es.size 0,.int ep 0] } }) :
  wpAny (model prog w) A (pyIter (.ref d)) Q E s:=by
 obtain⟨o,ho,hc,hdat⟩:=id x
 refine wpAny_pyIter_slot x.ty F.slot_dict_iter (wpAny_call_entry F.slot_dict_iter x.ty F.entry_dict_iter ?_ (F.args_dict_iter_1 _))
 unfold Builtin.«dict.__iter__» Builtin.Dict.dictSlotNone
 refine wpAny_bind (wpAny_bind (wpAny_notOrdered_dict x.ty (show wpAny _ _ (pure (Value.ref d)) _ _ s from wpAny_pure (show wpAny _ _ (Builtin.Dict.showsAll d >>= _) _ _ s from ?_))))
 unfold Builtin.Dict.showsAll
 rw[if_neg (by rw[hd];decide)]
 refine wpAny_bind (wpAny_pure (wpAny_bind (wpAny_dictEntries ho hdat (wpAny_bind (wpAny_dictEpoch ho hdat (wpAny_bind (wpAny_newObj_type (wpAny_pure ⟨_,rfl,"dict_keyiterator",_,⟨_,Heap.get?_push_size _ rfl,rfl⟩,F.slot_dict_keyiterator_next.lookup,?_⟩))))))))
 exact q
theorem i2_{it d:Addr}{i ep:Nat}{es:Array DictEntry}{Q:Option Value->Shared->Prop}(hit:s.heap.IsKeyIter it d i es.size ep)(x:Raw s.heap d es ep)(hi:i<es.size)
  (q:∀h',h'.IsKeyIter it d (i+1) es.size ep->Heap.SameBut it s.heap h'->Q (some es[i].key) { s with heap:=h' }):wpAny (model prog w) A (pyNext (.ref it)) Q E s:=by
 obtain⟨o,ho,hc,hd⟩:=id hit
 obtain⟨od,hod,hcd,hdd⟩:=id x
 unfold pyNext
 refine wpAny_bind (wpAny_attempt (wpAny_callSpecial?_slot (name:=Str.ofString "__next__") hit.typeIs F.slot_dict_keyiterator_next (wpAny_call_entry F.slot_dict_keyiterator_next hit.typeIs F.entry_dict_keyiterator_next ?_ (F.args_dict_keyiterator_next_1 _))))
 refine wpAny_bind (wpAny_pure (wpAny_bind (wpAny_bind ?_)))
 first|refine wpAny_bind (wpAny_typeNameOfWhole_keyiter hit.typeIs (wpAny_pure (wpAny_bind (wpAny_fieldsOf ho hd ?_))))|refine wpAny_bind (wpAny_typeNameOf_keyiter hit.typeIs (wpAny_pure (wpAny_bind (wpAny_fieldsOf ho hd ?_))))
 simp only[show Builtin.Dict_items.ownsTuple "dict_keyiterator"=false by decide,Bool.false_eq_true,if_false]
 refine (show wpAny _ _ (if (Value.ref d == Value.none)=true then _ else _) _ _ s from ?_)
 rw[if_neg (fun z=>by cases z)]
 refine wpAny_bind (wpAny_pure (wpAny_bind (wpAny_dictEntries hod hdd ?_)))
 rw[if_neg (by simp)]
 refine wpAny_bind (wpAny_pure (wpAny_bind (wpAny_dictEpoch hod hdd ?_)))
 rw[if_neg (by simp)]
 refine wpAny_pure ?_
 simp only[show ¬((i:Int)<0) from by omega,if_false,Int.toNat_natCast,Array.getElem?_eq_getElem hi]
 refine wpAny_bind ?_
 first|refine wpAny_bind (wpAny_typeNameOfWhole_keyiter hit.typeIs (wpAny_pure (wpAny_bind (wpAny_isOneOf_keyiter hit.typeIs ?_))))|refine wpAny_bind (wpAny_typeNameOf_keyiter hit.typeIs (wpAny_pure (wpAny_bind (wpAny_isOneOf_keyiter hit.typeIs ?_))))
 refine (show wpAny _ _ (setField (.ref it) 1 (rawInt ((i:Int)+1)) >>= _) _ _ s from wpAny_bind (wpAny_setField ho hd (by simp) ?_))
 have turned:(s.heap.update it (Obj.mapFields (·.setIfInBounds 1 (rawInt ((i:Int)+1))))).IsKeyIter it d (i+1) es.size ep:=
  ⟨_,Heap.get?_update_self _ ho (Obj.isFreed_of_fields (Obj.data_mapFields hd _)),(Obj.cls_mapFields ..).trans hc,by rw[Obj.data_mapFields hd];simp[rawInt]⟩
 refine wpAny_bind (wpAny_holding (wpAny_bind (wpAny_isOneOf_keyiter (s:={ s with heap:=s.heap.update it (Obj.mapFields (·.setIfInBounds 1 (rawInt ((i:Int)+1)))) }) turned.typeIs ?_)))
 exact (show wpAny _ _ (pure es[i].key) _ _ _ from wpAny_pure (wpAny_pure ⟨_,rfl,wpAny_pure (q _ turned (Heap.SameBut.update ..))⟩))
theorem hC_{it d:Addr}{ep:Nat}{es:Array DictEntry}{Q:Option Value->Shared->Prop}(hh:A.handled=none)(hit:s.heap.IsKeyIter it d es.size es.size ep)(x:Raw s.heap d es ep)
  (q:∀h',Heap.ExtBut it s.heap h'->Q none { s with heap:=h' }):wpAny (model prog w) A (pyNext (.ref it)) Q E s:=by
 obtain⟨o,ho,hc,hd⟩:=id hit
 obtain⟨od,hod,hcd,hdd⟩:=id x
 unfold pyNext
 refine wpAny_bind (wpAny_attempt (wpAny_callSpecial?_slot (name:=Str.ofString "__next__") hit.typeIs F.slot_dict_keyiterator_next (wpAny_call_entry F.slot_dict_keyiterator_next hit.typeIs F.entry_dict_keyiterator_next ?_ (F.args_dict_keyiterator_next_1 _))))
 refine wpAny_bind (wpAny_pure (wpAny_bind (wpAny_bind ?_)))
 first|refine wpAny_bind (wpAny_typeNameOfWhole_keyiter hit.typeIs (wpAny_pure (wpAny_bind (wpAny_fieldsOf ho hd ?_))))|refine wpAny_bind (wpAny_typeNameOf_keyiter hit.typeIs (wpAny_pure (wpAny_bind (wpAny_fieldsOf ho hd ?_))))
 simp only[show Builtin.Dict_items.ownsTuple "dict_keyiterator"=false by decide,Bool.false_eq_true,if_false]
 refine (show wpAny _ _ (if (Value.ref d == Value.none)=true then _ else _) _ _ s from ?_)
 rw[if_neg (fun z=>by cases z)]
 refine wpAny_bind (wpAny_pure (wpAny_bind (wpAny_dictEntries hod hdd ?_)))
 rw[if_neg (by simp)]
 refine wpAny_bind (wpAny_pure (wpAny_bind (wpAny_dictEpoch hod hdd ?_)))
 rw[if_neg (by simp)]
 refine wpAny_pure ?_
 simp only[show ¬((es.size:Int)<0) from by omega,if_false,Int.toNat_natCast,Array.getElem?_eq_none (Nat.le_refl _)]
 refine wpAny_bind ?_
 first|refine wpAny_bind (wpAny_typeNameOfWhole_keyiter hit.typeIs (wpAny_pure ?g))|refine wpAny_bind (wpAny_typeNameOf_keyiter hit.typeIs (wpAny_pure ?g))
 refine (show wpAny _ _ (setField (.ref it) 0 .none >>= _) _ _ s from wpAny_bind (wpAny_setField ho hd (by simp) (show wpAny _ _ (newExc (.type "StopIteration") [] >>= _) _ _ _ from wpAny_bind ?_)))
 simp only[newExc,newTuple]
 refine wpAny_bind (wpAny_newObj_type (wpAny_bind (m:=firstArgMember _ _) (wpAny_of_eq (a:=Value.none) (by first|rfl|(simp only[firstArgMember];rfl)) (wpAny_newObj_type ?_ (by size_fits)))) (by size_fits))
 simp only[raiseNew]
 refine wpAny_bind (wpAny_handled ?_)
 rw[show A.in1.handled=none from hh]
 refine wpAny_bind (wpAny_pure (wpAny_throw ?_))
 exact wpAny_bind (wpAny_isInstance (T:="StopIteration") (b:=true) ⟨_,Heap.get?_push_size _ rfl,rfl⟩ isSubtype_stop (wpAny_pure (q _ (((Heap.SameBut.update ..).extBut.push _).push _))))
theorem gv_(hh:A.handled=none)(I d:Addr)(hne:d≠I)(es:Array DictEntry)(ep:Nat) :
  Walks prog w A I [I,d] [I] es.size (fun i v=>∃h:i<es.size,v=es[i].key) (fun i h=>h.IsKeyIter I d i es.size ep/\Raw h d es ep) where
 sub:=fun b hb=>by simp only[List.mem_singleton] at hb;simp[hb]
 frame:=fun _ _ _ st k=>⟨st.1.at fun o e=>k I (by simp) o e,st.2.stay fun o e=>k d (by simp) o e⟩
 item:=fun i s Q E hi st hQ=>i2_ st.1 st.2 hi fun h' hit' hs'=>hQ _ h' s.toks ⟨hi,rfl⟩ ⟨hit',st.2.stay fun o e=>hs'.extBut d o hne e⟩ fun b o hb e=>hs'.extBut b o (fun h=>hb (by simp[h])) e
 done:=fun s Q E st hQ=>hC_ hh st.1 st.2 fun h' he'=>hQ h' s.toks fun b o hb e=>he' b o (fun h=>hb (by simp[h])) e
 self:=fun _ _ _ _ st hQ=>wpAny_pyIter_keyiter st.1 hQ
theorem je_{d:Addr}{es:Array DictEntry}{ep:Nat}(lo:(d == sysModules)=false):KdlSrc prog w "dict" d d es.size (fun i v=>∃h:i<es.size,v=es[i].key) (fun h=>Raw h d es ep) where
 type:=fun s x=>x.ty
 there:=fun h x=>let ⟨o,e,_⟩:=x;⟨Heap.lt_size e,Heap.lt_size e⟩
 keep:=fun h h' x k=>x.stay fun o e=>k d (.inl rfl) o e
 notList:=by decide
 notTuple:=by decide
 hint:=fun _ _ s _ x q=>kdl_hint_dict x.ty q
 iter:=fun A s hh x=>⟨_,_,fun E Q q=>hM_ lo x q,gv_ hh _ d (let ⟨o,e,_⟩:=x;Nat.ne_of_lt (Heap.lt_size e)) es ep,⟨⟨_,Heap.get?_push_size _ rfl,rfl,rfl⟩,x.stay fun o e=>Heap.get?_push_of_some _ e⟩⟩
end
end EvD
set_option Elab.async false
set_option linter.all false
set_option maxRecDepth 100000
namespace EvD
open PySem PySem.W PyProof.Rows
theorem cX_:typeLookup (.type "list") "keys"=pure none:=by rw[typeLookup_type,builtinLookup_eq_fast];kernel_rfl
theorem gj_{prog:Program}{w:World}{A:Around}{s:Shared}{a:Addr}{xs:Array Value}{k:Nat}{tk:Tok}{R:Result->Shared->Prop}(hx:s.heap.get? a=some (seqObj "list" xs k))(h:raisesAttr (.ref a) "keys" A R s) :
  codeAny (model prog w) A (.call (.builtin "list.__getattribute__") ⟨[.ref a,.str "keys" tk],[]⟩) R s:=by
 refine codeAny_call_builtin F.slot_list_getattribute.plain am_entry_list_getattribute (F.slot_list_getattribute.check _ _ _ _ _ _ _ _ ⟨_,hx,rfl⟩ (F.args_list_getattribute_2 _ _) ?_)
 exact meets_getattribute_miss_list a xs k #[] "keys" tk cX_ (by decide) (by size_fits) prog w A R s ⟨hx,h⟩
theorem noKeys{prog:Program}{w:World}{A:Around}{E:Value->Shared->Prop}{s:Shared}{a:Addr}{xs:Array Value}{k:Nat}{Q:Option Value->Shared->Prop}(hx:s.heap.get? a=some (seqObj "list" xs k))(hA:A.handled=none)
  (h:∀h' tk,(∀b o,s.heap.get? b=some o->h'.get? b=some o)->Q none { s with heap:=h',toks:=tk }):wpAny (model prog w) A (getAttr? (.ref a) "keys") Q E s:=by
 obtain⟨hp,g,d,tk,os⟩:=s
 have ty:∀tk',(⟨hp,g,d,tk',os⟩:Shared).TypeIs (.ref a) "list":=fun _=>⟨_,hx,rfl⟩
 have f1:=sub_AttributeError
 have f2:=F.slot_list_getattribute.lookup
 have f3:=F.slot_list_getattribute.bind (.ref a)
 have f4:=am_list_getattr_none
 unfold getAttr? getAttrBy? getAttrBy
 repeat (any_goals (first|assumption|exact ty _|wp_step))
 refine gj_ hx ⟨hA,fun h' tk' e hx'=>?_⟩
 obtain⟨t',u',he⟩:=hx'.there
 show wpAny _ _ (getattributeRaised _ _ _ _ _ _ _) _ _ _
 unfold getattributeRaised
 repeat (any_goals (first|assumption|wp_step))
 exact h _ _ hx'.keeps
end EvD
set_option Elab.async false
set_option linter.all false
set_option maxRecDepth 100000
namespace EvD
open PySem PySem.W PyProof.Rows
theorem dJ_:entryFor table "dict.update.loop"=some Builtin.«dict.update.loop»:=entryFor_of_tree (by kernel_rfl)
theorem bO_:plainId "dict.update.loop"=true:=by decide +kernel
theorem ic_(d it:Addr)(i:Int)(tk:Tok):Builtin.«dict.update.loop» ⟨[.ref d,.ref it,.int i tk,.none],[]⟩=(do
  let r <- pyNext (.ref it)
  match r with
  |none=>do Builtin.Dict.addKeywords d [];ret .none
  |some item=>do
   holding [item] (do
    let pair <- (Builtin.Dict.pairItems item).tryCatch fun e=>do
     if !(<- isInstance e (.type "TypeError")) then throw e
     rule "dict.update.element-no-sequence"
     raiseError "TypeError" s!"cannot convert dictionary update sequence element #{i} to a sequence"
    match pair with
    |[k,v]=>holding [k,v] (dictSet d k v)
    |l=>do
     rule "dict.update.element-length"
     raiseError "ValueError" s!"dictionary update sequence element #{i} has length {l.length}; 2 is required")
   again (.builtin "dict.update.loop" ⟨[.ref d,.ref it,rawInt (i+1),.none],[]⟩)):=by
 unfold Builtin.«dict.update.loop»
 refine congrArg (fun f=>pyNext (.ref it) >>= f) (funext fun r=>?_)
 cases r<;>rfl
section
variable{prog:Program}{w:World}{K:Type}[DecidableEq K]{knd:PySem.KeyKind prog w K}{A:Around}
def PairsIn(knd:PySem.KeyKind prog w K)(h:Heap):List Value->List (K × Value)->Prop:=Paired fun v p=>∃a key,v=.ref a/\IsTup h a #[key,p.2]/\knd.is p.1 key=true
def mergeP(kvs:List (K × Value))(ps:List (K × Value)):List (K × Value):=ps.foldl (fun acc p=>stored acc p.1 p.2) kvs
theorem fs_(kvs:List (K × Value))(k:K)(v:Value):(stored kvs k v).length<=kvs.length+1:=by
 unfold stored
 split
 ·simp
 ·simp
theorem cy_{h:Heap}{b it l:Addr}{i:Nat}{ys:Array Value}(t:IsTup h b ys)(q:h.IsListIter it l i):b≠it:=fun z=>by
 obtain⟨o,ho,hc,_⟩:=t
 obtain⟨o2,ho2,hc2,_⟩:=q
 subst z
 rw[ho] at ho2
 cases ho2
 rw[hc] at hc2
 exact absurd hc2 (by decide)
theorem ec_{h:Heap}{b d:Addr}{ys:Array Value}{kvs:List (K × Value)}(t:IsTup h b ys)(q:h.DictOf knd d kvs):b≠d:=fun z=>by
 obtain⟨o,ho,hc,_⟩:=t
 obtain⟨o2,es,ep,ho2,hc2,_⟩:=q
 subst z
 rw[ho] at ho2
 cases ho2
 have hc3:=hc2.1
 rw[hc] at hc3
 exact absurd hc3 (by decide)
theorem dV_{h h':Heap}{d:Addr}{kvs:List (K × Value)}(q:h.DictOf knd d kvs)(k:∀o,h.get? d=some o->h'.get? d=some o):h'.DictOf knd d kvs:=by
 obtain⟨o,es,ep,ho,r⟩:=q
 exact⟨o,es,ep,k _ ho,r⟩
theorem hk_{it l d a:Addr}{i:Nat}{its:List Value}{key x:Value}{k:K}{kvs:List (K × Value)}{s:Shared}{R:Result->Shared->Prop}{tk:Tok}(hdi:d≠it)(hi:its.toArray[i]? = some (.ref a))(ht:IsTup s.heap a #[key,x])(hk:knd.is k key=true)
  (hit:s.heap.IsListIter it l i) (hl:s.heap.IsList l its.toArray) (hd:s.heap.DictOf knd d kvs) (hz:kvs.length<=1000)
  (hR:∀h2,h2.DictOf knd d (stored kvs k x)->(∀b o,b≠d->b≠it->s.heap.get? b=some o->h2.get? b=some o)->h2.IsListIter it l (i+1)->codeAny (model prog w) A (.builtin "dict.update.loop" ⟨[.ref d,.ref it,rawInt ((i:Int)+1),.none],[]⟩) R { s with heap:=h2,toks:=s.toks+1 }) :
  codeAny (model prog w) A (.builtin "dict.update.loop" ⟨[.ref d,.ref it,.int i tk,.none],[]⟩) R s:=by
 refine codeAny_builtin dJ_ ?_
 rw[Around.under_plainId bO_ _,ic_]
 refine wpAny_bind (wpAny_pyNext_list_item hit hl hi fun h1 hit1 hs1=>?_)
 obtain⟨ot,hot,hct,nt,hdt⟩:=id ht
 have hot1:h1.get? a=some ot:=hs1.extBut _ _ (cy_ ht hit) hot
 refine wpAny_bind (wpAny_holding (wpAny_bind (wpAny_tryCatch ?_)))
 unfold Builtin.Dict.pairItems
 refine wpAny_bind (wpAny_typeOf (T:="tuple") ⟨ot,hot1,hct⟩ ?_)
 rw[if_pos (by decide)]
 unfold seqItems?
 refine wpAny_bind (wpAny_bind (wpAny_load hot1 ?_))
 rw[hdt]
 refine wpAny_pure (wpAny_pure ?_)
 refine (show wpAny _ _ (holding [key,x] (dictSet d key x)) _ _ _ from wpAny_holding (wpAny_dictSet_pairs hk (dV_ hd fun o q=>hs1.extBut _ _ hdi q) (fun h2 hd2 hs2=>?_) (by have:=sizeLine_eq;omega)))
 exact wpAny_pure ⟨plainId_quiet bO_ _,hR h2 hd2 (fun b o h3 h4 q=>hs2.extBut _ _ h3 (hs1.extBut _ _ h4 q)) (hit1.extBut hs2.extBut (Ne.symm hdi))⟩
theorem j0_{it l d:Addr}{i:Nat}{its:List Value}{kvs:List (K × Value)}{s:Shared}{R:Result->Shared->Prop}{tk:Tok}(hdi:d≠it)(hh:A.handled=none)(hi:its.toArray[i]? = none)
  (hit:s.heap.IsListIter it l i) (hl:s.heap.IsList l its.toArray) (hd:s.heap.DictOf knd d kvs)
  (hR:∀h',h'.DictOf knd d kvs->(∀b o,b≠it->s.heap.get? b=some o->h'.get? b=some o)->R (.ok (.ret .none)) { s with heap:=h' }) :
  codeAny (model prog w) A (.builtin "dict.update.loop" ⟨[.ref d,.ref it,.int i tk,.none],[]⟩) R s:=by
 refine codeAny_builtin dJ_ ?_
 rw[Around.under_plainId bO_ _,ic_]
 refine wpAny_bind (wpAny_pyNext_list_end hh hit hl hi fun h' he=>?_)
 exact wpAny_bind (m:=Builtin.Dict.addKeywords d []) (wpAny_pure (wpAny_pure (hR h' (dV_ hd fun o q=>he _ _ hdi q) fun b o hb q=>he b o hb q)))
theorem jo_{it l d:Addr}(hil:l≠it)(hdi:d≠it)(hdl:d≠l)(hh:A.handled=none){its:List Value}(rest:List Value):∀(ps:List (K × Value)) (i:Nat) (kvs:List (K × Value)) (s:Shared) (R:Result->Shared->Prop) (tk:Tok),its.drop i=rest->PairsIn knd s.heap rest ps->
  s.heap.IsListIter it l i->s.heap.IsList l its.toArray->s.heap.DictOf knd d kvs->kvs.length+ps.length<=1000->
  (∀h' tk',h'.DictOf knd d (mergeP kvs ps)->(∀b o,b≠d->b≠it->s.heap.get? b=some o->h'.get? b=some o)->R (.ok (.ret .none)) { s with heap:=h',toks:=tk' })->
  codeAny (model prog w) A (.builtin "dict.update.loop" ⟨[.ref d,.ref it,.int i tk,.none],[]⟩) R s:=by
 induction rest with
 |nil=>
  intro ps i kvs s R tk e hp hit hl hd hz hR
  cases hp
  have hi:its.toArray[i]? = none:=by
   have:=congrArg List.length e
   simp only[List.length_drop,List.length_nil] at this
   simp
   omega
  exact j0_ hdi hh hi hit hl hd fun h' hd' kp=>hR h' s.toks hd' fun b o _ hb q=>kp b o hb q
 |cons v rest ih=>
  intro ps i kvs s R tk e hp hit hl hd hz hR
  cases hp with
  |@cons _ p _ ps h0 hr=>
  obtain⟨a,key,hv,ht,hk⟩:=h0
  obtain⟨k,x⟩:=p
  subst hv
  have hi:its.toArray[i]? = some (.ref a):=by
   have q:(its.drop i)[0]? = some (.ref a):=by rw[e];rfl
   rw[List.getElem?_drop] at q
   simpa using q
  have e':its.drop (i+1)=rest:=by
   rw[<- List.drop_drop,e]
   rfl
  simp only[List.length_cons] at hz
  refine hk_ hdi hi ht hk hit hl hd (by omega) fun h2 hd2 kp hit2=>?_
  have c1:((i:Int)+1)=((i+1:Nat):Int):=by omega
  rw[c1]
  refine ih ps (i+1) (stored kvs k x) _ R 0 e' (L2.Paired.mapP hr fun v p ⟨b,ky,e1,t1,k1⟩=>⟨b,ky,e1,?_,k1⟩) hit2 (hl.at fun o q=>kp _ _ (Ne.symm hdl) hil q) hd2 (by have:=fs_ kvs k x;omega) fun h' tk' hd' kp'=>hR h' tk' hd' fun b o h3 h4 q=>kp' b o h3 h4 (kp b o h3 h4 q)
  obtain⟨o,ho,r⟩:=id t1
  exact⟨o,kp _ _ (ec_ t1 hd) (cy_ t1 hit) ho,r⟩
theorem dT_{E:Value->Shared->Prop}{s:Shared}{l:Addr}{its:List Value}{n:Nat}{ps:List (K × Value)}{Q:Value->Shared->Prop}(hh:A.handled=none)(ho:s.heap.get? l=some (seqObj "list" its.toArray n))(hp:PairsIn knd s.heap its ps)(hz:ps.length<=1000)
  (h:∀h' tk',h'.DictOf knd s.heap.objs.size (mergeP [] ps)->(∀b o,s.heap.get? b=some o->h'.get? b=some o)->Q (.ref s.heap.objs.size) { s with heap:=h',toks:=tk' }) :
  wpAny (model prog w) A (call (.type "dict") [.ref l]) Q E s:=by
 refine callType_codes (Q₁:=fun obj s₁=>obj=.ref s.heap.objs.size/\s₁={ s with heap:=s.heap.push { cls:=.type "dict",data:=.dict #[] } }) F.kt_called_dict (F.kt_typeCall_dict_1 _) F.entry_dict_init (kt_code_dict_new _ ⟨rfl,rfl⟩) ?_
 rintro obj s₁ ⟨rfl,rfl⟩
 have hnew:(s.heap.push { cls:=.type "dict",data:=.dict #[] }).DictOf knd s.heap.objs.size []:=Heap.DictOf.new s.heap
 have hl1:(s.heap.push { cls:=.type "dict",data:=.dict #[] }).get? l=some (seqObj "list" its.toArray n):=Heap.get?_push_of_some _ ho
 refine⟨hnew.typeIs,F.args_dict_init_2 _ _,?_⟩
 unfold Builtin.«dict.__init__» Builtin.Dict.selfAndRest
 refine wpAny_bind (wpAny_bind (wpAny_notOrdered_dict hnew.typeIs ?_))
 refine (show wpAny _ _ (pure (s.heap.objs.size,[Value.ref l])) _ _ _ from wpAny_pure ?_)
 refine (show wpAny _ _ (Builtin.Dict.updateFrom "dict.__init__" s.heap.objs.size (.ref l) [] .none) _ _ _ from ?_)
 unfold Builtin.Dict.updateFrom
 refine wpAny_bind (wpAny_typeOf (T:="list") ⟨_,hl1,rfl⟩ ?_)
 rw[if_pos (by decide)]
 refine wpAny_bind (noKeys hl1 hh fun h2 tk2 k2=>?_)
 simp only[Option.isNone_none,if_true]
 have hl2:h2.get? l=some (seqObj "list" its.toArray n):=k2 _ _ hl1
 refine wpAny_bind (wpAny_rule (wpAny_bind (wpAny_pyIter_list ⟨_,hl2,rfl,_,rfl⟩ ?_)))
 refine wpAny_pure ⟨plainId_quiet bO_ _,?_⟩
 have all:∀{b o},s.heap.get? b=some o->(h2.push { cls:=.type "list_iterator",data:=.fields #[.ref l,.int 0 0] }).get? b=some o:=fun q=>Heap.get?_push_of_some _ (k2 _ _ (Heap.get?_push_of_some _ q))
 have hd2:h2.DictOf knd s.heap.objs.size []:=by
  obtain⟨o,es,ep,ho,r⟩:=hnew
  exact⟨o,es,ep,k2 _ _ ho,r⟩
 have sz2:s.heap.objs.size<h2.objs.size:=by
  obtain⟨o,es,ep,ho,r⟩:=hd2
  exact Heap.lt_size ho
 have lz:l<s.heap.objs.size:=Heap.lt_size ho
 refine jo_ (A:=A.in1) (knd:=knd) (its:=its) (it:=h2.objs.size) (l:=l) (d:=s.heap.objs.size) (Nat.ne_of_lt (Nat.lt_trans lz sz2)) (Nat.ne_of_lt sz2) (Nat.ne_of_gt lz) hh its ps 0 [] _ _ 0 rfl (L2.Paired.mapP hp fun v p ⟨b,ky,e1,t1,k1⟩=>⟨b,ky,e1,t1.keeps fun b o q=>all q,k1⟩)
  ⟨_,Heap.get?_push_size _ rfl,rfl,rfl⟩ ⟨_,Heap.get?_push_of_some _ hl2,rfl,_,rfl⟩ (by
   obtain⟨o,es,ep,ho,r⟩:=hd2
   exact⟨o,es,ep,Heap.get?_push_of_some _ ho,r⟩) (by simpa using hz) fun h' tk' hd' kp=>⟨rfl,h h' tk' hd' fun b o q=>?_⟩
 have bl:b<s.heap.objs.size:=Heap.lt_size q
 exact kp b o (Nat.ne_of_lt bl) (Nat.ne_of_lt (Nat.lt_trans bl sz2)) (all q)
end
end EvD
set_option Elab.async false
set_option linter.all false
set_option maxRecDepth 100000
namespace L2
open PySem PySem.Spec PyProof.Rows PySem.W EvS EvD
theorem SqT.same{K:PySem.W.Frag}{H H':Hp}{a:Addr}{xs:List V}(h:SqT K H a xs)(e:Same H H'):SqT K H' a xs:=by
 rcases h with (h|⟨o,h⟩)|h
 ·exact .inl (.inl (e _ _ h))
 ·exact .inl (.inr ⟨o,e _ _ h⟩)
 ·exact .inr h
theorem TupsAt.same{K:PySem.W.Frag}{H H':Hp}{ys:List V}{ks:List (List Key)}(t:TupsAt K H ys ks)(e:Same H H'):TupsAt K H' ys ks:=Paired.mapP t fun y k ⟨a,z,q⟩=>⟨a,z,e _ _ q⟩
theorem Same.new{H:Hp}{l:Addr}{o:HO}(h:H l=none):Same H (upd H l o):=fun b u e=>by rw[a7_ (a4_ e h)];exact e
section
variable{X:Cx}{pins:List (Addr × Obj)}{σ:St}{H H':Hp}{s:Shared}{h':Heap}{t':Nat}
theorem Inv.many(I:Inv X pins σ H s)(k:∀b o,s.heap.get? b=some o->h'.get? b=some o)(hold:Same H H')(hnew:∀b,H b=none->b<s.heap.objs.size->H' b=none)
  (hob:∀b o,H' b=some o->H b=none->∃xs its,o=.tup xs/\xs.length<=sizeLine/\Vals xs its/\IsTup h' b its.toArray/\∃o,h'.get? b=some o/\o.dict=none):Inv X pins σ H' { s with heap:=h',toks:=t' }:=by
 refine I.un ⟨fun b o q _ _ _=>k b o q,fun b o q _ _ _=>⟨o.slots,k b o q⟩,fun b o q n _=>hnew b n (Heap.lt_size q),fun b o q _=>⟨o,k b o q⟩,fun b xs q=>hold b _ q,fun b o u q=>hold b _ q,fun b ps q=>⟨#[],by rw[Array.append_empty];exact hold b _ q⟩⟩ fun b o q=>?_
 cases e:H b with
 |some u=>
  have e2:=hold b u e
  rw[q] at e2
  cases e2
  exact (I.hok b o e).stay (fun c v _ z=>k c v z) (fun c z=>hold c _ z) fun c xs z=>hold c _ z
 |none=>
  obtain⟨xs,its,rfl,z,r,t⟩:=hob b o q e
  exact⟨z,its,r,t⟩
end
section
variable{X:Cx}{pins:List (Addr × Obj)}{σ:St}{H:Hp}{s:Shared}{A:Around}{E:Value->Shared->Prop}
theorem i5_{p:Addr}{ys:List V}{R:List Value->Shared->Prop}(I:Inv X pins σ H s)(h:SqL X.K H p ys)(hz:ys.length<=100000)(q:∀vs s1,Inv X pins σ H s1->Vals ys vs->R vs s1):wpAny (model X.prog X.w) A (collect (.ref p)) R E s:=by
 obtain⟨its,r,pl,_⟩:=I.list h
 have hl:=r.length
 refine collect_list pl.isList (q its _ ?_ r) (by have:=sizeLine_eq;omega)
 refine I.kept (t':=s.toks) fun b u e=>?_
 have lt:b<s.heap.objs.size:=Heap.lt_size e
 rw[Heap.get?_update_ne _ _ _ _ (Nat.ne_of_lt lt)]
 exact Heap.get?_push_of_some _ e
theorem c6_{P:Nat->Value->Prop}{acc:Array Value}{ys:List V}(h:ItemsOf P acc ys.length)(hp:∀(j:Nat) v,P j v->∀y,ys[j]? = some y->RelV y v):Vals ys acc.toList:=by
 have gen:∀(ys:List V) (vs:List Value),ys.length=vs.length->(∀(j:Nat) y v,ys[j]? = some y->vs[j]? = some v->RelV y v)->Vals ys vs:=fun ys=>by
  induction ys with
  |nil=>
   intro vs hl _
   cases vs with
   |nil=>exact .nil
   |cons _ _=>cases hl
  |cons y ys ih=>
   intro vs hl h
   cases vs with
   |nil=>cases hl
   |cons v vs=>exact .cons (h 0 y v rfl rfl) (ih vs (by simpa using hl) fun j y v a b=>h (j+1) y v (by simpa using a) (by simpa using b))
 refine gen ys acc.toList (by rw[Array.length_toList];exact h.1.symm) fun j y v a b=>hp j v (h.2 j v ?_) y a
 rw[<- Array.getElem?_toList]
 exact b
theorem ih_{d:Addr}{kvs:List (Key × V)}(I:Inv X pins σ H s)(h:Rd H d (.dK kvs)):∃(P:Nat->Value->Prop) (OK:Heap->Prop),KdlSrc X.prog X.w "dict" d d (kvs.map fun kv=>kV kv.1).length P OK/\OK s.heap/\∀(j:Nat) v,P j v->∀y,(kvs.map fun kv=>kV kv.1)[j]? = some y->RelV y v:=by
 obtain⟨z,hd,vs,rel,dd⟩:=bo_ I.hok h
 obtain⟨ep,dat⟩:=dd.dictAt
 have hl:=rel.length
 refine⟨fun i v=>∃k x,vs[i]? = some (k,x)/\(mixKind X.prog X.w).is k v=true,fun h=>h.DictAt (mixKind X.prog X.w) d vs ep,(by rw[List.length_map,hl];exact kdl_dict (knd:=mixKind X.prog X.w) (kvs:=vs) (ep:=ep) hd),dat,fun j v ⟨k,x,e,hk⟩ y hy=>?_⟩
 rw[List.getElem?_map] at hy
 have ek:kvs.map (·.1)=vs.map (·.1):=rel.keys
 have e2:(kvs.map (·.1))[j]? = (vs.map (·.1))[j]?:=by rw[ek]
 rw[List.getElem?_map,List.getElem?_map,e] at e2
 cases e3:kvs[j]? with
 |none=>rw[e3] at e2;cases e2
 |some kv=>
  rw[e3] at e2 hy
  have e4:kv.1=k:=Option.some.inj e2
  have e5:kV kv.1=y:=Option.some.inj hy
  rw[<- e5,e4]
  have hk:keyIs k v=true:=hk
  rcases ao_ hk with⟨i,t,rfl,rfl⟩|⟨x,t,rfl,rfl⟩
  ·exact⟨t,rfl⟩
  ·exact⟨t,rfl⟩
theorem jN_{d:Addr}{kvs:List (Key × V)}{R:List Value->Shared->Prop}(hh:A.handled=none)(I:Inv X pins σ H s)(h:Rd H d (.dK kvs))(q:∀vs s1,Inv X pins σ H s1->Vals (kvs.map fun kv=>kV kv.1) vs->R vs s1):wpAny (model X.prog X.w) A (collect (.ref d)) R E s:=by
 obtain⟨P,OK,S,ok,hp⟩:=ih_ I h
 refine kdu_collect S hh ok ?_ fun h' tk acc k a=>q _ _ (I.kept k) (c6_ a hp)
 rw[List.length_map]
 exact (bo_ I.hok h).1
theorem jM_{d:Addr}{kvs:List (List Key × V)}(I:Inv X pins σ H s)(h:Rd H d (.dT kvs)):∃(ys:List V) (P:Nat->Value->Prop) (OK:Heap->Prop),TupsAt X.K H ys (kvs.map (·.1))/\ys.length<=sizeLine/\KdlSrc X.prog X.w "dict" d d ys.length P OK/\OK s.heap/\∀(j:Nat) v,P j v->∀y,ys[j]? = some y->RelV y v:=by
 obtain⟨z,hd,xs,rel,o,es,ep,ho,hc,hdat,hes,nd⟩:=h.ok I.hok
 have l1:es.size=xs.length:=by
  have:=congrArg List.length hes
  simpa using this
 have l2:=Paired.length rel
 refine⟨xs.map fun x=>V.ref x.2.1,fun i v=>∃h:i<es.size,v=es[i].key,fun h=>Raw h d es ep,?_,by rw[List.length_map];omega,(by rw[List.length_map,<- l1];exact je_ (es:=es) (ep:=ep) hd),⟨o,ho,hc,hdat⟩,fun j v ⟨hj,e⟩ y hy=>?_⟩
 ·have gen:∀{kvs:List (List Key × V)} {xs:List (List Key × Addr × Value)},KT H kvs xs->TupsAt X.K H (xs.map fun x=>V.ref x.2.1) (kvs.map (·.1)):=fun {kvs xs} r=>by
   induction r with
   |nil=>exact .nil
   |cons h _ ih=>exact .cons ⟨_,rfl,h.2.1⟩ ih
  exact gen rel
 ·rw[List.getElem?_map] at hy
  have hx:j<xs.length:=by omega
  rw[List.getElem?_eq_getElem hx] at hy
  have e1:V.ref xs[j].2.1=y:=Option.some.inj hy
  have e2:es[j]=entryOfKey (tupleKind (mixKind X.prog X.w)) xs[j]:=by
   have e3:es.toList[j]? = (xs.map (entryOfKey (tupleKind (mixKind X.prog X.w))))[j]?:=by rw[hes]
   rw[List.getElem?_map,List.getElem?_eq_getElem hx,Array.getElem?_toList,Array.getElem?_eq_getElem hj] at e3
   exact Option.some.inj e3
  rw[<- e1,e,e2]
  rfl
theorem jT_{d:Addr}{kvs:List (List Key × V)}{R:List Value->Shared->Prop}(hh:A.handled=none)(I:Inv X pins σ H s)(h:Rd H d (.dT kvs))(q:∀ys vs s1,Inv X pins σ H s1->Vals ys vs->TupsAt X.K H ys (kvs.map (·.1))->R vs s1):wpAny (model X.prog X.w) A (collect (.ref d)) R E s:=by
 obtain⟨ys,P,OK,t,z,S,ok,hp⟩:=jM_ I h
 exact kdu_collect S hh ok z fun h' tk acc k a=>q ys _ _ (I.kept k) (c6_ a hp) t
def itemsV(v d:Addr):HO:=.ext fun h=>h.IsItemsView v d
def valuesV(v d:Addr):HO:=.ext fun h=>h.IsValuesView v d
def PairsAt(K:PySem.W.Frag)(H:Hp):List V->List (Key × V)->Prop:=Paired fun y p=>∃a,y=V.ref a/\H a=some (.tup [kV p.1,p.2])
theorem h3_{v d:Addr}{kvs:List (Key × V)}{R:List Value->Shared->Prop}(hh:A.handled=none)(I:Inv X pins σ H s)(hv:H v=some (itemsV v d))(h:Rd H d (.dK kvs))(q:∀H1 ys vs s1,Inv X pins σ H1 s1->Same H H1->Vals ys vs->PairsAt X.K H1 ys kvs->R vs s1) :
  wpAny (model X.prog X.w) A (collect (.ref v)) R E s:=by
 obtain⟨z,hd,vs,rel,dd⟩:=bo_ I.hok h
 obtain⟨ep,dat⟩:=dd.dictAt
 obtain⟨iv,_,_⟩:=I.hok v _ hv
 have hl:=rel.length
 refine kdx_collect (knd:=mixKind X.prog X.w) (kvs:=vs) (ep:=ep) hh iv dat (by omega) fun h' tk as k la G=>?_
 have up:∀b,b∈as->s.heap.objs.size<b:=G.above
 have at1:∀(j:Nat) b p,as[j]? = some b->kvs[j]? = some p->∃its,Vals [kV p.1,p.2] its/\IsTup h' b its.toArray/\∃o,h'.get? b=some o/\o.dict=none:=fun j b p hj hp=>by
  obtain⟨key,kk,x,e1,e2,e3⟩:=G.pairs j b hj
  have gen:∀{kvs:List (Key × V)} {vs:List (Key × Value)},KV kvs vs->∀(j:Nat),vs[j]? = some (kk,x)->kvs[j]? = some p->p.1=kk/\RelV p.2 x:=fun {kvs vs} r=>by
   induction r with
   |nil=>intro j e;simp at e
   |@cons p' q _ _ h _ ih=>
    intro j e e'
    cases j with
    |zero=>
     have e:q=(kk,x):=by simpa using e
     have e':p'=p:=by simpa using e'
     subst e'
     rw[e] at h
     exact h
    |succ j=>exact ih j (by simpa using e) (by simpa using e')
  obtain⟨g1,g2⟩:=gen rel j e1 hp
  refine⟨[key,x],.cons ?_ (.cons g2 .nil),⟨_,e3,rfl,_,rfl⟩,_,e3,rfl⟩
  rw[g1]
  have e2:keyIs kk key=true:=e2
  rcases ao_ e2 with⟨i,t,rfl,rfl⟩|⟨x,t,rfl,rfl⟩
  ·exact⟨t,rfl⟩
  ·exact⟨t,rfl⟩
 have look:∀{as:List Addr} {kvs:List (Key × V)},as.Pairwise (· < ·)->∀(j:Nat) b p,as[j]? = some b->kvs[j]? = some p->(as.zip kvs).lookup b=some p:=fun {as}=>by
  induction as with
  |nil=>intro kvs _ j b p e;simp at e
  |cons a as ih=>
   intro kvs pw j b p e e'
   cases kvs with
   |nil=>simp at e'
   |cons q kvs=>
    obtain⟨p1,p2⟩:=List.pairwise_cons.mp pw
    show ((a,q)::as.zip kvs).lookup b=some p
    cases j with
    |zero=>
     have e:a=b:=by simpa using e
     have e':q=p:=by simpa using e'
     subst e
     subst e'
     rw[List.lookup_cons_self]
    |succ j=>
     have e:as[j]? = some b:=by simpa using e
     have e':kvs[j]? = some p:=by simpa using e'
     have lt:=p1 b (List.mem_of_getElem? e)
     rw[List.lookup_cons,show (b == a)=false by simp only[beq_eq_false_iff_ne];exact Nat.ne_of_gt lt]
     exact ih p2 j b p e e'
 have lk:as.length=kvs.length:=by omega
 let H1:Hp:=fun b=>if b∈as then ((as.zip kvs).lookup b).map fun p=>HO.tup [kV p.1,p.2] else H b
 have h1in:∀(j:Nat) b p,as[j]? = some b->kvs[j]? = some p->H1 b=some (.tup [kV p.1,p.2]):=fun j b p e e'=>by
  show (if b∈as then _ else _)=_
  rw[if_pos (List.mem_of_getElem? e),look G.rise j b p e e']
  rfl
 have h1out:∀b,b∉as->H1 b=H b:=fun b hb=>if_neg hb
 have old:∀b,b<s.heap.objs.size->b∉as:=fun b hb m=>absurd (up b m) (by omega)
 refine q H1 (as.map V.ref) _ _ (I.many (t':=tk) k (fun b o e=>by rw[h1out b (old b (I.hok.lt e))];exact e) (fun b e hb=>by rw[h1out b (old b hb)];exact e) fun b o e e0=>?_) (fun b o e=>by rw[h1out b (old b (I.hok.lt e))];exact e) ?_ ?_
 ·by_cases m:b∈as
  ·obtain⟨j,hj⟩:=List.mem_iff_getElem?.mp m
   have jl:j<kvs.length:=by
    have:=(List.getElem?_eq_some_iff.mp hj).1
    omega
   have e':=h1in j b kvs[j] hj (List.getElem?_eq_getElem jl)
   rw[e] at e'
   cases e'
   obtain⟨its,r,t⟩:=at1 j b _ hj (List.getElem?_eq_getElem jl)
   exact⟨_,its,rfl,by show 2<=sizeLine;decide,r,t⟩
  ·rw[h1out b m,e0] at e
   cases e
 ·have gen:∀as:List Addr,Vals (as.map V.ref) (as.map Value.ref):=fun as=>by
   induction as with
   |nil=>exact .nil
   |cons a as ih=>exact .cons rfl ih
  exact gen as
 ·have gen:∀(as':List Addr) (kvs':List (Key × V)),as'.length=kvs'.length->(∀(j:Nat) b p,as'[j]? = some b->kvs'[j]? = some p->H1 b=some (.tup [kV p.1,p.2]))->PairsAt X.K H1 (as'.map V.ref) kvs':=fun as'=>by
   induction as' with
   |nil=>
    intro kvs' hl _
    cases kvs' with
    |nil=>exact .nil
    |cons _ _=>cases hl
   |cons a as' ih=>
    intro kvs' hl h
    cases kvs' with
    |nil=>cases hl
    |cons p kvs'=>exact .cons ⟨a,rfl,h 0 a p rfl rfl⟩ (ih kvs' (by simpa using hl) fun j b p e e'=>h (j+1) b p (by simpa using e) (by simpa using e'))
  exact gen as kvs lk h1in
end
end L2
set_option Elab.async false
set_option linter.all false
set_option maxRecDepth 100000
namespace L2
open PySem PySem.Spec PyProof.Rows PySem.W EvS EvD
theorem fk_{a b:List Str}(h:a.map keyS=b.map keyS):a=b:=by
 induction a generalizing b with
 |nil=>
  cases b with
  |nil=>rfl
  |cons _ _=>cases h
 |cons x a ih=>
  cases b with
  |nil=>cases h
  |cons y b=>
   obtain⟨h1,h2⟩:=List.cons.inj h
   have h1:[(Sum.inr x:Key)]=[Sum.inr y]:=h1
   cases h1
   rw[ih h2]
theorem cb_(ss:List Str):(sortS ss).map keyS=sortKs (ss.map keyS):=by
 have all:∀k∈sortKs (ss.map keyS),∃x,k=keyS x:=fun k hk=>by
  obtain⟨x,_,e⟩:=List.mem_map.mp ((am_ _).mem_iff.mp hk)
  exact⟨x,e.symm⟩
 have gen:∀l:List (List Key),(∀k∈l,∃x,k=keyS x)->(l.map fun k=>match k with | [.inr x]=>x|_=>(⟨#[]⟩:Str)).map keyS=l:=fun l=>by
  induction l with
  |nil=>exact fun _=>rfl
  |cons k l ih=>
   intro h
   obtain⟨x,rfl⟩:=h k List.mem_cons_self
   rw[List.map_cons,List.map_cons,ih fun k hk=>h k (List.mem_cons_of_mem _ hk)]
   rfl
 exact gen _ all
theorem ar_(ss:List Str):(sortS ss).Perm ss:=by
 have p:((sortS ss).map keyS).Perm (ss.map keyS):=by rw[cb_];exact am_ _
 have back:∀l:List Str,(l.map keyS).map (fun k=>match k with | [.inr x]=>x|_=>(⟨#[]⟩:Str))=l:=fun l=>by
  rw[List.map_map]
  induction l with
  |nil=>rfl
  |cons x l ih=>rw[List.map_cons,ih];rfl
 have q:=p.map (fun k=>match k with | [.inr x]=>x|_=>(⟨#[]⟩:Str))
 rwa [back,back] at q
section
variable{X:Cx}{pins:List (Addr × Obj)}{σ:St}{H:Hp}{s:Shared}
theorem ce_{u:Value}{ss:List Str}{Q:VK}(h64:ss.length<64)(hcol:wpAny (model X.prog X.w) X.A.in1 (collect u) (fun vs s1=>∃H1,Inv X pins σ H1 s1/\Vals (ss.map V.str) vs/\∀l,H1 l=none->Q (.ref l) (upd H1 l (.lst ((sortS ss).map V.str)))) X.xe s) :
  wpAny (model X.prog X.w) X.A (call (.builtin "sorted") [u]) (EP X pins σ Q) X.xe s:=by
 refine db_ (eM_ (ss.map keyS)) (thn hcol fun vs s1 ⟨H1,I1,r,q⟩=>?_)
 have hl:vs.length=ss.length:=by rw[<- r.length,List.length_map]
 refine⟨by omega,fun h2 h' _=>fT_ (fO_ r) h2,fun p h' e g up hD kp=>?_⟩
 have g':Good (ss.map keyS).length p:=by rw[List.length_map,<- hl];exact g
 have asc:=gB_ (ks:=ss.map keyS) (fun i j _ _=>rfl) g' (by rw[List.length_map,<- hl];exact up)
 have perm:(p.toList.map fun i=>(ss.map keyS).getD i []).Perm (ss.map keyS):=by
  have:=bw_ g' fun i=>(ss.map keyS).getD i []
  rwa [ba_] at this
 have es:=cI_ perm asc
 have inr:∀i∈p.toList,i<ss.length:=fun i hi=>by
  have m:i∈(List.range vs.length).toArray:=g.mem_iff.mp (by simpa using hi)
  rw[hl] at m
  simpa using m
 have e1:(p.toList.map fun i=>ss.getD i ⟨#[]⟩)=sortS ss:=by
  refine fk_ ?_
  rw[cb_,<- es,List.map_map]
  refine List.map_congr_left fun i hi=>?_
  have:=inr i hi
  simp[this]
 have rv:=fl_ r g
 have e2:(p.toList.map fun i=>(ss.map V.str).getD i .non)=(sortS ss).map V.str:=by
  rw[<- e1,List.map_map]
  refine List.map_congr_left fun i hi=>?_
  have:=inr i hi
  simp[this]
 rw[e2] at rv
 refine⟨.ref s1.heap.objs.size,_,I1.laid (t':=s1.toks) kp (Nat.le_refl _) (show ObjOk X.prog X.w _ h' _ (.lst ((sortS ss).map V.str)) from ⟨?_,putBy p vs,e,rv,hD⟩),rfl,q _ (I1.hok.fresh (Nat.le_refl _))⟩
 rw[List.length_map,(ar_ ss).length_eq]
 have:=sizeLine_eq
 omega
theorem hR_{K:PySem.W.Frag}{H:Hp}{ys:List V}{ks:List (List Key)}(t:TupsAt K H ys ks):∀l:List Nat,(∀i∈l,i<ys.length)->TupsAt K H (l.map fun i=>ys.getD i .non) (l.map fun i=>ks.getD i []):=fun l=>by
 induction l with
 |nil=>exact fun _=>.nil
 |cons i l ih=>
  intro h
  refine .cons ?_ (ih fun j hj=>h j (List.mem_cons_of_mem _ hj))
  have hi:=h i List.mem_cons_self
  have gen:∀{ys:List V} {ks:List (List Key)} (i:Nat),i<ys.length->TupsAt K H ys ks->∃a,ys.getD i .non=V.ref a/\H a=some (.tup ((ks.getD i []).map kV)):=fun {ys ks} i hy t=>by
   induction t generalizing i with
   |nil=>exact absurd hy (by simp)
   |cons h t ih=>
    cases i with
    |zero=>exact h
    |succ i=>exact ih i (by simpa using hy)
  exact gen i hi t
theorem ch_{u:Value}{ks:List (List Key)}{sh:List Bool}{Q:VK}(h64:ks.length<64)(al:Alike ks sh)
  (hcol:wpAny (model X.prog X.w) X.A.in1 (collect u) (fun vs s1=>∃H1 ys,Inv X pins σ H1 s1/\Vals ys vs/\TupsAt X.K H1 ys ks/\∀l zs,H1 l=none->TupsAt X.K H1 zs (sortKs ks)->zs.Perm ys->Q (.ref l) (upd H1 l (.lst zs))) X.xe s) :
  wpAny (model X.prog X.w) X.A (call (.builtin "sorted") [u]) (EP X pins σ Q) X.xe s:=by
 refine db_ (eM_ ks) (thn hcol fun vs s1 ⟨H1,ys,I1,r,t,q⟩=>?_)
 have l1:=r.length
 have l2:=Paired.length t
 have hl:vs.length=ks.length:=by omega
 refine⟨by omega,fun h2 h' k=>gh_ I1 r t al h2 k,fun p h' e g up hD kp=>?_⟩
 have g':Good ks.length p:=by rw[<- hl];exact g
 have asc:=gB_ (ks:=ks) (fun i j _ _=>rfl) g' (by rw[<- hl];exact up)
 have perm:(p.toList.map fun i=>ks.getD i []).Perm ks:=by
  have:=bw_ g' fun i=>ks.getD i []
  rwa [ba_] at this
 have es:=cI_ perm asc
 have inr:∀i∈p.toList,i<ys.length:=fun i hi=>by
  have m:i∈(List.range vs.length).toArray:=g.mem_iff.mp (by simpa using hi)
  rw[<- l1] at m
  simpa using m
 have tz:=hR_ t p.toList inr
 rw[es] at tz
 have rv:=fl_ r g
 have pz:(p.toList.map fun i=>ys.getD i .non).Perm ys:=by
  have:=bw_ (n:=ys.length) (by rw[l1];exact g) fun i=>ys.getD i .non
  rwa [ba_] at this
 refine⟨.ref s1.heap.objs.size,_,I1.laid (t':=s1.toks) kp (Nat.le_refl _) (show ObjOk X.prog X.w _ h' _ (.lst (p.toList.map fun i=>ys.getD i .non)) from ⟨?_,putBy p vs,e,rv,hD⟩),rfl,q _ _ (I1.hok.fresh (Nat.le_refl _)) tz pz⟩
 rw[pz.length_eq]
 have:=sizeLine_eq
 omega
end
section
variable{X:Cx}
def rSortS(K:PySem.W.Frag):List V->Hp->VK->Prop:=fun xs H Q=>∃p ss,xs=[.ref p]/\SqL K H p (ss.map V.str)/\ss.length<64/\∀l,H l=none->Q (.ref l) (upd H l (.lst ((sortS ss).map V.str)))
theorem fL_:CallR X (.builtin "sorted") (rSortS X.K):=by
 intro pins s σ H xs us Q I r h
 obtain⟨p,ss,rfl,hp,h64,q⟩:=h
 obtain⟨u,rfl,ru⟩:=vals1 r
 cases ru
 exact ce_ h64 (i5_ I hp (by rw[List.length_map];omega) fun vs s1 I1 r1=>⟨H,I1,r1,q⟩)
def rSortDT(K:PySem.W.Frag):List V->Hp->VK->Prop:=fun xs H Q=>∃d kvs sh,xs=[.ref d]/\H d=some (.dT kvs)/\Alike (kvs.map (·.1)) sh/\kvs.length<64/\∀l zs,H l=none->TupsAt K H zs (sortKs (kvs.map (·.1)))->Q (.ref l) (upd H l (.lst zs))
theorem ed_(hc:X.calm=true):CallR X (.builtin "sorted") (rSortDT X.K):=by
 intro pins s σ H xs us Q I r h
 obtain⟨d,kvs,sh,rfl,hd,al,h64,q⟩:=h
 obtain⟨u,rfl,ru⟩:=vals1 r
 cases ru
 exact ch_ (by rw[List.length_map];exact h64) al (jT_ (I.ok.hd hc) I (.inl hd) fun ys vs s1 I1 r1 t=>⟨H,ys,I1,r1,t,fun l zs n t' _=>q l zs n t'⟩)
def rSortDS:List V->Hp->VK->Prop:=fun xs H Q=>∃d kvs ss,xs=[.ref d]/\H d=some (.dK kvs)/\kvs.map (·.1)=ss.map Sum.inr/\ss.length<64/\∀l,H l=none->Q (.ref l) (upd H l (.lst ((sortS ss).map V.str)))
theorem eA_(hc:X.calm=true):CallR X (.builtin "sorted") rSortDS:=by
 intro pins s σ H xs us Q I r h
 obtain⟨d,kvs,ss,rfl,hd,ek,h64,q⟩:=h
 obtain⟨u,rfl,ru⟩:=vals1 r
 cases ru
 refine ce_ h64 (jN_ (I.ok.hd hc) I (.inl hd) fun vs s1 I1 r1=>⟨H,I1,?_,q⟩)
 have e:(kvs.map fun kv=>kV kv.1)=ss.map V.str:=by
  rw[show (kvs.map fun kv=>kV kv.1)=(kvs.map (·.1)).map kV by rw[List.map_map];rfl,ek,List.map_map]
  rfl
 rwa [e] at r1
def rSortI(K:PySem.W.Frag):List V->Hp->VK->Prop:=fun xs H Q=>∃(v d:Addr) (kvs:List (Key × V)) (ks:List (Key × Key)) (sh:List Bool),xs=[.ref v]/\H v=some (itemsV v d)/\H d=some (.dK kvs)/\kvs=ks.map (fun k:Key × Key=>(k.1,kV k.2))/\Alike (ks.map fun k=>[k.1,k.2]) sh/\ks.length<64 /\
 ∀l H1 zs,Same H H1->H1 l=none->TupsAt K H1 zs (sortKs (ks.map fun k=>[k.1,k.2]))->Q (.ref l) (upd H1 l (.lst zs))
theorem fz_(hc:X.calm=true):CallR X (.builtin "sorted") (rSortI X.K):=by
 intro pins s σ H xs us Q I r h
 obtain⟨v,d,kvs,ks,sh,rfl,hv,hd,ek,al,h64,q⟩:=h
 obtain⟨u,rfl,ru⟩:=vals1 r
 cases ru
 refine ch_ (by rw[List.length_map];exact h64) al (h3_ (I.ok.hd hc) I hv (.inl hd) fun H1 ys vs s1 I1 sm r1 t=>⟨H1,ys,I1,r1,?_,fun l zs n t' _=>q l H1 zs sm n t'⟩)
 subst ek
 have gen:∀(ks:List (Key × Key)) (ys:List V),PairsAt X.K H1 ys (ks.map (fun k:Key × Key=>(k.1,kV k.2)))->TupsAt X.K H1 ys (ks.map fun k=>[k.1,k.2]):=fun ks=>by
  induction ks with
  |nil=>
   intro ys t
   cases t
   exact .nil
  |cons k ks ih=>
   intro ys t
   cases t with
   |cons h t=>exact .cons h (ih _ t)
 exact gen ks ys t
def rListD:List V->Hp->VK->Prop:=fun xs H Q=>∃d kvs,xs=[.ref d]/\Rd H d (.dK kvs)/\∀l,H l=none->Q (.ref l) (upd H l (.lst (kvs.map fun kv=>kV kv.1)))
theorem c3_(hc:X.calm=true):CallR X (.type "list") rListD:=by
 intro pins s σ H xs us Q I r h
 obtain⟨d,kvs,rfl,hd,q⟩:=h
 obtain⟨u,rfl,ru⟩:=vals1 r
 cases ru
 obtain⟨P,OK,S,ok,hp⟩:=ih_ I hd
 have z:=(bo_ I.hok hd).1
 refine kdl_call S (I.ok.hd hc) ok (by rw[List.length_map];exact z) fun h' tk acc c k hD a=>?_
 refine⟨.ref s.heap.objs.size,_,I.laid (t':=tk) k (Nat.le_refl _) (show ObjOk X.prog X.w _ h' _ (.lst (kvs.map fun kv=>kV kv.1)) from ⟨by rw[List.length_map];exact z,acc.toList,c,c6_ a hp,by rw[Array.toArray_toList];exact hD⟩),rfl,q _ I.fresh⟩
theorem KV.mergeP{κ:Type}[DecidableEq κ]:∀{more:List (κ × V)} {rs:List (κ × Value)} {kvs:List (κ × V)} {vs:List (κ × Value)},KV more rs->KV kvs vs->KV (more.foldl (fun acc kv=>putK acc kv.1 kv.2) kvs) (EvD.mergeP vs rs):=fun {more rs kvs vs} h=>by
 induction h generalizing kvs vs with
 |nil=>exact fun h=>h
 |@cons p q _ _ h _ ih=>
  intro h2
  obtain⟨k,y⟩:=p
  obtain⟨k',u⟩:=q
  obtain⟨h1,h3⟩:=h
  have h1:k=k':=h1
  subst h1
  exact ih (h2.put k h3)
def rDictOf(K:PySem.W.Frag):List V->Hp->VK->Prop:=fun xs H Q=>∃p ys kvs,xs=[.ref p]/\H p=some (.lst ys)/\PairsAt K H ys kvs/\kvs.length<=1000/\∀l,H l=none->Q (.ref l) (upd H l (.dK (mergeK [] kvs)))
theorem aS_(hc:X.calm=true):CallR X (.type "dict") (rDictOf X.K):=by
 intro pins s σ H xs us Q I r h
 obtain⟨p,ys,kvs,rfl,hp,t,hz,q⟩:=h
 obtain⟨u,rfl,ru⟩:=vals1 r
 cases ru
 obtain⟨z,its,n,rv,hl,ho⟩:=I.lstM hp
 have gen:∀{ys:List V} {its:List Value} {kvs:List (Key × V)},Vals ys its->PairsAt X.K H ys kvs->∃ps,KV kvs ps/\PairsIn (mixKind X.prog X.w) s.heap its ps:=fun {ys its kvs} rv t=>by
  induction t generalizing its with
  |nil=>
   cases rv
   exact⟨[],.nil,.nil⟩
  |@cons y p ys kvs h t ih=>
   cases rv with
   |cons r0 rv=>
    obtain⟨ps,h1,h2⟩:=ih rv
    obtain⟨a,e,sq⟩:=h
    subst e
    cases r0
    obtain⟨tv,rt,it,_⟩:=I.tuple (SqT.of sq)
    obtain⟨key,x,e2,rk,rx⟩:=vals2 rt
    subst e2
    refine⟨(p.1,x)::ps,Paired.cons (show p.1=p.1/\RelV p.2 x from ⟨rfl,rx⟩) h1,Paired.cons (show ∃a' key',Value.ref a=.ref a'/\IsTup s.heap a' #[key',x]/\(mixKind X.prog X.w).is p.1 key'=true from ⟨a,key,rfl,it,fv_ rk⟩) h2⟩
 obtain⟨ps,h1,h2⟩:=gen rv t
 have lp:=KV.length h1
 refine dT_ (knd:=mixKind X.prog X.w) (I.ok.hd hc) ho h2 (by omega) fun h' tk hd kp=>?_
 refine⟨.ref s.heap.objs.size,_,I.laid (t':=tk) kp (Nat.le_refl _) (ij_ ?_ (beq_eq_false_iff_ne.mpr (Ne.symm (Nat.ne_of_lt I.big))) (KV.mergeP h1 .nil) hd),rfl,q _ I.fresh⟩
 have:=bU_ kvs []
 have:=sizeLine_eq
 simp only[List.length_nil] at *
 show (mergeK [] kvs).length<=sizeLine
 omega
theorem eE_:∀{bs:List Bool} {vs:List Value},Vals (bs.map V.bl) vs->vs=bs.map Value.bool
 |[],_,.nil=>rfl
 |b::bs,_,.cons h t=>by
  cases h
  rw[eE_ t]
  rfl
def rAll(K:PySem.W.Frag)(g:List Bool->Bool):List V->Hp->VK->Prop:=fun xs H Q=>∃p bs,xs=[.ref p]/\SqL K H p (bs.map V.bl)/\Q (.bl (g bs)) H
theorem fc_(hc:X.calm=true):CallR X (.builtin "all") (rAll X.K fun bs=>bs.all id):=by
 intro pins s σ H xs us Q I r h
 obtain⟨p,bs,rfl,hp,q⟩:=h
 obtain⟨u,rfl,ru⟩:=vals1 r
 cases ru
 obtain⟨its,rv,pl,z⟩:=I.list hp
 obtain rfl:=eE_ rv
 have hl:=pl.isList
 have lt:p<s.heap.objs.size:=by obtain⟨_,e,_⟩:=hl;exact Heap.lt_size e
 refine call_all_walk (wpAny_pyIter_list hl ⟨s.heap.objs.size,[s.heap.objs.size,p],[s.heap.objs.size],(bs.map Value.bool).toArray.size,_,_,fun i=>(bs[i]?).getD true,rfl,Walks.list (A:=X.A.in1) (I.ok.hd hc) _ p (Nat.ne_of_lt lt) _,⟨⟨_,Heap.get?_push_size _ rfl,rfl,rfl⟩,hl.push _⟩,fun i v s' Q' E' hP hQ=>?_,fun h' tk hk=>?_⟩)
 ·have hP:(bs.map Value.bool).toArray[i]? = some v:=hP
  simp only[List.getElem?_toArray,List.getElem?_map] at hP
  cases e:bs[i]? with
  |none=>rw[e] at hP;cases hP
  |some b=>
   have hQ:Q' ((bs[i]?).getD true) s':=hQ
   rw[e] at hP hQ
   cases hP
   exact wpAny_truthy_bool hQ
 ·have e:((List.range (bs.map Value.bool).toArray.size).all fun i=>(bs[i]?).getD true)=bs.all id:=by
   rw[List.size_toArray,List.length_map]
   exact LSm.range_all bs
  rw[e]
  exact⟨.bl _,H,I.kept (LSm.kept_iter hk),rfl,q⟩
end
end L2
set_option Elab.async false
set_option linter.all false
set_option maxRecDepth 100000
namespace EvN
open PySem PySem.SeqAt PyProof.Rows
open AutoSeq1 (wpAny_loadPart')
open MeetsSeq MeetsSeq2 MeetsSeq3 SeqRoads2
theorem jX_(l b:Addr)(xs ys:Array Value)(n m:Nat)(dl db:Option Addr)(sl sb:Array (Option Value))(hs:xs.size=ys.size)(e:Nat->Bool)(k:Nat) :
  ∀i:Nat,xs.size - i=k->Meets (Builtin.«list.__eq__.loop» ⟨[.ref l,.ref b,rawInt i,rawInt 3],[]⟩)
   (fun A R s=>(s.heap.get? l=some { cls:=.type "list",dict:=dl,data:=.seq xs n,slots:=sl }/\s.heap.get? b=some { cls:=.type "list",dict:=db,data:=.seq ys m,slots:=sb }) /\
    (∀j (h1:j<xs.size) (h2:j<ys.size),EqAt A.in1 s xs[j] ys[j] (e j))/\R (.ok (.ret (.bool (!((List.range xs.size).drop i).all e)))) s):=by
 induction k with
 |zero=>
  intro i hk prog w A R s ⟨⟨gl,gb⟩,he,h⟩
  obtain⟨hp,g,d,tk,os⟩:=s
  wp_walk using wpAny_loadPart' gl,wpAny_loadPart' gb
  rw[show xs[((i:Nat):Int).toNat]? = none by simp;omega,show ys[((i:Nat):Int).toNat]? = none by simp;omega]
  rw[show (List.range xs.size).drop i=[] by simp;omega] at h
  wp_walk using wpAny_loadPart' gl,wpAny_loadPart' gb
  refine (show R (.ok (.ret (.bool (xs.size != ys.size)))) _ from ?_)
  rw[show (xs.size != ys.size)=false by simp[hs]]
  exact h
 |succ k ih=>
  intro i hk prog w A R s ⟨⟨gl,gb⟩,he,h⟩
  obtain⟨hp,g,d,tk,os⟩:=s
  wp_walk using wpAny_loadPart' gl,wpAny_loadPart' gb
  have z1:i<xs.size:=by omega
  have z2:i<ys.size:=by omega
  have q1:xs[((i:Nat):Int).toNat]? = some xs[i]:=by simp[z1]
  have q2:ys[((i:Nat):Int).toNat]? = some ys[i]:=by simp[z2]
  rw[show (List.range xs.size).drop i=i::(List.range xs.size).drop (i+1) by simp[List.drop_eq_getElem_cons,z1],List.all_cons] at h
  rw[q1,q2]
  refine wpAny_bind (he i z1 z2 prog w _ _ ?_)
  cases c:e i with
  |true=>
   rw[c] at h
   wp_walk
   rw[show ((i:Int)+1)=((i+1:Nat):Int) by omega]
   refine⟨plainId_quiet plain_eq_loop _,codeAny_builtin entry_eq_loop ?_⟩
   rw[Around.under_plainId plain_eq_loop _]
   exact ih (i+1) (by omega) prog w A R _ ⟨⟨gl,gb⟩,he,by simpa using h⟩
  |false=>
   rw[c] at h
   wp_walk using wpAny_loadPart' gl,wpAny_loadPart' gb
   rw[q1,q2]
   wp_walk
   simpa using h
theorem hr_(l b:Addr)(xs ys:Array Value)(n m:Nat)(dl db:Option Addr)(sl sb:Array (Option Value))(hs:xs.size=ys.size)(e:Nat->Bool) :
  Meets (Builtin.«list.__ne__» ⟨[.ref l,.ref b],[]⟩)
   (fun A R s=>(s.heap.get? l=some { cls:=.type "list",dict:=dl,data:=.seq xs n,slots:=sl }/\s.heap.get? b=some { cls:=.type "list",dict:=db,data:=.seq ys m,slots:=sb }) /\
    (∀j (h1:j<xs.size) (h2:j<ys.size),EqAt A.in1 s xs[j] ys[j] (e j))/\R (.ok (.ret (.bool (!(List.range xs.size).all e)))) s):=by
 intro prog w A R s ⟨⟨gl,gb⟩,he,h⟩
 obtain⟨hp,g,d,tk,os⟩:=s
 have f3:=AutoSeq1.sub_list_list
 have no:¬(xs.size != ys.size)=true:=by simp[hs]
 wp_walk using wpAny_loadPart' gl,wpAny_loadPart' gb
 refine⟨plainId_quiet plain_eq_loop _,codeAny_builtin entry_eq_loop ?_⟩
 rw[Around.under_plainId plain_eq_loop _]
 exact jX_ l b xs ys n m dl db sl sb hs e _ 0 rfl prog w A R _ ⟨⟨gl,gb⟩,he,by simpa using h⟩
theorem hI_(l b:Addr)(xs ys:Array Value)(n m:Nat)(dl db:Option Addr)(sl sb:Array (Option Value))(hs:(xs.size != ys.size)=true) :
  Meets (Builtin.«list.__ne__» ⟨[.ref l,.ref b],[]⟩)
   (fun A R s=>(s.heap.get? l=some { cls:=.type "list",dict:=dl,data:=.seq xs n,slots:=sl }/\s.heap.get? b=some { cls:=.type "list",dict:=db,data:=.seq ys m,slots:=sb })/\R (.ok (.ret (.bool true))) s):=
 .of_wp fun prog w A R s ⟨⟨gl,gb⟩,h⟩=>by
  obtain⟨hp,g,d,tk,os⟩:=s
  have f3:=AutoSeq1.sub_list_list
  wp_walk using wpAny_loadPart' gl,wpAny_loadPart' gb
  exact⟨_,rfl,h⟩
section
variable{prog:Program}{w:World}{A:Around}{E:Value->Shared->Prop}{s:Shared}
theorem ne_listAt{l b:Addr}{xs ys:Array Value}{e:Nat->Bool}{Q:Value->Shared->Prop}(hl:s.heap.IsList l xs)(hb:s.heap.IsList b ys)(hs:xs.size=ys.size)(hu:A.units<cLine)
  (he:∀j (h1:j<xs.size) (h2:j<ys.size),EqAt A.in1 s xs[j] ys[j] (e j)) (h:Q (.bool (!(List.range xs.size).all e)) s):wpAny (model prog w) A (compareOp .NotEq (.ref l) (.ref b)) Q E s:=by
 obtain⟨⟨c1,d1,t1,l1⟩,o1,k1,n1,z1⟩:=id hl
 obtain⟨⟨c2,d2,t2,l2⟩,o2,k2,n2,z2⟩:=id hb
 simp only at k1 z1 k2 z2
 subst k1 z1 k2 z2
 exact richCompare_meets_room (op:=.NotEq) ⟨_,o1,rfl⟩ ⟨_,o2,rfl⟩ F.slot_list_ne F.entry_list_ne (F.args_list_ne_2 _ _) (hr_ l b xs ys n1 n2 d1 d2 l1 l2 hs e) ⟨⟨o1,o2⟩,he,show Value.bool (!(List.range xs.size).all e)≠Value.notImplemented/\Q (.bool (!(List.range xs.size).all e)) s from ⟨(fun x=>nomatch x),h⟩⟩ hu
theorem ne_sizesAt{l b:Addr}{xs ys:Array Value}{Q:Value->Shared->Prop}(hl:s.heap.IsList l xs)(hb:s.heap.IsList b ys)(hs:(xs.size != ys.size)=true)(hu:A.units<cLine)(h:Q (.bool true) s):wpAny (model prog w) A (compareOp .NotEq (.ref l) (.ref b)) Q E s:=by
 obtain⟨⟨c1,d1,t1,l1⟩,o1,k1,n1,z1⟩:=id hl
 obtain⟨⟨c2,d2,t2,l2⟩,o2,k2,n2,z2⟩:=id hb
 simp only at k1 z1 k2 z2
 subst k1 z1 k2 z2
 exact richCompare_meets_room (op:=.NotEq) ⟨_,o1,rfl⟩ ⟨_,o2,rfl⟩ F.slot_list_ne F.entry_list_ne (F.args_list_ne_2 _ _) (hI_ l b xs ys n1 n2 d1 d2 l1 l2 hs) ⟨⟨o1,o2⟩,show Value.bool true≠Value.notImplemented/\Q (.bool true) s from ⟨(fun x=>nomatch x),h⟩⟩ hu
end
end EvN
set_option Elab.async false
set_option linter.all false
set_option maxRecDepth 100000
namespace L2
open PySem PySem.Spec PyProof.Rows PySem.W EvS EvD
abbrev Rp(D:Type):=Hp->V->D->Prop
structure Cmp (X:Cx) (n:Nat) {D:Type} [DecidableEq D] (R:Rp D):Prop where
 eq:∀{pins:List (Addr × Obj)} {σ:St} {H:Hp} {s:Shared} {A:Around} {x y:V} {u v:Value} {d e:D},Inv X pins σ H s->RelV x u->RelV y v->R H x d->R H y e->A.units+n<cLine->SeqAt.EqAt A s u v (decide (d=e))
 one:∀{pins:List (Addr × Obj)} {σ:St} {H:Hp} {s:Shared} {x:V} {d e:D},Inv X pins σ H s->R H x d->R H x e->d=e
def rS:Rp Str:=fun _ x d=>x=.str d
def rZ:Rp Int:=fun _ x d=>x=.int d
def r2(K:PySem.W.Frag){D1 D2:Type}(R1:Rp D1)(R2:Rp D2):Rp (D1 × D2):=fun H x d=>∃a u v,x=.ref a/\SqT K H a [u,v]/\R1 H u d.1/\R2 H v d.2
def rL(K:PySem.W.Frag){D:Type}(R:Rp D):Rp (List D):=fun H x ds=>∃a xs,x=.ref a/\SqL K H a xs/\Paired (R H) xs ds
section
variable{X:Cx}
theorem cmpS:Cmp X 0 rS where
 eq:=fun {pins σ H s A x y u v d e} I ru rv hx hy hu=>by
  have hx:x=.str d:=hx
  have hy:y=.str e:=hy
  subst hx
  subst hy
  have q:=eJ_ (A:=A) (s:=s) ru rv rfl rfl
  have e2:eqV (.str d) (.str e)=decide (d=e):=by
   show (d == e)=_
   by_cases h:d=e
   ·subst h;simp
   ·simp[h]
  rwa [e2] at q
 one:=fun {pins σ H s x d e} I hx hy=>by
  have hx:x=.str d:=hx
  have hy:x=.str e:=hy
  rw[hx] at hy
  exact V.str.inj hy
theorem cmpZ:Cmp X 0 rZ where
 eq:=fun {pins σ H s A x y u v d e} I ru rv hx hy hu=>by
  have hx:x=.int d:=hx
  have hy:y=.int e:=hy
  subst hx
  subst hy
  have q:=eJ_ (A:=A) (s:=s) ru rv rfl rfl
  have e2:eqV (.int d) (.int e)=decide (d=e):=by
   show (d == e)=_
   by_cases h:d=e
   ·subst h;simp
   ·simp[h]
  rwa [e2] at q
 one:=fun {pins σ H s x d e} I hx hy=>by
  have hx:x=.int d:=hx
  have hy:x=.int e:=hy
  rw[hx] at hy
  exact V.int.inj hy
theorem d2_{h:Heap}{a:Addr}{its:Array Value}(t:IsTup h a its):h.IsTuple a its:=t
theorem cmp2{n m:Nat}{D1 D2:Type}[DecidableEq D1][DecidableEq D2]{R1:Rp D1}{R2:Rp D2}(c1:Cmp X n R1)(c2:Cmp X m R2):Cmp X (max n m+1) (r2 X.K R1 R2) where
 one:=fun {pins σ H s x d e} I hx hy=>by
  obtain⟨a,u,v,rfl,t,q1,q2⟩:=hx
  obtain⟨b,u',v',e0,t',q1',q2'⟩:=hy
  cases e0
  have e1:=I.tuple_inj t t'
  cases e1
  exact Prod.ext (c1.one I q1 q1') (c2.one I q2 q2')
 eq:=fun {pins σ H s A x y u v d e} I ru rv hx hy hu=>by
  have hx':=hx
  have hy':=hy
  obtain⟨a,x1,x2,rfl,t,q1,q2⟩:=hx
  obtain⟨b,y1,y2,rfl,t',q1',q2'⟩:=hy
  cases ru
  cases rv
  by_cases hab:a=b
  ·subst hab
   have e1:=I.tuple_inj t t'
   cases e1
   have:d=e:=Prod.ext (c1.one I q1 q1') (c2.one I q2 q2')
   rw[decide_eq_true this]
   exact SeqAt.EqAt.same _
  ·obtain⟨its,r,it,_⟩:=I.tuple t
   obtain⟨its',r',it',_⟩:=I.tuple t'
   obtain⟨u1,u2,rfl,r1,r2⟩:=vals2 r
   obtain⟨w1,w2,rfl,r1',r2'⟩:=vals2 r'
   have key:=SeqAt.EqAt.of_refs hab (SeqAt.RcAt.tuples (A:=A) (s:=s) (e:=fun j=>if j=0 then decide (d.1=e.1) else decide (d.2=e.2)) (d2_ it) (d2_ it') (by omega) fun j h1 h2=>by
    match j,h1,h2 with
    |0,_,_=>exact c1.eq I r1 r1' q1 q1' (by show A.units+1+n<cLine;omega)
    |1,_,_=>exact c2.eq I r2 r2' q2 q2' (by show A.units+1+m<cLine;omega))
   have e3:((List.range (min [u1,u2].toArray.size [w1,w2].toArray.size)).all (fun j=>if j=0 then decide (d.1=e.1) else decide (d.2=e.2))&&[u1,u2].toArray.size == [w1,w2].toArray.size)=decide (d=e):=by
    show (decide (d.1=e.1)&&(decide (d.2=e.2)&&true)&&true)=_
    by_cases h1:d.1=e.1
    ·by_cases h2:d.2=e.2
     ·have:d=e:=Prod.ext h1 h2
      simp[this]
     ·have:¬d=e:=fun z=>h2 (by rw[z])
      simp[h1,h2,this]
    ·have:¬d=e:=fun z=>h1 (by rw[z])
     simp[h1,this]
   rw[e3] at key
   exact key
theorem ah_{α β:Type}{F:α->β->Prop}:∀{l:List α} {m:List β},Paired F l m->∀(i:Nat) (h1:i<l.length) (h2:i<m.length),F l[i] m[i]
 |_,_,.cons h t,0,_,_=>h
 |_,_,.cons h t,i+1,h1,h2=>ah_ t i (by simpa using h1) (by simpa using h2)
theorem ck_{D:Type}[DecidableEq D]:∀{ds es:List D},ds.length=es.length->((List.range ds.length).all fun j=>decide (ds[j]? = es[j]?))=decide (ds=es):=fun {ds es} hl=>by
 by_cases h:ds=es
 ·subst h
  simp
 ·rw[decide_eq_false h]
  have:∃i,i<ds.length/\ds[i]?≠es[i]?:=by
   refine Classical.byContradiction fun hn=>h ?_
   apply List.ext_getElem?
   intro i
   by_cases hi:i<ds.length
   ·exact Classical.byContradiction fun q=>hn ⟨i,hi,q⟩
   ·rw[List.getElem?_eq_none (by omega),List.getElem?_eq_none (by omega)]
  obtain⟨i,hi,q⟩:=this
  rw[List.all_eq_false]
  exact⟨i,by simpa using hi,by simpa using q⟩
theorem bZ_{D:Type}[DecidableEq D]{n:Nat}{R:Rp D}(c:Cmp X n R){pins:List (Addr × Obj)}{σ:St}{H:Hp}{s:Shared}(I:Inv X pins σ H s):∀{xs:List V} {ds es:List D},Paired (R H) xs ds->Paired (R H) xs es->ds=es
 |_,_,_,.nil,.nil=>rfl
 |_,_,_,.cons h t,.cons h' t'=>by rw[c.one I h h',bZ_ c I t t']
theorem eT_{D:Type}[DecidableEq D]{n:Nat}{R:Rp D}(c:Cmp X n R){pins:List (Addr × Obj)}{σ:St}{H:Hp}{s:Shared}{A:Around}(I:Inv X pins σ H s){xs ys:List V}{us vs:List Value}{ds es:List D}(ru:Vals xs us)(rv:Vals ys vs)(hx:Paired (R H) xs ds)(hy:Paired (R H) ys es)(hu:A.units+n<cLine) :
  ∀j (h1:j<us.toArray.size) (h2:j<vs.toArray.size),SeqAt.EqAt A s us.toArray[j] vs.toArray[j] (decide (ds[j]? = es[j]?)):=fun j h1 h2=>by
 have l1:=ru.length
 have l2:=rv.length
 have l3:=Paired.length hx
 have l4:=Paired.length hy
 simp only[List.size_toArray] at h1 h2
 have q:=c.eq (A:=A) I (ah_ ru j (by omega) h1) (ah_ rv j (by omega) h2) (ah_ hx j (by omega) (by omega)) (ah_ hy j (by omega) (by omega)) hu
 have e:decide (ds[j]? = es[j]?)=decide (ds[j]'(by omega)=es[j]'(by omega)):=by
  rw[List.getElem?_eq_getElem (by omega),List.getElem?_eq_getElem (by omega)]
  by_cases z:ds[j]'(by omega)=es[j]'(by omega)
  ·simp[z]
  ·simp[z]
 rw[e]
 exact q
theorem cmpL{n:Nat}{D:Type}[DecidableEq D]{R:Rp D}(c:Cmp X n R):Cmp X (n+1) (rL X.K R) where
 one:=fun {pins σ H s x d e} I hx hy=>by
  obtain⟨a,xs,rfl,t,q⟩:=hx
  obtain⟨b,ys,e0,t',q'⟩:=hy
  cases e0
  have e1:=I.list_inj t t'
  subst e1
  exact bZ_ c I q q'
 eq:=fun {pins σ H s A x y u v d e} I ru rv hx hy hu=>by
  obtain⟨a,xs,rfl,t,q⟩:=hx
  obtain⟨b,ys,rfl,t',q'⟩:=hy
  cases ru
  cases rv
  by_cases hab:a=b
  ·subst hab
   have e1:=I.list_inj t t'
   subst e1
   rw[decide_eq_true (bZ_ c I q q')]
   exact SeqAt.EqAt.same _
  ·obtain⟨us,r,pl,_⟩:=I.list t
   obtain⟨vs,r',pl',_⟩:=I.list t'
   have l1:=r.length
   have l2:=r'.length
   have l3:=Paired.length q
   have l4:=Paired.length q'
   by_cases hl:d.length=e.length
   ·have key:=SeqAt.EqAt.of_refs hab (SeqAt.RcAt.lists (A:=A) (s:=s) pl.isList pl'.isList (by simp only[List.size_toArray];omega) (by omega) (eT_ c I r r' q q' (A:=A.in1) (by show A.units+1+n<cLine;omega)))
    rw[show us.toArray.size=d.length by simp only[List.size_toArray];omega,ck_ hl] at key
    exact key
   ·rw[decide_eq_false (fun z=>hl (by rw[z]))]
    refine SeqAt.EqAt.of_refs hab (SeqAt.RcAt.lists_lengths (A:=A) (s:=s) pl.isList pl'.isList ?_ (by omega))
    simp only[List.size_toArray,bne_iff_ne]
    omega
def rEqD{D:Type}[DecidableEq D](R:Rp D)(neg:Bool):V->V->Hp->VK->Prop:=fun x y H Q=>∃d e,R H x d/\R H y e/\Q (.bl (if neg then !decide (d=e) else decide (d=e))) H
theorem jF_{n:Nat}{D:Type}[DecidableEq D]{R:Rp D}(c:Cmp X n R)(hu:X.A.units+n+1<cLine):OpR X (compareOp .NotEq) (rEqD (rL X.K R) true):=by
 intro pins s σ H x y v u Q I rx ry h
 obtain⟨d,e,⟨a,xs,rfl,t,q⟩,⟨b,ys,rfl,t',q'⟩,hq⟩:=h
 cases rx
 cases ry
 obtain⟨us,r,pl,_⟩:=I.list t
 obtain⟨vs,r',pl',_⟩:=I.list t'
 have l1:=r.length
 have l2:=r'.length
 have l3:=Paired.length q
 have l4:=Paired.length q'
 have hq:Q (.bl (!decide (d=e))) H:=hq
 by_cases hl:d.length=e.length
 ·refine EvN.ne_listAt pl.isList pl'.isList (by simp only[List.size_toArray];omega) (by omega) (eT_ c I r r' q q' (A:=X.A.in1) (by show X.A.units+1+n<cLine;omega)) ⟨.bl _,H,I,rfl,?_⟩
  rw[show us.toArray.size=d.length by simp only[List.size_toArray];omega,ck_ hl]
  exact hq
 ·refine EvN.ne_sizesAt pl.isList pl'.isList (by simp only[List.size_toArray,bne_iff_ne];omega) (by omega) ⟨.bl _,H,I,rfl,?_⟩
  rwa [decide_eq_false (fun z=>hl (by rw[z]))] at hq
def rInD(K:PySem.W.Frag){D:Type}[DecidableEq D](R:Rp D)(neg:Bool):V->V->Hp->VK->Prop:=fun x y H Q=>∃d es,R H x d/\rL K R H y es/\Q (.bl (if neg then !decide (d∈es) else decide (d∈es))) H
theorem jy_{D:Type}[DecidableEq D]{n:Nat}{R:Rp D}(c:Cmp X n R){pins:List (Addr × Obj)}{σ:St}{H:Hp}{s:Shared}{A:Around}(I:Inv X pins σ H s){x:V}{u:Value}{d:D}(ru:RelV x u)(hx:R H x d)(hu:A.units+n<cLine):∀{ys:List V} {vs:List Value} {es:List D},Vals ys vs->Paired (R H) ys es->
  ∃f:Value->Bool,(∀w∈vs,SeqAt.EqAt A s w u (f w))/\vs.any f=decide (d∈es):=fun {ys vs es} rv hy=>by
 let f:Value->Bool:=fun w=>@decide (∃y e,RelV y w/\R H y e/\e=d) (Classical.propDecidable _)
 have sound:∀y w e,RelV y w->R H y e->f w=decide (e=d):=fun y w e h1 h2=>by
  by_cases z:e=d
  ·rw[decide_eq_true z]
   exact @decide_eq_true _ (Classical.propDecidable _) ⟨y,e,h1,h2,z⟩
  ·rw[decide_eq_false z]
   refine @decide_eq_false _ (Classical.propDecidable _) fun⟨y',e',g1,g2,g3⟩=>z ?_
   have:y'=y:=RelV.inj g1 h1
   subst this
   rw[<- g3]
   exact c.one I h2 g2
 refine⟨f,?_,?_⟩
 ·induction rv generalizing es with
  |nil=>exact fun w hw=>nomatch hw
  |cons h t ih=>
   cases hy with
   |cons g t'=>
    intro w hw
    rcases List.mem_cons.mp hw with rfl|hw
    ·rw[sound _ _ _ h g]
     exact c.eq I h ru g hx hu
    ·exact ih t' w hw
 ·induction rv generalizing es with
  |nil=>
   cases hy
   simp
  |cons h t ih=>
   cases hy with
   |@cons _ e _ es g t'=>
    rw[List.any_cons,ih t',sound _ _ _ h g]
    by_cases z:e=d
    ·subst z
     simp
    ·by_cases z2:d∈es
     ·simp[z2]
     ·have:¬d∈e::es:=fun q=>by
       rcases List.mem_cons.mp q with q|q
       ·exact z q.symm
       ·exact z2 q
      rw[decide_eq_false z,decide_eq_false z2,decide_eq_false this]
      rfl
theorem i9_{n:Nat}{D:Type}[DecidableEq D]{R:Rp D}(c:Cmp X n R)(hu:X.A.units+n+1<cLine):OpR X (compareOp .In) (rInD X.K R false):=by
 intro pins s σ H x y v u Q I rx ry h
 obtain⟨d,es,hx,⟨a,ys,rfl,t,q⟩,hq⟩:=h
 cases ry
 obtain⟨us,r,pl,_⟩:=I.list t
 obtain⟨f,h1,h2⟩:=jy_ c I (A:=X.A.in1) rx hx (by show X.A.units+1+n<cLine;omega) r q
 refine SeqAt.in_listAt f pl.isList (fun w hw=>h1 w (by simpa using hw)) ⟨.bl _,H,I,rfl,?_⟩
 rw[show us.toArray.any f=us.any f by simp,h2]
 exact hq
end
end L2
set_option Elab.async false
set_option linter.all false
set_option maxRecDepth 100000
namespace L2
open PySem PySem.Spec PyProof.Rows PySem.W EvS EvD
section
variable{X:Cx}
def rIsi(K:PySem.W.Frag):List V->Hp->VK->Prop:=fun xs H Q=>∃x T t b,xs=[x,.ty T]/\TyOf K H x t/\PySem.W.kitOne K t (.type T)=some b/\Q (.bl b) H
theorem aK_:CallR X (.builtin "isinstance") (rIsi X.K):=by
 intro pins s σ H xs us Q I r h
 obtain⟨x,T,t,b,rfl,ty,e,q⟩:=h
 obtain⟨u,w',rfl,ru,rw'⟩:=vals2 r
 cases (show w'=Value.type T from rw')
 exact dF_ I ru ty e fun tk=>⟨.bl b,H,I.tok tk,rfl,q⟩
theorem dD_:OpR X (compareOp .LtE) (fun x y H Q=>∃i j,x=.str i/\y=.str j/\Q (.bl (!decide (j.cps.toList<i.cps.toList))) H):=by
 intro pins s σ H x y v u Q I rx ry h
 obtain⟨i,j,rfl,rfl,q⟩:=h
 obtain⟨t,rfl⟩:=rx
 obtain⟨t',rfl⟩:=ry
 exact PySem.P.le_str ⟨.bl _,H,I,rfl,q⟩
def tView(mk:Addr->Addr->HO)(td:TE):TE:=fun σ H Q=>td σ H fun x H1=>∃d kvs,x=.ref d/\H1 d=some (.dK kvs)/\∀v,H1 v=none->Q (.ref v) (upd H1 v (mk v d))
theorem gT_{pins:List (Addr × Obj)}{σ:St}{H:Hp}{s:Shared}{d:Addr}{cls:String}(I:Inv X pins σ H s)(φ:Heap->Prop)(hφ:φ (s.heap.push { cls:=.type cls,data:=.fields #[.ref d] }))(hs:∀h1 h2:Heap,φ h1->(∀o,h1.get? s.heap.objs.size=some o->h2.get? s.heap.objs.size=some o)->φ h2) :
  Inv X pins σ (upd H s.heap.objs.size (.ext φ)) { s with heap:=s.heap.push { cls:=.type cls,data:=.fields #[.ref d] } }:=
 I.laid (t':=s.toks) (fun _ _ q=>Heap.get?_push_of_some _ q) (Nat.le_refl _) ⟨hφ,⟨_,Heap.get?_push_size _ rfl⟩,hs⟩
theorem aZ_{o:Expr}{td:TE}{apos cpos:Pos}(ho:PE X o td)(hbase:attributeBase o "items" X.env (eval o X.env)=eval o X.env:=by rfl)(hline:(apos.endLine == cpos.line)=true:=by rfl):PE X (.Call (.Attribute o "items" apos) [] [] cpos) (tView itemsV td):=by
 intro pins s σ H Q I h
 refine wpAny_Call_method0_late hbase hline (thn (ho pins s σ H _ I h) fun v s1 ⟨x,H1,I1,r1,d,kvs,e,hd,q⟩=>?_)
 subst e
 cases r1
 obtain⟨t1,t2,t3⟩:=ie_ I1 (.inl ⟨kvs,.inl hd⟩)
 obtain⟨_,_,vs,rel,dd⟩:=ej_ I1.hok hd
 refine⟨"dict","dict.items",PySem.F.plainAttrs_dict,PySem.F.slot_dict_items,PySem.F.type_dict_items,t1,t2,Calls.callWith_builtin rfl (PySem.evalArgs_none ?_)⟩
 refine call_meetsIn PySem.F.slot_dict_items t1 PySem.F.entry_dict_items (PySem.F.args_dict_items_1 _) (meets_dict_items (mixKind X.prog X.w) d t3) ⟨⟨vs,dd⟩,?_⟩
 exact⟨.ref _,_,gT_ I1 _ ⟨_,Heap.get?_push_size _ rfl,rfl,rfl⟩ fun h1 h2 ⟨o,e,r⟩ k=>⟨o,k o e,r⟩,rfl,q _ I1.fresh⟩
theorem bR_{o:Expr}{td:TE}{apos cpos:Pos}(ho:PE X o td)(hbase:attributeBase o "values" X.env (eval o X.env)=eval o X.env:=by rfl)(hline:(apos.endLine == cpos.line)=true:=by rfl):PE X (.Call (.Attribute o "values" apos) [] [] cpos) (tView valuesV td):=by
 intro pins s σ H Q I h
 refine wpAny_Call_method0_late hbase hline (thn (ho pins s σ H _ I h) fun v s1 ⟨x,H1,I1,r1,d,kvs,e,hd,q⟩=>?_)
 subst e
 cases r1
 obtain⟨t1,t2,t3⟩:=ie_ I1 (.inl ⟨kvs,.inl hd⟩)
 obtain⟨_,_,vs,rel,dd⟩:=ej_ I1.hok hd
 refine⟨"dict","dict.values",PySem.F.plainAttrs_dict,PySem.F.slot_dict_values,PySem.F.type_dict_values,t1,t2,Calls.callWith_builtin rfl (PySem.evalArgs_none ?_)⟩
 refine call_meetsIn PySem.F.slot_dict_values t1 PySem.F.entry_dict_values (PySem.F.args_dict_values_1 _) (meets_dict_values (mixKind X.prog X.w) d t3) ⟨⟨vs,dd⟩,?_⟩
 exact⟨.ref _,_,gT_ I1 _ ⟨_,Heap.get?_push_size _ rfl,rfl,rfl⟩ fun h1 h2 ⟨o,e,r⟩ k=>⟨o,k o e,r⟩,rfl,q _ I1.fresh⟩
end
section
variable{X:Cx}{pins:List (Addr × Obj)}{σ:St}{H:Hp}{s:Shared}{d:Addr}{kvs:List (Key × V)}
theorem Inv.freeze(I:Inv X pins σ H s)(h:H d=some (.dK kvs)):∃o,s.heap.get? d=some o/\Inv X pins σ (upd H d (.frz o (.dK kvs))) s:=by
 obtain⟨z,hd,vs,rel,dd⟩:=ej_ I.hok h
 obtain⟨o,es,ep,ho,r⟩:=id dd
 have other:∀{b u},H b=some u->u≠.dK kvs->upd H d (.frz o (.dK kvs)) b=some u:=fun {b u} e ne=>by rw[a7_ (az_ e h ne)];exact e
 refine⟨o,ho,I.un (h':=s.heap) (t':=s.toks) ⟨fun b u q _ _ _=>q,fun b u q _ _ _=>⟨u.slots,q⟩,fun b u q n _=>?_,fun b u q _=>⟨u,q⟩,fun b xs q=>other q (by simp),fun b u v q=>other q (by simp),fun b ps q=>⟨#[],by rw[Array.append_empty];exact other q (by simp)⟩⟩ fun b u q=>?_⟩
 ·by_cases e:b=d
  ·subst e;rw[h] at n;cases n
  ·rw[a7_ e];exact n
 ·by_cases e:b=d
  ·subst e
   rw[a1_] at q
   cases q
   exact⟨ho,z,hd,vs,rel,dd⟩
  ·rw[a7_ e] at q
   exact (I.hok b u q).stay (fun c v _ z=>z) (fun c z=>other z (by simp)) fun c xs z=>other z (by simp)
theorem Inv.thaw{o:Obj}(I:Inv X pins σ H s)(h:H d=some (.frz o (.dK kvs)))(h0:∀o u,X.H₀ d≠some (.frz o u)):Inv X pins σ (upd H d (.dK kvs)) s:=by
 have other:∀{b u},H b=some u->(∀o v,u≠.frz o v)->upd H d (.dK kvs) b=some u:=fun {b u} e ne=>by rw[a7_ (az_ e h (ne _ _))];exact e
 have none':∀{b},H b=none->upd H d (.dK kvs) b=none:=fun {b} e=>by
  rw[a7_ (fun z=>by subst z;rw[h] at e;cases e)];exact e
 refine⟨I.ok,I.os,I.bare,⟨I.base.keep,I.base.slot,fun b u q n hx=>none' (I.base.free b u q n hx),I.base.there,fun b xs q=>other (I.base.tups b xs q) (by simp),fun b u v q=>?_,fun b ps q=>?_⟩,I.loc,I.cell,none' I.free,fun x c e=>none' (I.freeC x c e),fun p hp=>?_,fun b u q=>?_,I.len⟩
 ·have:=I.base.frzs b u v q
  rw[a7_ (fun z=>by subst z;exact h0 _ _ q)]
  exact this
 ·obtain⟨more,e⟩:=I.base.tbls b ps q
  exact⟨more,other e (by simp)⟩
 ·obtain⟨a1,a2,a3⟩:=I.pin p hp
  exact⟨a1,none' a2,a3⟩
 ·by_cases e:b=d
  ·subst e
   rw[a1_] at q
   cases q
   obtain⟨ho,z,hd,vs,rel,dd⟩:=I.hok b _ h
   exact⟨z,hd,vs,rel,dd⟩
  ·rw[a7_ e] at q
   exact (I.hok b u q).stay (fun c v _ z=>z) (fun c z=>other z (by simp)) fun c xs z=>other z (by simp)
end
def tThaw(t:TE):TE:=fun σ H Q=>∃d kvs,H d=some (.dK kvs)/\t σ H fun v H1=>∃o,H1 d=some (.frz o (.dK kvs))/\Q v (upd H1 d (.dK kvs))
theorem j8_{X:Cx}{e:Expr}{t:TE}(h:PE X e t):PE X e (tThaw t):=by
 intro pins s σ H Q I q
 obtain⟨d,kvs,hd,q⟩:=q
 refine thn (h pins s σ H _ I q) fun u s' ⟨v,H1,I1,r,o,hf,q1⟩=>⟨v,_,I1.thaw hf (fun o u z=>?_),r,q1⟩
 have:=I.base.frzs _ _ _ z
 rw[hd] at this
 cases this
def Itv(d:Addr)(o:Obj)(kvs:List (Key × V)):It:=⟨fun i H=>H d=some (.frz o (.dK kvs))/\i<kvs.length,fun i H x H'=>H'=H/\∃k,kvs[i]? = some (k,x),fun i H=>H d=some (.frz o (.dK kvs))/\kvs.length<=i⟩
theorem b2_{X:Cx}{pins:List (Addr × Obj)}{σ:St}{H:Hp}{s:Shared}{d:Addr}{kvs:List (Key × V)}{o:Obj}{es:Array DictEntry}{ep:Nat}(I:Inv X pins σ H s)(h:H d=some (.frz o (.dK kvs)))(ho:o.data=.dict es ep):∃vs,KV kvs vs/\s.heap.DictAt (mixKind X.prog X.w) d vs ep:=by
 obtain⟨e,z,hd,vs,rel,o',es',ep',e',c',d',r⟩:=I.hok d _ h
 rw[e] at e'
 cases e'
 rw[ho] at d'
 cases d'
 exact⟨vs,rel,o,es,e,c',ho,r⟩
theorem dM_{κ:Type}{kvs:List (κ × V)}{vs:List (κ × Value)}(r:KV kvs vs):∀(i:Nat) {k:κ} {x:V},kvs[i]? = some (k,x)->∃u,vs[i]? = some (k,u)/\RelV x u:=by
 induction r with
 |nil=>intro i k x e;simp at e
 |@cons p q _ _ h _ ih=>
  intro i k x e
  cases i with
  |zero=>
   have e:p=(k,x):=by simpa using e
   subst e
   refine⟨q.2,?_,h.2⟩
   rw[List.getElem?_cons_zero]
   have h1:k=q.1:=h.1
   rw[h1]
  |succ i=>exact ih i (by simpa using e)
theorem ge_{P:Program}{w:World}{K:PySem.W.Frag}{tg:Expr}(d it:Addr)(o:Obj)(kvs:List (Key × V)){es:Array DictEntry}{ep:Nat}(ho:o.data=.dict es ep):Turn P w K tg (Itv d o kvs) [it] it (fun i h=>h.IsValIter it d i kvs.length ep) where
 mem:=by simp
 obj:=fun i h st b hb=>by
  obtain rfl:b=it:=by simpa using hb
  obtain⟨o,e,c,d⟩:=st
  exact⟨o,e,fun v z=>by rw[d] at z;cases z⟩
 keep:=fun i h h' st k=>st.at fun o e=>k it (by simp) o e
 item:=by
  intro X hP hw hK hc i pins s σ H E I hf st hg
  subst hP hw hK
  obtain⟨hd,hi⟩:=hg
  obtain⟨vs,rel,dat⟩:=b2_ I hd ho
  obtain⟨⟨k,x⟩,hx⟩:∃p,kvs[i]? = some p:=⟨kvs[i],by simp[hi]⟩
  obtain⟨u,hu,ru⟩:=dM_ rel i hx
  obtain⟨f0,f1,f2,f3,f4,f5⟩:=hf it (by simp)
  rw[rel.length] at st
  refine wpAny_pyNext_values_item st dat hu fun h' st' sb=>?_
  have I1:Inv X pins σ H { s with heap:=h' }:=I.turned (t':=s.toks) (fun b o hb e=>(sb.2 b hb).trans e) f0 f1 f3 f4 f5
  obtain⟨o',e,c,dd⟩:=id st'
  refine⟨u,rfl,fK_ (s:={ s with heap:=h' }) e c dd (by decide) ⟨x,H,I1,ru,⟨rfl,k,hx⟩,?_,fun b hb=>(hf b hb).1⟩⟩
  show h'.IsValIter it d (i+1) kvs.length ep
  rw[rel.length]
  exact st'
 done:=by
  intro X hP hw hK hc i pins s σ H E I hf st hg
  subst hP hw hK
  obtain⟨hd,hi⟩:=hg
  obtain⟨vs,rel,dat⟩:=b2_ I hd ho
  obtain⟨f0,f1,f2,f3,f4,f5⟩:=hf it (by simp)
  rw[rel.length] at st hi
  exact wpAny_pyNext_values_end (I.ok.hd hc) st dat (by simp;omega) fun h' eb=>⟨rfl,I.turned (t':=s.toks) (fun b o hb e=>eb b o hb e) f0 f1 f3 f4 f5⟩
 self:=fun _ _ _ _ _ st h=>wpAny_pyIter_valiter st h
def iVals(tv:TE):TI:=fun σ H R=>tv σ H fun x H1=>∃v d kvs,x=.ref v/\H1 v=some (valuesV v d)/\H1 d=some (.dK kvs)/\∀o,R (Itv d o kvs) (upd H1 d (.frz o (.dK kvs)))
theorem iB_{X:Cx}{tg e:Expr}{tv:TE}(he:PE X e tv):PI X tg e (iVals tv):=by
 intro pins s σ H R I h
 refine thn (he pins s σ H _ I h) fun u s1 ⟨x,H1,I1,r1,v,d,kvs,ex,hv,hd,q⟩=>?_
 subst ex
 cases r1
 obtain⟨iv,_,_⟩:=I1.hok v _ hv
 obtain⟨o,ho,I2⟩:=I1.freeze hd
 obtain⟨z,_,vs,rel,o',es,ep,ho',c',dt,r⟩:=ej_ I1.hok hd
 rw[ho] at ho'
 cases ho'
 have hne:v≠d:=az_ hv hd (by intro z;cases z)
 refine wpAny_pyIter_values (knd:=mixKind X.prog X.w) (kvs:=vs) (ep:=ep) iv ⟨o,es,ho,c',dt,r⟩ ?_
 refine⟨s1.heap.objs.size,[s1.heap.objs.size],_,_,_,rfl,I2.kept (t':=s1.toks) fun b o e=>Heap.get?_push_of_some _ e,ge_ d _ o kvs dt,?_,fun b hb=>?_,q o⟩
 ·rw[rel.length]
  exact⟨_,Heap.get?_push_size _ rfl,rfl,rfl⟩
 ·obtain rfl:b=s1.heap.objs.size:=by simpa using hb
  exact I2.fpOk (Nat.le_refl _) (I2.hok.fresh (Nat.le_refl _))
def Its(x:Str):It:=⟨fun i _=>i<x.cps.size,fun i H v H'=>H'=H/\∃c,x.cps[i]? = some c/\v=.str ⟨#[c]⟩,fun i _=>x.cps.size<=i⟩
theorem fA_{P:Program}{w:World}{K:PySem.W.Frag}{tg:Expr}(it:Addr)(x:Str)(t:Tok):Turn P w K tg (Its x) [it] it (fun i h=>i<=x.cps.size/\h.IsStrIter it "str_ascii_iterator" x t i) where
 mem:=by simp
 obj:=fun i h st b hb=>by
  obtain rfl:b=it:=by simpa using hb
  obtain⟨o,e,c,d⟩:=st.2
  exact⟨o,e,fun v z=>by rw[d] at z;cases z⟩
 keep:=fun i h h' st k=>⟨st.1,let ⟨o,ho,r⟩:=st.2;⟨o,k it (by simp) o ho,r⟩⟩
 item:=by
  intro X hP hw hK hc i pins s σ H E I hf st hg
  subst hP hw hK
  have hg:i<x.cps.size:=hg
  obtain⟨f0,f1,f2,f3,f4,f5⟩:=hf it (by simp)
  refine wpAny_pyNext_ascii_item st.2 (c:=x.cps[i]) (by simp[hg]) fun h' st' sb=>?_
  have I1:Inv X pins σ H { s with heap:=h',toks:=s.toks+1 }:=I.turned (t':=s.toks+1) (fun b o hb e=>(sb.2 b hb).trans e) f0 f1 f3 f4 f5
  obtain⟨o',e,c,dd⟩:=id st'
  exact⟨_,rfl,fK_ (s:={ s with heap:=h',toks:=s.toks+1 }) e c dd (by decide) ⟨.str ⟨#[x.cps[i]]⟩,H,I1,⟨_,rfl⟩,⟨rfl,_,by simp[hg],rfl⟩,⟨hg,st'⟩,fun b hb=>(hf b hb).1⟩⟩
 done:=by
  intro X hP hw hK hc i pins s σ H E I hf st hg
  subst hP hw hK
  have hg:x.cps.size<=i:=hg
  obtain⟨f0,f1,f2,f3,f4,f5⟩:=hf it (by simp)
  exact wpAny_pyNext_ascii_end (I.ok.hd hc) st.2 (by simp[hg]) fun h' eb=>⟨rfl,I.turned (t':=s.toks) (fun b o hb e=>eb b o hb e) f0 f1 f3 f4 f5⟩
 self:=fun _ _ _ _ _ st h=>wpAny_pyIter_striter_ascii st.2 h
theorem gf_{P:Program}{w:World}{K:PySem.W.Frag}{tg:Expr}(it:Addr)(x:Str)(t:Tok):Turn P w K tg (Its x) [it] it (fun i h=>i<=x.cps.size/\h.IsStrIter it "str_iterator" x t i) where
 mem:=by simp
 obj:=fun i h st b hb=>by
  obtain rfl:b=it:=by simpa using hb
  obtain⟨o,e,c,d⟩:=st.2
  exact⟨o,e,fun v z=>by rw[d] at z;cases z⟩
 keep:=fun i h h' st k=>⟨st.1,let ⟨o,ho,r⟩:=st.2;⟨o,k it (by simp) o ho,r⟩⟩
 item:=by
  intro X hP hw hK hc i pins s σ H E I hf st hg
  subst hP hw hK
  have hg:i<x.cps.size:=hg
  obtain⟨f0,f1,f2,f3,f4,f5⟩:=hf it (by simp)
  refine wpAny_pyNext_wide_item st.2 (c:=x.cps[i]) (by simp[hg]) fun h' st' sb=>?_
  have I1:Inv X pins σ H { s with heap:=h',toks:=s.toks+1 }:=I.turned (t':=s.toks+1) (fun b o hb e=>(sb.2 b hb).trans e) f0 f1 f3 f4 f5
  obtain⟨o',e,c,dd⟩:=id st'
  exact⟨_,rfl,fK_ (s:={ s with heap:=h',toks:=s.toks+1 }) e c dd (by decide) ⟨.str ⟨#[x.cps[i]]⟩,H,I1,⟨_,rfl⟩,⟨rfl,_,by simp[hg],rfl⟩,⟨hg,st'⟩,fun b hb=>(hf b hb).1⟩⟩
 done:=by
  intro X hP hw hK hc i pins s σ H E I hf st hg
  subst hP hw hK
  have hg:x.cps.size<=i:=hg
  obtain⟨f0,f1,f2,f3,f4,f5⟩:=hf it (by simp)
  exact wpAny_pyNext_wide_end (I.ok.hd hc) st.2 (by simp[hg]) fun h' eb=>⟨rfl,I.turned (t':=s.toks) (fun b o hb e=>eb b o hb e) f0 f1 f3 f4 f5⟩
 self:=fun _ _ _ _ _ st h=>wpAny_pyIter_striter_wide st.2 h
def iStr(tl:TE):TI:=fun σ H R=>tl σ H fun v H1=>∃x,v=.str x/\R (Its x) H1
theorem jB_{X:Cx}{tg l:Expr}{tl:TE}(hl:PE X l tl):PI X tg l (iStr tl):=by
 intro pins s σ H R I h
 refine thn (hl pins s σ H _ I h) fun v s1 ⟨y,H1,I1,r1,x,e,q⟩=>?_
 subst e
 obtain⟨t,rfl⟩:=r1
 have fp:∀b∈[s1.heap.objs.size],FpOk X pins H1 b:=fun b hb=>by
  obtain rfl:b=s1.heap.objs.size:=by simpa using hb
  exact I1.fpOk (Nat.le_refl _) (I1.hok.fresh (Nat.le_refl _))
 cases ha:x.cps.all (· < 128)
 ·refine wpAny_pyIter_wide ha ?_
  exact⟨s1.heap.objs.size,[s1.heap.objs.size],_,_,H1,rfl,I1.kept (t':=s1.toks) fun b o e=>Heap.get?_push_of_some _ e,gf_ _ x t,⟨Nat.zero_le _,_,Heap.get?_push_size _ rfl,rfl,rfl⟩,fp,q⟩
 ·refine wpAny_pyIter_ascii ha ?_
  exact⟨s1.heap.objs.size,[s1.heap.objs.size],_,_,H1,rfl,I1.kept (t':=s1.toks) fun b o e=>Heap.get?_push_of_some _ e,fA_ _ x t,⟨Nat.zero_le _,_,Heap.get?_push_size _ rfl,rfl,rfl⟩,fp,q⟩
end L2
namespace L2
open PySem PySem.Spec PyProof.Rows PySem.W EvS EvD
theorem opK{X:Cx}{f:Value->Value->Sem Value}{K:PySem.W.Frag}(r:PySem.W.Frag->R2)(h:OpR X f (r X.K))(hK:X.K=K:=by rfl):OpR X f (r K):=by
 subst hK
 exact h
theorem ixK{X:Cx}{K:PySem.W.Frag}(r:PySem.W.Frag->R2)(h:IxR X (r X.K))(hK:X.K=K:=by rfl):IxR X (r K):=by
 subst hK
 exact h
theorem b9_{X:Cx}{N:List Str}{scope:Scope}{fp:List Addr}{s:Shared}{H:Hp}{es:List Expr}{k:Nat}{pos:Pos}{t:TGs}{n:Nat}(h:PGs (cxComp X N scope fp s H) es t)(hc:X.calm=true:=by rfl)
  (hn:(assignEach es (cxComp X N scope fp s H).env).length=n:=by rfl) (hst:(assignEach es (cxComp X N scope fp s H).env).findIdx? (·.1)=none:=by rfl):PG (cxComp X N scope fp s H) (.Tuple es k pos) (gTup X.K n t):=bH_ (X:=cxComp X N scope fp s H) hc h hn hst
end L2
set_option Elab.async false
set_option linter.all false
set_option maxRecDepth 100000
namespace Ev
open PySem L2
def top(i:Nat):Stmt:=PySem.Challenge.pw_evenpieces_k17_whole_stands_put_otherwis.main.body.getD i (.Pass ⟨0,0,0,0⟩)
abbrev sIsW:Stmt:=top 10
abbrev sWhole:Stmt:=top 11
abbrev sName:Stmt:=top 12
abbrev sLesser:Stmt:=top 13
abbrev sPair:Stmt:=top 14
abbrev sSorted:Stmt:=top 15
abbrev sAnew:Stmt:=top 16
abbrev sHand:Stmt:=top 38
abbrev sStr:Stmt:=top 39
abbrev sTies:Stmt:=top 40
abbrev sNear:Stmt:=top 41
abbrev sWeb:Stmt:=top 42
def ltS(a b:Str):Bool:=decide (a.cps.toList<b.cps.toList)
def ord2(a b:Str):Str × Str:=if ltS a b=true then (a,b) else (b,a)
section
variable{P:Program}{w:World}{K:PySem.W.Frag}{mg:Str->Option Value}{base:Heap}
theorem scLesser:FnScope ["one","other"] ["one","other"] (defScope sLesser):=⟨rfl,rfl,rfl,by decide +kernel,rfl,by decide +kernel,by decide +kernel⟩
def spLesser:Sp:=fun vs H Q _=>∃a b,vs=[.str a,.str b]/\∀t,H t=none->Q (.ref t) (upd H t (.tup [.str (ord2 a b).1,.str (ord2 a b).2]))
theorem gb_{f:Addr}{fd:FuncData}(F:Fun K "lesser_first" "lesser_first" sLesser f fd):FnOk P w K mg base CX0 1 f fd ["one","other"] spLesser:=by
 refine F.ok scLesser (fun vs H Q E h=>?_) (fun cdv A outer s H vs Q E hr h=>?_)
 ·obtain⟨a,b,rfl,_⟩:=h
  rfl
 ·obtain⟨a,b,rfl,k⟩:=h
  refine⟨_,a5_ (ad_ (fo_ (ap_ gV_ (pv 0) (pv 1) (nomark _)) (aO_ (a0_ (pv 0) (a0_ (pv 1) a2_))) (aO_ (a0_ (pv 1) (a0_ (pv 0) a2_))))),?_⟩
  refine⟨_,rfl,_,rfl,a,b,rfl,rfl,_,rfl,?_⟩
  refine ite2 (fun c=>?_) (fun c=>?_)
  ·refine⟨_,rfl,_,rfl,by show 2<=sizeLine;decide,fun t ht=>?_⟩
   have:=k t ht
   rwa [show ord2 a b=(a,b) from if_pos c] at this
  ·refine⟨_,rfl,_,rfl,by show 2<=sizeLine;decide,fun t ht=>?_⟩
   have:=k t ht
   rwa [show ord2 a b=(b,a) from if_neg c] at this
theorem scWhole:FnScope ["thing","least","most"] ["thing","least","most"] (defScope sWhole):=⟨rfl,rfl,rfl,by decide +kernel,rfl,by decide +kernel,by decide +kernel⟩
def spWhole:Sp:=fun vs H Q _=>∃i a b:Int,vs=[.int i,.int a,.int b]/\Q (.bl (decide (a<=i)&&decide (i<=b))) H
structure Bi (mg:Str->Option Value):Prop where
 isi:mg "isinstance"=none
 int:mg "int"=none
 bool:mg "bool"=none
 str:mg "str"=none
 tuple:mg "tuple"=none
 list:mg "list"=none
 dict:mg "dict"=none
 len:mg "len"=none
 all:mg "all"=none
 sorted:mg "sorted"=none
 max:mg "max"=none
 range:mg "range"=none
 any:mg "any"=none
 enum:mg "enumerate"=none
structure Cal (P:Program) (w:World) (K:PySem.W.Frag) (mg:Str->Option Value) (base:Heap) (k:Nat) (x:Str) (ps:List Str) (sp:Sp):Prop where
 ex:∃f fd,FnOk P w K mg base CX0 k f fd ps sp/\mg x=some (.ref f)/\PySem.W.keepIn K (.ref f)=true/\Binds K fd ps []
theorem a9_{X:Cx}{k:Nat}{x:Str}{ps:List Str}{sp:Sp}{p pos:Pos}{e:Expr}{es:List Expr}{t:TA}(c:Cal X.prog X.w X.K X.mg X.base k x ps sp)(hr:Room k X.A)(ha:PA X (e::es) t)(hg:Gl X x:=by rfl)(hdb:(x == ("__debug__":Str))=false:=by decide)
  (he:starEach (e::es) X.env=(false,eval e X.env)::starEach es X.env:=by rfl) (hpl:(backTo pos (starEach es X.env)).any (·.1)=false:=by rfl):PE X (.Call (.Name x p) (e::es) [] pos) (tCall sp [] E0 t):=by
 obtain⟨f,fd,F,m,kp,b⟩:=c.ex
 exact iR_ F hr hg m kp b .nil pass0 ha hdb he hpl
theorem scIsW:FnScope ["thing"] ["thing"] (defScope sIsW):=⟨rfl,rfl,rfl,by decide +kernel,rfl,by decide +kernel,by decide +kernel⟩
def spIsW:Sp:=fun vs H Q _=>∃i:Int,vs=[.int i]/\Q (.bl true) H
theorem jv_{f:Addr}{fd:FuncData}(F:Fun K "is_whole" "is_whole" sIsW f fd)(B:Bi mg):FnOk P w K mg base CX0 1 f fd ["thing"] spIsW:=by
 refine F.ok scIsW (fun vs H Q E h=>?_) (fun cdv A outer s H vs Q E hr h=>?_)
 ·obtain⟨i,rfl,_⟩:=h
  rfl
 ·obtain⟨i,rfl,k⟩:=h
  refine⟨_,a5_ (ad_ (bE_ (ac_ aK_ (by rfl) B.isi PyProof.Rows.Boot.«isinstance» (a0_ (pv 0) (a0_ (aT_ (v:=.ty "int") (by rfl) B.int PyProof.Rows.Boot.«int» rfl) a2_))) (cf_ (jO_ (ac_ aK_ (by rfl) B.isi PyProof.Rows.Boot.«isinstance» (a0_ (pv 0) (a0_ (aT_ (v:=.ty "bool") (by rfl) B.bool PyProof.Rows.Boot.«bool» rfl) a2_))))))),?_⟩
  exact⟨_,rfl,_,_,_,_,rfl,.int i,rfl,_,rfl,iteT ⟨_,rfl,_,_,_,_,rfl,.int i,rfl,_,rfl,k⟩⟩
theorem hB_{f:Addr}{fd:FuncData}(F:Fun K "is_whole_within" "is_whole_within" sWhole f fd)(cI:Cal P w K mg base 1 "is_whole" ["thing"] spIsW):FnOk P w K mg base CX0 2 f fd ["thing","least","most"] spWhole:=by
 refine F.ok scWhole (fun vs H Q E h=>?_) (fun cdv A outer s H vs Q E hr h=>?_)
 ·obtain⟨i,a,b,rfl,_⟩:=h
  rfl
 ·obtain⟨i,a,b,rfl,k⟩:=h
  refine⟨_,a5_ (ad_ (bE_ (a9_ cI hr (a0_ (pv 0) a2_)) (cf_ (f5_ fw_ fw_ (pv 1) (pv 0) (pv 2))))),?_⟩
  refine⟨_,rfl,i,rfl,_,rfl,iteT ?_⟩
  refine⟨_,rfl,_,rfl,_,_,rfl,rfl,_,rfl,?_⟩
  refine ite2 (fun c=>?_) (fun c=>?_)
  ·refine⟨_,rfl,_,_,rfl,rfl,?_⟩
   rw[c] at k
   exact k
  ·rw[show decide (a<=i)=false by simpa using c] at k
   exact k
def okc(c:Nat):Bool:=decide (97<=c)&&decide (c<=122)
def nameB(x:Str):Bool:=decide (1<=x.length)&&decide (x.length<=8)&&x.cps.toList.all okc
theorem scName:FnScope ["thing"] ["thing"] (defScope sName):=⟨rfl,rfl,rfl,by decide +kernel,rfl,by decide +kernel,by decide +kernel⟩
def spName:Sp:=fun vs H Q _=>∃x:Str,vs=[.str x]/\x.length<=100000/\∀H',Same H H'->Q (.bl (nameB x)) H'
theorem j5_{c:Nat}:(!decide ((⟨#[c]⟩:Str).cps.toList<("a":Str).cps.toList))=decide (97<=c):=by
 have e:("a":Str).cps.toList=[97]:=by decide +kernel
 rw[e]
 show (!decide ([c] < [97]))=decide (97<=c)
 by_cases h:97<=c
 ·have:¬[c] < [97]:=by simp[List.cons_lt_cons_iff];omega
  simp[this,h]
 ·have:[c] < [97]:=by simp[List.cons_lt_cons_iff];omega
  simp[this,h]
theorem iY_{c:Nat}:(!decide (("z":Str).cps.toList<(⟨#[c]⟩:Str).cps.toList))=decide (c<=122):=by
 have e:("z":Str).cps.toList=[122]:=by decide +kernel
 rw[e]
 show (!decide ([122] < [c]))=decide (c<=122)
 by_cases h:c<=122
 ·have:¬[122] < [c]:=by simp[List.cons_lt_cons_iff];omega
  simp[this,h]
 ·have:[122] < [c]:=by simp[List.cons_lt_cons_iff];omega
  simp[this,h]
theorem io_{f:Addr}{fd:FuncData}(F:Fun K "is_name" "is_name" sName f fd)(B:Bi mg){t8:Tok}(m8:mg "MOST_LETTERS"=some (.int 8 t8)):FnOk P w K mg base CX0 1 f fd ["thing"] spName:=by
 refine F.ok scName (fun vs H Q E h=>?_) (fun cdv A outer s H vs Q E hr h=>?_)
 ·obtain⟨x,rfl,_⟩:=h
  rfl
 ·obtain⟨x,rfl,hz,k⟩:=h
  have sz:=sizeLine_eq
  refine⟨_,a3_ (ax_ (cW_ (aC_ (aH_ (ac_ aK_ (by rfl) B.isi PyProof.Rows.Boot.«isinstance» (a0_ (pv 0) (a0_ (aT_ (v:=.ty "str") (by rfl) B.str PyProof.Rows.Boot.«str» rfl) a2_)))))
    (bD_ (aC_ (f1_ fw_ fw_ a6_ (ac_ e9_ (by rfl) B.len PySem.boot_len (a0_ (pv 0) a2_)) (cs_ (v:=.int 8) (by rfl) m8 ⟨t8,rfl⟩))))).pt (a5_ (ad_ gH_)) af_)
   (a5_ (ad_ (ac_ (fc_ rfl) (by rfl) B.all PyProof.Rows.Boot.«all» (a0_
    (aI_ ["letter"] 1 [] (jB_ (pv 0)) (fun fp s H=>a8_ (i:=0) (show (["letter"]:List Str).Nodup by decide +kernel) rfl (Or.inl rfl)) (fun fp s H=>au_) (fun fp s H=>f5_ dD_ dD_ cS_ (pv 0) cS_)) a2_)))),?_⟩
  refine⟨_,rfl,_,_,_,_,rfl,.str x,rfl,_,rfl,?_⟩
  refine iteF ?_
  refine⟨_,rfl,x,rfl,by omega,_,_,rfl,rfl,_,rfl,?_⟩
  have fin:(decide (1<=x.length)&&decide (x.length<=8))=false->∀H',Same H H'->Q (.bl false) H':=fun e H' sm=>by
   have:=k H' sm
   rwa [show nameB x=false by unfold nameB;rw[e];rfl] at this
  refine ite2 (fun c=>?_) (fun c=>?_)
  ·have c1:1<=x.length:=by
    have:(1:Int)<=(x.length:Int):=by simpa using c
    omega
   refine⟨_,_,rfl,rfl,_,rfl,?_⟩
   refine ite2 (fun c2=>?_) (fun c2=>?_)
   ·-- too long
    have c3:¬x.length<=8:=by
     have:¬((x.length:Int)<=8):=by simpa using c2
     omega
    exact fin (by rw[decide_eq_false c3,Bool.and_false]) H (Same.refl H)
   ·have c3:x.length<=8:=by
     have:(x.length:Int)<=8:=by simpa using c2
     omega
    refine⟨_,rfl,x,rfl,fun D hD=>?_⟩
    refine cz_ (own:=1) (fv:=[]) rfl gok1 x.cps.size (fun i out H'=>H'=upd H D (.lst out)/\out=((x.cps.toList.take i).map okc).map V.bl) ⟨rfl,by simp⟩ (fun out H' ⟨e1,e2⟩=>?_) (fun i out H' hi ⟨e1,e2⟩=>?_)
    ·refine⟨Nat.le_refl _,D,x.cps.toList.map okc,rfl,.of ?_,?_⟩
     ·rw[e1,a1_,e2,List.take_of_length_le (by simp)]
     ·have:=k H' (by rw[e1];exact Same.new hD)
      rwa [show nameB x=(x.cps.toList.map okc).all id by unfold nameB;rw[decide_eq_true c1,decide_eq_true c3,List.all_map];rfl] at this
    ·refine⟨hi,fun v H2 y=>?_⟩
     obtain⟨eH,c,hc,rfl⟩:=y
     subst eH
     refine⟨_,rfl,rfl,fun Nx hN=>yesT ?_⟩
     have lo:out.length<sizeLine:=by
      rw[e2]
      have hs:x.length=x.cps.size:=rfl
      simp only[List.length_map,List.length_take,Array.length_toList]
      omega
     have nx:Nx (upd H2 D (.lst (out++[V.bl (okc c)]))):=hN (out++[V.bl (okc c)]) _ ⟨by rw[e1,j2_],by
      rw[e2,List.take_add_one]
      simp[hc]⟩
     have atD:H2 D=some (.lst out):=by rw[e1,a1_]
     refine⟨_,rfl,_,_,rfl,rfl,_,rfl,?_⟩
     rw[j5_]
     refine ite2 (fun c2=>?_) (fun c2=>?_)
     ·refine⟨_,_,rfl,rfl,out,atD,lo,?_⟩
      rw[iY_]
      rwa [show okc c=decide (c<=122) by unfold okc;rw[c2];rfl] at nx
     ·refine⟨out,atD,lo,?_⟩
      rwa [show okc c=false by unfold okc;rw[show decide (97<=c)=false by simpa using c2];rfl] at nx
  ·have c1:¬1<=x.length:=by
    have:¬((1:Int)<=(x.length:Int)):=by simpa using c
    omega
   exact⟨_,rfl,iteT (fin (by rw[decide_eq_false c1];rfl) H (Same.refl H))⟩
end
end Ev
set_option Elab.async false
set_option linter.all false
set_option maxRecDepth 100000
namespace Ev
open PySem L2
def kT(t:Str × Str):List Key:=[.inr t.1,.inr t.2]
def goodT(t:Str × Str):Prop:=nameB t.1=true/\nameB t.2=true/\t.1≠t.2
theorem bT_{x:Str}(h:nameB x=true):x.length<=8:=by
 unfold nameB at h
 simp only[Bool.and_eq_true,decide_eq_true_eq] at h
 exact h.1.2
theorem hpT{H:Hp}{p:Addr}{t:Str × Str}(h:H p=some (.tup ((kT t).map kV))):H p=some (.tup [.str t.1,.str t.2]):=h
section
variable{P:Program}{w:World}{K:PySem.W.Frag}{mg:Str->Option Value}{base:Heap}
theorem scPair:FnScope ["thing"] ["thing"] (defScope sPair):=⟨rfl,rfl,rfl,by decide +kernel,rfl,by decide +kernel,by decide +kernel⟩
def spPair:Sp:=fun vs H Q _=>∃(p:Addr) (a b:Str),vs=[.ref p]/\H p=some (.tup [.str a,.str b])/\a.length<=100000/\b.length<=100000/\∀H',Same H H'->Q (.bl (nameB a&&nameB b&&!decide (a=b))) H'
theorem jj_{f:Addr}{fd:FuncData}(F:Fun K "is_pair_of_names" "is_pair_of_names" sPair f fd)(B:Bi mg)(cN:Cal P w K mg base 1 "is_name" ["thing"] spName):FnOk P w K mg base CX0 2 f fd ["thing"] spPair:=by
 refine F.ok scPair (fun vs H Q E h=>?_) (fun cdv A outer s H vs Q E hr h=>?_)
 ·obtain⟨p,a,b,rfl,_⟩:=h
  rfl
 ·obtain⟨p,a,b,rfl,hp,la,lb,k⟩:=h
  refine⟨_,a3_ (ax_ (cW_ (aC_ (aH_ (ac_ aK_ (by rfl) B.isi PyProof.Rows.Boot.«isinstance» (a0_ (pv 0) (a0_ (aT_ (v:=.ty "tuple") (by rfl) B.tuple PyProof.Rows.Boot.«tuple» rfl) a2_)))))
    (bD_ (ap_ cV_ (ac_ an_ (by rfl) B.len PySem.boot_len (a0_ (pv 0) a2_)) a6_ (nomark _)))).pt (a5_ (ad_ gH_)) af_)
   (a5_ (ad_ (bE_ (a9_ cN hr (a0_ (aA_ aG_ (pv 0) a6_ (fun _ _=>rfl)) a2_)) (bE_ (a9_ cN hr (a0_ (aA_ aG_ (pv 0) a6_ (fun _ _=>rfl)) a2_))
    (cf_ (dg_ cV_ (aA_ aG_ (pv 0) a6_ (fun _ _=>rfl)) (aA_ aG_ (pv 0) a6_ (fun _ _=>rfl)) (nomark _))))))),?_⟩
  refine⟨_,rfl,_,_,_,_,rfl,.tup hp,rfl,_,rfl,iteF ?_⟩
  refine⟨_,rfl,p,_,rfl,.inr (.of hp),rfl,_,rfl,?_⟩
  refine iteNS (show V.int ((2:Nat):Int)=V.int 2 from rfl) ?_
  refine⟨_,rfl,p,_,_,_,rfl,rfl,.of hp,rfl,a,rfl,la,fun H1 s1=>⟨_,rfl,?_⟩⟩
  have hp1:=s1 _ _ hp
  refine ite2 (fun c=>?_) (fun c=>?_)
  ·refine⟨_,rfl,p,_,_,_,rfl,rfl,.of hp1,rfl,b,rfl,lb,fun H2 s2=>⟨_,rfl,?_⟩⟩
   have hp2:=s2 _ _ hp1
   have kk:=k H2 (s1.trans s2)
   refine ite2 (fun c2=>?_) (fun c2=>?_)
   ·refine⟨_,rfl,p,_,_,_,rfl,rfl,.of hp2,rfl,_,rfl,p,_,_,_,rfl,rfl,.of hp2,rfl,rfl,?_⟩
    rw[c,c2] at kk
    have e:decide (V.str a=V.str b)=decide (a=b):=by
     by_cases z:a=b
     ·simp[z]
     ·simp[z]
    show Q (.bl (!decide (V.str a=V.str b))) H2
    rw[e]
    exact kk
   ·rw[c,show nameB b=false by simpa using c2] at kk
    exact kk
  ·have kk:=k H1 s1
   rw[show nameB a=false by simpa using c] at kk
   exact kk
theorem scSorted:FnScope ["ties","found","pair","tie"] ["ties"] (defScope sSorted):=⟨rfl,rfl,rfl,by decide +kernel,rfl,by decide +kernel,by decide +kernel⟩
def spSorted(K:PySem.W.Frag):Sp:=fun vs H Q _=>∃(l:Addr) (ys:List V) (ts:List (Str × Str)),vs=[.ref l]/\H l=some (.lst ys)/\TupsAt K H ys (ts.map kT)/\(∀t∈ts,goodT t)/\(ts.map fun t=>kT (ord2 t.1 t.2)).Nodup/\ts.length<64 /\
 ∀l' zs H',Same H H'->H l'=none->H' l'=some (.lst zs)->TupsAt K H' zs (sortKs (ts.map fun t=>kT (ord2 t.1 t.2)))->Q (.ref l') H'
theorem aD_{α β γ:Type}{F:α->γ->Prop}{g:β->γ}{ys:List α}{ts:List β}(t:Paired F ys (ts.map g)){i:Nat}{y:α}(h:ys[i]? = some y):∃x,ts[i]? = some x/\F y (g x):=by
 have hi:i<ys.length:=(List.getElem?_eq_some_iff.mp h).1
 have hl:=Paired.length t
 rw[List.length_map] at hl
 have:=ah_ t i hi (by rw[List.length_map];omega)
 rw[List.getElem_map] at this
 refine⟨ts[i],List.getElem?_eq_getElem (by omega),?_⟩
 rw[(List.getElem?_eq_some_iff.mp h).2] at this
 exact this
theorem aE_{κ:Type}[DecidableEq κ]{kvs:List (κ × V)}{k:κ}(h:k∉kvs.map (·.1)):valV kvs k=none:=by
 cases e:valV kvs k with
 |none=>rfl
 |some v=>exact absurd (iE_ e) h
theorem aQ_{α β:Type}(g:α->β){ts:List α}{i:Nat}{x:α}(h:ts[i]? = some x):(ts.take (i+1)).map g=(ts.take i).map g++[g x]:=by
 rw[List.take_add_one,h,List.map_append]
 rfl
theorem bc_{α β:Type}{g:α->β}{ts:List α}{i:Nat}{x:α}(h:(ts.map g).Nodup)(hx:ts[i]? = some x):g x∉(ts.take i).map g:=by
 intro m
 have hi:i<ts.length:=(List.getElem?_eq_some_iff.mp hx).1
 obtain⟨y,hy,e⟩:=List.mem_map.mp m
 obtain⟨j,hj,e2⟩:=List.getElem_of_mem hy
 rw[List.length_take] at hj
 rw[List.getElem_take] at e2
 rw[List.nodup_iff_pairwise_ne,List.pairwise_map,List.pairwise_iff_getElem] at h
 refine h j i (by omega) hi (by omega) ?_
 rw[e2,e,(List.getElem?_eq_some_iff.mp hx).2]
theorem gw_{f:Addr}{fd:FuncData}(F:Fun K "sorted_ties" "sorted_ties" sSorted f fd)(B:Bi mg)(cP:Cal P w K mg base 2 "is_pair_of_names" ["thing"] spPair)(cL:Cal P w K mg base 1 "lesser_first" ["one","other"] spLesser):FnOk P w K mg base CX0 3 f fd ["ties"] (spSorted K):=by
 refine F.ok scSorted (fun vs H Q E h=>?_) (fun cdv A outer s H vs Q E hr h=>?_)
 ·obtain⟨l,ys,ts,rfl,_⟩:=h
  rfl
 ·obtain⟨l,ys,ts,rfl,hl,tu,good,nd,h64,k⟩:=h
  have hu:=b1_ hr
  have hr1:Room 1 _:=hr.mono (by decide)
  have sz:=sizeLine_eq
  refine⟨_,a3_ (ax_ (aC_ (aH_ (ac_ aK_ (by rfl) B.isi PyProof.Rows.Boot.«isinstance» (a0_ (pv 0) (a0_ (aT_ (v:=.ty "list") (by rfl) B.list PyProof.Rows.Boot.«list» rfl) a2_))))) ae_ af_)
   (a3_ (ab_ (i:=1) scSorted.nd rfl (Or.inl rfl) hd_)
   (a3_ (aM_ PassesOwn.never rfl (aj_ (pv 0)) (a8_ (i:=2) scSorted.nd rfl (Or.inl rfl))
    (a3_ (ax_ (aC_ (aH_ (a9_ cP hr (a0_ (pv 2) a2_)))) ae_ af_)
    (a3_ (ab_ (i:=3) scSorted.nd rfl (Or.inl rfl) (a9_ cL hr1 (a0_ (aA_ aG_ (pv 2) a6_ (fun _ _=>rfl)) (a0_ (aA_ aG_ (pv 2) a6_ (fun _ _=>rfl)) a2_))))
    (a3_ (ax_ (bC_ (d5_ hu (pv 3) (pv 1))) ae_ af_)
    (a5_ (bt_ hu (pv 1) (pv 3) gH_ rfl))))))
   (a5_ (ad_ (ac_ (ed_ rfl) (by rfl) B.sorted PyProof.Rows.Boot.«sorted» (a0_ (pv 1) a2_)))))),?_⟩
  refine⟨_,rfl,_,_,_,_,rfl,.lst hl,rfl,_,rfl,iteF ?_⟩
  intro d hd
  have s0:Same H (upd H d (.dT [])):=Same.new hd
  refine⟨_,rfl,l,rfl,⟨_,.of (s0 _ _ hl)⟩,aR_ (K:=K) (a:=l) (xs:=ys) (fun i σ H2=>∃(v3 v4:Option V),σ=[some (.ref l),some (.ref d),v3,v4]/\Same H H2/\H2 d=some (.dT ((ts.take i).map fun t=>(kT (ord2 t.1 t.2),V.bl true)))) ⟨none,none,rfl,s0,a1_⟩ (fun i σ H2 _ ⟨_,_,_,s2,_⟩=>.of (s2 _ _ hl)) ?_ ?_⟩
  ·rintro i y σ H2 hy ⟨v3,v4,rfl,s2,hd2⟩
   obtain⟨t,ht,a,rfl,ha⟩:=aD_ tu hy
   obtain⟨g1,g2,g3⟩:=good t (List.mem_of_getElem? ht)
   have ha2:=s2 _ _ (hpT ha)
   refine⟨_,rfl,a,t.1,t.2,rfl,ha2,by have:=bT_ g1;omega,by have:=bT_ g2;omega,fun H3 s3=>⟨_,rfl,?_⟩⟩
   have ha3:=s3 _ _ ha2
   have hd3:=s3 _ _ hd2
   rw[g1,g2,decide_eq_false g3]
   refine iteF ?_
   refine⟨_,rfl,a,_,_,_,rfl,rfl,.of ha3,rfl,_,rfl,a,_,_,_,rfl,rfl,.of ha3,rfl,t.1,t.2,rfl,fun b hb=>?_⟩
   have s4:Same H3 (upd H3 b (.tup [.str (ord2 t.1 t.2).1,.str (ord2 t.1 t.2).2])):=Same.new hb
   have hd4:=s4 _ _ hd3
   have hb4:upd H3 b (.tup [.str (ord2 t.1 t.2).1,.str (ord2 t.1 t.2).2]) b=some (.tup ((kT (ord2 t.1 t.2)).map kV)):=a1_
   have nov:valV ((ts.take i).map fun t=>(kT (ord2 t.1 t.2),V.bl true)) (kT (ord2 t.1 t.2))=none:=aE_ (by
    rw[List.map_map]
    exact bc_ (g:=fun t=>kT (ord2 t.1 t.2)) nd ht)
   refine⟨_,rfl,_,rfl,d,_,rfl,.t (k:=kT (ord2 t.1 t.2)) hd4 hb4,_,rfl,?_⟩
   rw[nov]
   refine iteF ?_
   refine⟨_,rfl,_,rfl,d,_,rfl,.t (k:=kT (ord2 t.1 t.2)) hd4 hb4 (by rw[List.length_map,List.length_take];omega),?_⟩
   refine⟨_,_,rfl,fun c o e=>?_,?_⟩
   ·rw[a7_ (a4_ e hd)]
    exact s4 _ _ (s3 _ _ (s2 _ _ e))
   ·rw[a1_,bB_ _ nov,aQ_ _ ht]
  ·rintro σ H2 ⟨v3,v4,rfl,s2,hd2⟩
   have le:=Paired.length tu
   rw[List.length_map] at le
   rw[le,List.take_length] at hd2
   refine⟨_,rfl,d,_,[true,true],rfl,hd2,⟨by decide,fun k hk=>?_⟩,by rw[List.length_map];exact h64,fun l' zs hn tz=>?_⟩
   ·rw[List.map_map] at hk
    obtain⟨t,_,rfl⟩:=List.mem_map.mp hk
    rfl
   ·rw[List.map_map] at tz
    exact k l' zs _ (s2.trans (Same.new hn)) (s2.free hn) a1_ (tz.same (Same.new hn))
theorem scAnew:FnScope ["ties"] ["ties"] (defScope sAnew):=⟨rfl,rfl,rfl,by decide +kernel,rfl,by decide +kernel,by decide +kernel⟩
def spAnew(K:PySem.W.Frag):Sp:=fun vs H Q _=>∃(l:Addr) (ys:List V) (ts:List (Str × Str)),vs=[.ref l]/\H l=some (.lst ys)/\TupsAt K H ys (ts.map kT)/\ts.length<=1000 /\
 ∀l' zs H',Same H H'->H l'=none->H' l'=some (.lst zs)->TupsAt K H' zs (ts.map kT)->Q (.ref l') H'
theorem b6_{K:PySem.W.Frag}{H:Hp}{ys:List V}{ks:List (List Key)}{a:Addr}{k:List Key}(t:TupsAt K H ys ks)(h:H a=some (.tup (k.map kV))):TupsAt K H (ys++[.ref a]) (ks++[k]):=Paired.snoc t ⟨a,rfl,h⟩
theorem al_{H H1:Hp}{D:Addr}{o:HO}(h:Same H H1)(hD:H D=none):Same H (upd H1 D o):=fun b u e=>by rw[a7_ (a4_ e hD)];exact h b u e
theorem b0_{K:PySem.W.Frag}{H:Hp}{ys:List V}{ks:List (List Key)}{D:Addr}{o:HO}{xs:List V}(t:TupsAt K H ys ks)(hD:H D=some (.lst xs)):TupsAt K (upd H D o) ys ks:=Paired.mapP t fun y k ⟨a,z,q⟩=>⟨a,z,by rw[a7_ (az_ q hD (by intro z;cases z))];exact q⟩
theorem ji_{f:Addr}{fd:FuncData}(F:Fun K "ties_anew" "ties_anew" sAnew f fd):FnOk P w K mg base CX0 1 f fd ["ties"] (spAnew K):=by
 refine F.ok scAnew (fun vs H Q E h=>?_) (fun cdv A outer s H vs Q E hr h=>?_)
 ·obtain⟨l,ys,ts,rfl,_⟩:=h
  rfl
 ·obtain⟨l,ys,ts,rfl,hl,tu,hz,k⟩:=h
  have sz:=sizeLine_eq
  refine⟨_,a5_ (ad_ (aI_ ["one","other"] 2 [] (aj_ (pv 0)) (fun fp s H=>b9_ (n:=2) (aa_ (a8_ (i:=0) (show (["one","other"]:List Str).Nodup by decide +kernel) rfl (Or.inl rfl)) (aa_ (a8_ (i:=1) (show (["one","other"]:List Str).Nodup by decide +kernel) rfl (Or.inl rfl)) aF_)))
   (fun fp s H=>au_) (fun fp s H=>aO_ (a0_ (pv 0) (a0_ (pv 1) a2_))))),?_⟩
  refine⟨_,rfl,l,rfl,⟨_,.of hl⟩,fun D hD=>?_⟩
  have le:=Paired.length tu
  rw[List.length_map] at le
  refine aq_ (own:=2) (fv:=[]) (xs:=ys) rfl gok2 (fun i out H'=>Same H H'/\H' D=some (.lst out)/\TupsAt K H' out ((ts.take i).map kT)) ⟨Same.new hD,a1_,.nil⟩ (fun i out H' _ ⟨sm,_,_⟩=>.of (sm _ _ hl)) (fun out H' ⟨sm,hd,tz⟩=>?_) (fun i x out H' hx ⟨sm,hd,tz⟩=>?_)
  ·rw[le,List.take_length] at tz
   exact k D out H' sm hD hd tz
  ·obtain⟨t,ht,a,rfl,ha⟩:=aD_ tu hx
   refine⟨_,⟨a,_,_,rfl,.of (sm _ _ (hpT ha)),rfl⟩,rfl,fun Nx hN=>yesT ?_⟩
   refine⟨_,rfl,_,rfl,by show 2<=sizeLine;decide,fun p hp=>⟨out,(Same.new hp) _ _ hd,?_,?_⟩⟩
   ·have:=Paired.length tz
    rw[List.length_map,List.length_take] at this
    omega
   ·have hp2:upd H' p (.tup [.str t.1,.str t.2]) p=some (.tup ((kT t).map kV)):=a1_
    refine hN (out++[.ref p]) _ ⟨al_ (sm.trans (Same.new hp)) hD,a1_,?_⟩
    rw[aQ_ _ ht]
    exact b0_ (b6_ (tz.same (Same.new hp)) hp2) ((Same.new hp) _ _ hd)
end
end Ev
set_option Elab.async false
set_option linter.all false
set_option maxRecDepth 100000
namespace Ev
open PySem L2
def kH(h:Str × Int):List Key:=[.inr h.1,.inl h.2]
def goodH(h:Str × Int):Prop:=nameB h.1=true/\1<=h.2/\h.2<=1000
def kvOf:List Key->Key × V
 |[k,v]=>(k,kV v)
 |_=>(.inl 0,.non)
def sortH(hs:List (Str × Int)):List (Key × V):=(sortKs (hs.map kH)).map kvOf
theorem hpH{H:Hp}{p:Addr}{t:Str × Int}(h:H p=some (.tup ((kH t).map kV))):H p=some (.tup [.str t.1,.int t.2]):=h
theorem d7_:∀(more kvs:List (Key × V)),(kvs.map (·.1)++more.map (·.1)).Nodup->mergeK kvs more=kvs++more
 |[],kvs,_=>by
  show kvs=kvs++[]
  rw[List.append_nil]
 |p::more,kvs,h=>by
  show mergeK (putK kvs p.1 p.2) more=kvs++p::more
  have hn:valV kvs p.1=none:=aE_ fun m=>by
   rw[List.map_cons,List.nodup_append] at h
   exact h.2.2 p.1 m p.1 List.mem_cons_self rfl
  rw[bB_ _ hn,d7_ more (kvs++[(p.1,p.2)])]
  ·simp
  ·simpa using h
theorem b3_{more:List (Key × V)}(h:(more.map (·.1)).Nodup):mergeK [] more=more:=by
 rw[d7_ more [] (by simpa using h)]
 rfl
theorem d0_(hs:List (Str × Int)):((sortH hs).map (·.1)).Perm (hs.map fun h=>Sum.inr h.1):=by
 unfold sortH
 rw[List.map_map]
 have p:=(am_ (hs.map kH)).map fun k=>(kvOf k).1
 rw[List.map_map] at p
 exact p
theorem cu_{hs:List (Str × Int)}(h:(hs.map (·.1)).Nodup):((sortH hs).map (·.1)).Nodup:=by
 refine (d0_ hs).nodup_iff.mpr ?_
 have:(hs.map fun h=>(Sum.inr h.1:Key))=(hs.map (·.1)).map Sum.inr:=by rw[List.map_map];rfl
 rw[this,List.nodup_iff_pairwise_ne,List.pairwise_map]
 exact h.imp fun n e=>n (Sum.inr.inj e)
theorem roomU{k:Nat}{A:Around}(hr:Room k A)(n:Nat)(h:n+1<=64:=by decide):A.units+n+1<cLine:=by
 have:=hr.units
 omega
section
variable{P:Program}{w:World}{K:PySem.W.Frag}{mg:Str->Option Value}{base:Heap}
theorem scHand:FnScope ["thing"] ["thing"] (defScope sHand):=⟨rfl,rfl,rfl,by decide +kernel,rfl,by decide +kernel,by decide +kernel⟩
def spHand:Sp:=fun vs H Q _=>∃(p:Addr) (a:Str) (n:Int),vs=[.ref p]/\H p=some (.tup [.str a,.int n])/\a.length<=100000/\∀H',Same H H'->Q (.bl (nameB a&&(decide (1<=n)&&decide (n<=1000)))) H'
theorem it_{f:Addr}{fd:FuncData}(F:Fun K "is_hand_with_strength" "is_hand_with_strength" sHand f fd)(B:Bi mg)(cN:Cal P w K mg base 1 "is_name" ["thing"] spName)(cW:Cal P w K mg base 2 "is_whole_within" ["thing","least","most"] spWhole){tk:Tok}(mS:mg "MOST_STRENGTH"=some (.int 1000 tk)) :
  FnOk P w K mg base CX0 3 f fd ["thing"] spHand:=by
 refine F.ok scHand (fun vs H Q E h=>?_) (fun cdv A outer s H vs Q E hr h=>?_)
 ·obtain⟨p,a,b,rfl,_⟩:=h
  rfl
 ·obtain⟨p,a,n,rfl,hp,la,k⟩:=h
  have hr1:Room 1 _:=hr.mono (by decide)
  refine⟨_,a3_ (ax_ (cW_ (aC_ (aH_ (ac_ aK_ (by rfl) B.isi PyProof.Rows.Boot.«isinstance» (a0_ (pv 0) (a0_ (aT_ (v:=.ty "tuple") (by rfl) B.tuple PyProof.Rows.Boot.«tuple» rfl) a2_)))))
    (bD_ (ap_ cV_ (ac_ an_ (by rfl) B.len PySem.boot_len (a0_ (pv 0) a2_)) a6_ (nomark _)))).pt (a5_ (ad_ gH_)) af_)
   (a5_ (ad_ (bE_ (a9_ cN hr1 (a0_ (aA_ aG_ (pv 0) a6_ (fun _ _=>rfl)) a2_)) (cf_ (a9_ cW hr (a0_ (aA_ aG_ (pv 0) a6_ (fun _ _=>rfl)) (a0_ a6_ (a0_ (cs_ (v:=.int 1000) (by rfl) mS ⟨tk,rfl⟩) a2_)))))))),?_⟩
  refine⟨_,rfl,_,_,_,_,rfl,.tup hp,rfl,_,rfl,iteF ?_⟩
  refine⟨_,rfl,p,_,rfl,.inr (.of hp),rfl,_,rfl,?_⟩
  refine iteNS (show V.int ((2:Nat):Int)=V.int 2 from rfl) ?_
  refine⟨_,rfl,p,_,_,_,rfl,rfl,.of hp,rfl,a,rfl,la,fun H1 s1=>⟨_,rfl,?_⟩⟩
  have hp1:=s1 _ _ hp
  have kk:=k H1 s1
  refine ite2 (fun c=>?_) (fun c=>?_)
  ·refine⟨_,rfl,p,_,_,_,rfl,rfl,.of hp1,rfl,n,1,1000,rfl,?_⟩
   rw[c] at kk
   exact kk
  ·rw[show nameB a=false by simpa using c] at kk
   exact kk
theorem scStr:FnScope ["hands","found","hand"] ["hands"] (defScope sStr):=⟨rfl,rfl,rfl,by decide +kernel,rfl,by decide +kernel,by decide +kernel⟩
def spStr(K:PySem.W.Frag):Sp:=fun vs H Q _=>∃(l:Addr) (ys:List V) (hs:List (Str × Int)),vs=[.ref l]/\H l=some (.lst ys)/\TupsAt K H ys (hs.map kH)/\(∀h∈hs,goodH h)/\(hs.map (·.1)).Nodup/\1<=hs.length/\hs.length<=8 /\
 ∀d H',Same H H'->H d=none->H' d=some (.dK (sortH hs))->Q (.ref d) H'
theorem jA_{f:Addr}{fd:FuncData}(F:Fun K "checked_strengths" "checked_strengths" sStr f fd)(B:Bi mg)(cH:Cal P w K mg base 3 "is_hand_with_strength" ["thing"] spHand){tk:Tok}(mH:mg "MOST_HANDS"=some (.int 8 tk)):FnOk P w K mg base CX0 4 f fd ["hands"] (spStr K):=by
 refine F.ok scStr (fun vs H Q E h=>?_) (fun cdv A outer s H vs Q E hr h=>?_)
 ·obtain⟨l,ys,hs,rfl,_⟩:=h
  rfl
 ·obtain⟨l,ys,hs,rfl,hl,tu,good,nd,h1,h8,k⟩:=h
  have hu:=b1_ hr
  have sz:=sizeLine_eq
  have le:=Paired.length tu
  rw[List.length_map] at le
  refine⟨_,a3_ (ax_ (cW_ (aC_ (aH_ (ac_ aK_ (by rfl) B.isi PyProof.Rows.Boot.«isinstance» (a0_ (pv 0) (a0_ (aT_ (v:=.ty "list") (by rfl) B.list PyProof.Rows.Boot.«list» rfl) a2_)))))
    (bD_ (aC_ (f1_ fw_ fw_ a6_ (ac_ an_ (by rfl) B.len PySem.boot_len (a0_ (pv 0) a2_)) (cs_ (v:=.int 8) (by rfl) mH ⟨tk,rfl⟩))))).pt ae_ af_)
   (a3_ (ab_ (i:=1) scStr.nd rfl (Or.inl rfl) bA_)
   (a3_ (aM_ PassesOwn.never rfl (aj_ (pv 0)) (a8_ (i:=2) scStr.nd rfl (Or.inl rfl))
    (a3_ (ax_ (aC_ (aH_ (a9_ cH hr (a0_ (pv 2) a2_)))) ae_ af_)
    (a3_ (ax_ (bC_ (d5_ hu (aA_ aG_ (pv 2) a6_ (fun _ _=>rfl)) (pv 1))) ae_ af_)
    (a5_ (bt_ hu (pv 1) (aA_ aG_ (pv 2) a6_ (fun _ _=>rfl)) (aA_ aG_ (pv 2) a6_ (fun _ _=>rfl)) rfl)))))
   (a5_ (ad_ (aB_ (aS_ rfl) (by rfl) B.dict PyProof.Rows.Boot.«dict» (a0_ (ac_ (fz_ rfl) (by rfl) B.sorted PyProof.Rows.Boot.«sorted» (a0_ (aZ_ (pv 1)) a2_)) a2_)))))),?_⟩
  refine⟨_,rfl,_,_,_,_,rfl,.lst hl,rfl,_,rfl,iteF ?_⟩
  refine⟨_,rfl,l,_,rfl,.inl (.of hl),_,_,rfl,rfl,_,rfl,?_⟩
  rw[decide_eq_true (show (1:Int)<=(ys.length:Int) by omega)]
  refine iteT ⟨_,_,rfl,rfl,_,rfl,?_⟩
  rw[decide_eq_true (show (ys.length:Int)<=8 by omega)]
  refine iteF ?_
  intro d hd
  have s0:Same H (upd H d (.dK [])):=Same.new hd
  refine⟨_,rfl,l,rfl,⟨_,.of (s0 _ _ hl)⟩,aR_ (K:=K) (a:=l) (xs:=ys) (fun i σ H2=>∃(v2:Option V),σ=[some (.ref l),some (.ref d),v2]/\Same H H2/\H2 d=some (.dK ((hs.take i).map fun h=>(Sum.inr h.1,V.int h.2)))) ⟨none,rfl,s0,a1_⟩ (fun i σ H2 _ ⟨_,_,s2,_⟩=>.of (s2 _ _ hl)) ?_ ?_⟩
  ·rintro i y σ H2 hy ⟨v2,rfl,s2,hd2⟩
   obtain⟨t,ht,a,rfl,ha⟩:=aD_ tu hy
   obtain⟨g1,g2,g3⟩:=good t (List.mem_of_getElem? ht)
   have ha2:=s2 _ _ (hpH ha)
   refine⟨_,rfl,a,t.1,t.2,rfl,ha2,by have:=bT_ g1;omega,fun H3 s3=>⟨_,rfl,?_⟩⟩
   have ha3:=s3 _ _ ha2
   have hd3:=s3 _ _ hd2
   rw[g1,decide_eq_true g2,decide_eq_true g3]
   refine iteF ?_
   have nov:valV ((hs.take i).map fun h=>((Sum.inr h.1:Key),V.int h.2)) (Sum.inr t.1)=none:=aE_ (by
    rw[List.map_map]
    have q:=bc_ (g:=fun h:Str × Int=>h.1) nd ht
    intro m
    obtain⟨h,hh,e⟩:=List.mem_map.mp m
    exact q (List.mem_map.mpr ⟨h,hh,Sum.inr.inj e⟩))
   refine⟨_,rfl,a,_,_,_,rfl,rfl,.of ha3,rfl,_,rfl,d,_,rfl,.k (k:=Sum.inr t.1) hd3,_,rfl,?_⟩
   rw[nov]
   refine iteF ?_
   refine⟨_,rfl,a,_,_,_,rfl,rfl,.of ha3,rfl,_,rfl,_,rfl,a,_,_,_,rfl,rfl,.of ha3,rfl,d,_,rfl,.k (k:=Sum.inr t.1) hd3 (by rw[List.length_map,List.length_take];omega),?_⟩
   refine⟨_,rfl,fun c o e=>?_,?_⟩
   ·rw[a7_ (a4_ e hd)]
    exact s3 _ _ (s2 _ _ e)
   ·rw[a1_,bB_ _ nov,aQ_ _ ht]
  ·rintro σ H2 ⟨v2,rfl,s2,hd2⟩
   rw[le,List.take_length] at hd2
   refine⟨_,rfl,d,_,rfl,hd2,fun v hv=>?_⟩
   have s3:Same H2 (upd H2 v (itemsV v d)):=Same.new hv
   refine⟨v,d,_,hs.map fun h=>(Sum.inr h.1,Sum.inl h.2),[true,false],rfl,a1_,s3 _ _ hd2,by rw[List.map_map];rfl,⟨by decide,fun q hq=>?_⟩,by rw[List.length_map];omega,fun l' H4 zs s4 hn tz=>?_⟩
   ·rw[List.map_map] at hq
    obtain⟨h,_,rfl⟩:=List.mem_map.mp hq
    rfl
   ·have ez:((hs.map fun h=>((Sum.inr h.1:Key),(Sum.inl h.2:Key))).map fun k=>[k.1,k.2])=hs.map kH:=by rw[List.map_map];rfl
    rw[ez] at tz
    have pz:PairsAt K (upd H4 l' (.lst zs)) zs (sortH hs):=by
     have shape:∀k∈sortKs (hs.map kH),∃a b,k=[a,b]:=fun k hk=>by
      obtain⟨h,_,e⟩:=List.mem_map.mp ((am_ _).mem_iff.mp hk)
      exact⟨_,_,e.symm⟩
     have gen:∀(ks:List (List Key)) (zs:List V),(∀k∈ks,∃a b,k=[a,b])->TupsAt K (upd H4 l' (.lst zs)) zs ks->PairsAt K (upd H4 l' (.lst zs)) zs (ks.map kvOf):=fun ks=>by
      intro zs
      generalize upd H4 l' (.lst zs)=HH
      intro sh t
      induction t with
      |nil=>exact .nil
      |cons h t ih=>
       obtain⟨a,b,rfl⟩:=sh _ List.mem_cons_self
       exact .cons h (ih fun k hk=>sh k (List.mem_cons_of_mem _ hk))
     exact gen _ _ shape (tz.same (Same.new hn))
    refine⟨l',zs,_,rfl,a1_,pz,?_,fun d' hd'=>?_⟩
    ·have:=(d0_ hs).length_eq
     simp only[List.length_map] at this
     omega
    ·rw[b3_ (cu_ nd)]
     have sAll:Same H (upd H4 l' (.lst zs)):=(s2.trans (s3.trans s4)).trans (Same.new hn)
     exact k d' _ (sAll.trans (Same.new hd')) (sAll.free hd') a1_
theorem scTies:FnScope ["ties","strengths","found","one","other"] ["ties","strengths"] (defScope sTies):=⟨rfl,rfl,rfl,by decide +kernel,rfl,by decide +kernel,by decide +kernel⟩
def spTies(K:PySem.W.Frag):Sp:=fun vs H Q _=>∃(l d:Addr) (ys:List V) (ts:List (Str × Str)) (kvs:List (Key × V)),vs=[.ref l,.ref d]/\H l=some (.lst ys)/\TupsAt K H ys (ts.map kT)/\(∀t∈ts,goodT t)/\(ts.map fun t=>kT (ord2 t.1 t.2)).Nodup/\ts.length<64 /\
 H d=some (.dK kvs)/\(∀t∈ts,(valV kvs (Sum.inr t.1)).isSome=true/\(valV kvs (Sum.inr t.2)).isSome=true) /\
 ∀l' zs H',Same H H'->H l'=none->H' l'=some (.lst zs)->TupsAt K H' zs (sortKs (ts.map fun t=>kT (ord2 t.1 t.2)))->Q (.ref l') H'
theorem cP_(a b:Str):ord2 a b=(a,b)∨ord2 a b=(b,a):=by
 unfold ord2
 split
 ·exact .inl rfl
 ·exact .inr rfl
theorem iN_{f:Addr}{fd:FuncData}(F:Fun K "checked_ties" "checked_ties" sTies f fd)(B:Bi mg)(cS:Cal P w K mg base 3 "sorted_ties" ["ties"] (spSorted K)):FnOk P w K mg base CX0 4 f fd ["ties","strengths"] (spTies K):=by
 refine F.ok scTies (fun vs H Q E h=>?_) (fun cdv A outer s H vs Q E hr h=>?_)
 ·obtain⟨l,d,ys,ts,kvs,rfl,_⟩:=h
  rfl
 ·obtain⟨l,d,ys,ts,kvs,rfl,hl,tu,good,nd,h64,hd,there,k⟩:=h
  have hu:=b1_ hr
  refine⟨_,a3_ (ab_ (i:=2) scTies.nd rfl (Or.inl rfl) (a9_ cS hr (a0_ (pv 0) a2_)))
   (a3_ (ax_ (bC_ (cZ_ (pv 2))) ae_ af_)
   (a3_ (aM_ PassesOwn.never rfl (aj_ (pv 2)) (bH_ rfl (aa_ (a8_ (i:=3) scTies.nd rfl (Or.inl rfl)) (aa_ (a8_ (i:=4) scTies.nd rfl (Or.inl rfl)) aF_)))
    (a5_ (ax_ (cW_ (bC_ (e5_ hu (pv 3) (pv 1))) (bD_ (bC_ (e5_ hu (pv 4) (pv 1))))).pt ae_ af_)))
   (a5_ (ad_ (pv 2))))),?_⟩
  refine⟨_,rfl,l,ys,ts,rfl,hl,tu,good,nd,h64,fun l' zs H1 s1 hf hl1 tz=>?_⟩
  refine⟨_,rfl,_,rfl,iteF ?_⟩
  refine⟨_,rfl,l',rfl,⟨_,.of hl1⟩,aR_ (K:=K) (a:=l') (xs:=zs) (fun i σ H2=>∃(v3 v4:Option V),σ=[some (.ref l),some (.ref d),some (.ref l'),v3,v4]/\H2=H1) ⟨none,none,rfl,rfl⟩ (fun i σ H2 _ ⟨_,_,_,e⟩=>by subst e;exact .of hl1) ?_ ?_⟩
  ·rintro i y σ H2 hy ⟨v3,v4,rfl,rfl⟩
   have ez:=Paired.length tz
   have hi:i<zs.length:=(List.getElem?_eq_some_iff.mp hy).1
   obtain⟨a,e,ha⟩:=ah_ tz i hi (by omega)
   rw[(List.getElem?_eq_some_iff.mp hy).2] at e
   subst e
   obtain⟨t,ht,e⟩:=List.mem_map.mp ((am_ _).mem_iff.mp (List.getElem_mem (show i<(sortKs (ts.map fun t=>kT (ord2 t.1 t.2))).length by omega)))
   rw[<- e] at ha
   obtain⟨t1,t2⟩:=there t ht
   have both:(valV kvs (Sum.inr (ord2 t.1 t.2).1)).isSome=true/\(valV kvs (Sum.inr (ord2 t.1 t.2).2)).isSome=true:=by
    rcases cP_ t.1 t.2 with q|q
    ·rw[q];exact⟨t1,t2⟩
    ·rw[q];exact⟨t2,t1⟩
   have hd1:=s1 _ _ hd
   refine⟨a,_,rfl,.of (hpT ha),rfl,_,_,rfl,_,_,rfl,rfl,?_⟩
   refine⟨_,rfl,_,rfl,d,_,rfl,.k (k:=Sum.inr (ord2 t.1 t.2).1) hd1,_,rfl,?_⟩
   rw[both.1]
   refine iteF ?_
   refine⟨_,rfl,_,rfl,d,_,rfl,.k (k:=Sum.inr (ord2 t.1 t.2).2) hd1,_,rfl,?_⟩
   rw[both.2]
   refine iteF ?_
   exact⟨_,_,rfl,rfl⟩
  ·rintro σ H2 ⟨v3,v4,rfl,rfl⟩
   exact⟨_,rfl,k l' zs _ s1 hf hl1 tz⟩
def near(ns:List Str)(ts:List (Str × Str))(n:Str):List Str:=ns.filter fun o=>decide (ord2 n o∈ts)
theorem scNear:FnScope ["names","ties","found","hand"] ["names","ties"] (defScope sNear):=⟨rfl,rfl,rfl,by decide +kernel,rfl,by decide +kernel,by decide +kernel⟩
def nearKV(ns:List Str)(as:List Addr):List (Key × V):=(ns.zip as).map fun p=>(Sum.inr p.1,V.ref p.2)
def spNear(K:PySem.W.Frag):Sp:=fun vs H Q _=>∃(l1 l2:Addr) (ns:List Str) (zs:List V) (ts:List (Str × Str)),vs=[.ref l1,.ref l2]/\H l1=some (.lst (ns.map V.str))/\H l2=some (.lst zs)/\TupsAt K H zs (ts.map kT)/\ns.Nodup/\ns.length<=1000/\l1≠l2 /\
 ∀d as H',Same H H'->H d=none->as.length=ns.length->H' d=some (.dK (nearKV ns as))->(∀(i:Nat) n a,ns[i]? = some n->as[i]? = some a->H a=none/\H' a=some (.lst ((near ns ts n).map V.str)))->Q (.ref d) H'
theorem g9_{K:PySem.W.Frag}{H:Hp}:∀{ts:List (Str × Str)} {zs:List V},TupsAt K H zs (ts.map kT)->Paired (r2 K rS rS H) zs ts
 |[],_,.nil=>.nil
 |t::ts,_,.cons ⟨a,e,h⟩ r=>.cons ⟨a,_,_,e,.of (hpT h),rfl,rfl⟩ (g9_ r)
theorem av_{ns:List Str}{i:Nat}{x:V}(h:(ns.map V.str)[i]? = some x):∃n,ns[i]? = some n/\x=.str n:=by
 rw[List.getElem?_map] at h
 cases e:ns[i]? with
 |none=>rw[e] at h;cases h
 |some n=>rw[e] at h;exact⟨n,rfl,(Option.some.inj h).symm⟩
theorem cx_{α:Type}(p:α->Bool){l:List α}{i:Nat}{x:α}(h:l[i]? = some x):(l.take (i+1)).filter p=(l.take i).filter p++(if p x then [x] else []):=PySem.take_succ_filter p l i x h
theorem j9_{f:Addr}{fd:FuncData}(F:Fun K "neighbours_of_all" "neighbours_of_all" sNear f fd)(cL:Cal P w K mg base 1 "lesser_first" ["one","other"] spLesser):FnOk P w K mg base CX0 2 f fd ["names","ties"] (spNear K):=by
 refine F.ok scNear (fun vs H Q E h=>?_) (fun cdv A outer s H vs Q E hr h=>?_)
 ·obtain⟨l1,l2,ns,zs,ts,rfl,_⟩:=h
  rfl
 ·obtain⟨l1,l2,ns,zs,ts,rfl,hl1,hl2,tz,nd,h8,hne,k⟩:=h
  have hu:=b1_ hr
  have hu3:=hr.units
  have sz:=sizeLine_eq
  refine⟨_,a3_ (ab_ (i:=2) scNear.nd rfl (Or.inl rfl) bA_)
   (a3_ (aM_ PassesOwn.never rfl (aj_ (pv 0)) (a8_ (i:=3) scNear.nd rfl (Or.inr rfl))
    (a5_ (bt_ hu (pv 2) (pv 3) (aI_ ["other","hand","ties"] 1 [3,1] (aj_ (pv 0)) (fun fp s H=>a8_ (i:=0) (show (["other","hand","ties"]:List Str).Nodup by decide +kernel) rfl (Or.inl rfl))
     (fun fp s H=>ep_ (ap_ (opK (K:=K) (fun K=>rInD K (r2 K rS rS) false) (i9_ (cmp2 cmpS cmpS) (roomU hr _))) (a9_ cL hr (a0_ (pv 1) (a0_ (pv 0) a2_))) (pv 2) (by with_unfolding_all rfl))) (fun fp s H=>pv 0)) rfl)))
   (a5_ (ad_ (pv 2)))),?_⟩
  intro d hd
  have s0:Same H (upd H d (.dK [])):=Same.new hd
  refine⟨_,rfl,l1,rfl,⟨_,.of (s0 _ _ hl1)⟩,aR_ (K:=K) (a:=l1) (xs:=ns.map V.str) (fun i σ H2=>∃(v3:Option V) (as:List Addr),σ=[some (.ref l1),some (.ref l2),some (.ref d),v3]/\Same H H2/\as.length=i/\H2 d=some (.dK (nearKV (ns.take i) as)) /\
   ∀(j:Nat) n a,ns[j]? = some n->as[j]? = some a->H a=none/\a≠d/\H2 a=some (.lst ((near ns ts n).map V.str))) ⟨none,[],rfl,s0,rfl,a1_,fun j n a _ e=>by simp at e⟩ (fun i σ H2 _ ⟨_,_,_,s2,_⟩=>.of (s2 _ _ hl1)) ?_ ?_⟩
  ·rintro i y σ H2 hy ⟨v3,as,rfl,s2,la,hd2,lists⟩
   obtain⟨n,hn,rfl⟩:=av_ hy
   have hi:i<ns.length:=(List.getElem?_eq_some_iff.mp hn).1
   have lk:(nearKV (ns.take i) as).length=i:=by
    unfold nearKV
    rw[List.length_map,List.length_zip,List.length_take]
    omega
   refine⟨_,rfl,l1,rfl,⟨_,.of (s2 _ _ hl1)⟩,fun D hD=>?_⟩
   refine aq_ (own:=1) (fv:=[some (.str n),some (.ref l2)]) (xs:=ns.map V.str) rfl gok1 (fun j out H'=>Same H2 H'/\H' D=some (.lst out)/\out=((ns.take j).filter fun o=>decide (ord2 n o∈ts)).map V.str) ⟨Same.new hD,a1_,rfl⟩ (fun j out H' _ ⟨sm,_,_⟩=>.of (sm _ _ (s2 _ _ hl1))) (fun out H' ⟨sm,hD',eo⟩=>?_) (fun j x out H' hx ⟨sm,hD',eo⟩=>?_)
   ·rw[List.length_map,List.take_length] at eo
    have nov:valV (nearKV (ns.take i) as) (Sum.inr n)=none:=aE_ fun m=>by
     unfold nearKV at m
     rw[List.map_map] at m
     obtain⟨p,hp,e⟩:=List.mem_map.mp m
     have e:p.1=n:=Sum.inr.inj e
     have q:=bc_ (g:=id) (by rw[List.map_id];exact nd) hn
     rw[List.map_id] at q
     exact q (e▸(List.of_mem_zip hp).1)
    have neD:D≠d:=fun z=>by subst z;rw[hD] at hd2;cases hd2
    refine⟨_,rfl,_,rfl,d,_,rfl,.k (k:=Sum.inr n) (sm _ _ hd2) (by omega),?_⟩
    refine⟨_,as++[D],rfl,fun c o e=>?_,by rw[List.length_append,la];rfl,?_,fun j n' a hn' ha=>?_⟩
    ·rw[a7_ (a4_ e hd)]
     exact sm _ _ (s2 _ _ e)
    ·rw[a1_,bB_ _ nov]
     congr 2
     unfold nearKV
     rw[List.take_add_one,hn,List.zip_append (by rw[List.length_take];omega),List.map_append]
     rfl
    ·by_cases hj:j<as.length
     ·rw[List.getElem?_append_left hj] at ha
      obtain⟨q1,q2,q3⟩:=lists j n' a hn' ha
      refine⟨q1,q2,?_⟩
      rw[a7_ q2]
      exact sm _ _ q3
     ·have hj2:j=i:=by
       have:=(List.getElem?_eq_some_iff.mp ha).1
       rw[List.length_append] at this
       simp only[List.length_singleton] at this
       omega
      subst hj2
      rw[List.getElem?_append_right (by omega),la,Nat.sub_self] at ha
      have ha:D=a:=by simpa using ha
      subst ha
      rw[hn] at hn'
      cases hn'
      refine⟨s2.free hD,neD,?_⟩
      rw[a7_ neD,hD',eo]
      rfl
   ·obtain⟨o,ho,rfl⟩:=av_ hx
    refine⟨_,rfl,rfl,fun Nx hN=>?_⟩
    refine⟨_,rfl,_,rfl,n,o,rfl,fun t ht=>?_⟩
    have s3:Same H' (upd H' t (.tup [.str (ord2 n o).1,.str (ord2 n o).2])):=Same.new ht
    have tz':=((tz.same s2).same sm).same s3
    have lo:out.length<sizeLine:=by
     rw[eo,List.length_map]
     have:=List.length_filter_le (fun o=>decide (ord2 n o∈ts)) (ns.take j)
     rw[List.length_take] at this
     omega
    refine⟨_,rfl,ord2 n o,ts,⟨t,_,_,rfl,.of a1_,rfl,rfl⟩,⟨l2,zs,rfl,.of (s3 _ _ (sm _ _ (s2 _ _ hl2))),g9_ tz'⟩,_,rfl,?_⟩
    refine ite2 (fun c=>?_) (fun c=>?_)
    ·refine⟨_,rfl,out,s3 _ _ hD',lo,hN _ _ ⟨al_ (sm.trans s3) hD,a1_,?_⟩⟩
     have c:decide (ord2 n o∈ts)=true:=by simpa using c
     rw[cx_ _ ho,if_pos c,List.map_append,eo]
     rfl
    ·refine hN _ _ ⟨sm.trans s3,s3 _ _ hD',?_⟩
     have c:¬decide (ord2 n o∈ts)=true:=by simpa using c
     rw[cx_ _ ho,if_neg c,List.append_nil,eo]
  ·rintro σ H2 ⟨v3,as,rfl,s2,la,hd2,lists⟩
   rw[List.length_map] at la hd2
   rw[List.take_length] at hd2
   exact⟨_,rfl,k d as _ s2 hd la hd2 fun j n a h1 h2=>⟨(lists j n a h1 h2).1,(lists j n a h1 h2).2.2⟩⟩
end
end Ev
set_option Elab.async false
set_option linter.all false
set_option maxRecDepth 100000
namespace Ev
open PySem L2
abbrev sInit:Stmt:=inClass sWeb 0
abbrev sHas:Stmt:=inClass sWeb 1
abbrev sHands:Stmt:=inClass sWeb 2
abbrev sStrength:Stmt:=inClass sWeb 3
abbrev sTied:Stmt:=inClass sWeb 5
abbrev sTiesM:Stmt:=inClass sWeb 6
def fstK:List Key->Str
 |.inr a::_=>a
 |_=>⟨#[]⟩
def twoK:List Key->Str × Str
 |[.inr a,.inr b]=>(a,b)
 |_=>(⟨#[]⟩,⟨#[]⟩)
def nmsOf(hs:List (Str × Int)):List Str:=(sortKs (hs.map kH)).map fstK
def tsOf(ts:List (Str × Str)):List (Str × Str):=(sortKs (ts.map fun t=>kT (ord2 t.1 t.2))).map twoK
theorem cL_(ts:List (Str × Str)):(tsOf ts).map kT=sortKs (ts.map fun t=>kT (ord2 t.1 t.2)):=by
 unfold tsOf
 rw[List.map_map]
 have all:∀k∈sortKs (ts.map fun t=>kT (ord2 t.1 t.2)),∃t:Str × Str,k=kT t:=fun k hk=>by
  obtain⟨t,_,e⟩:=List.mem_map.mp ((am_ _).mem_iff.mp hk)
  exact⟨_,e.symm⟩
 generalize sortKs (ts.map fun t=>kT (ord2 t.1 t.2))=l at all
 induction l with
 |nil=>rfl
 |cons k l ih=>
  obtain⟨t,rfl⟩:=all k List.mem_cons_self
  rw[List.map_cons,ih fun k hk=>all k (List.mem_cons_of_mem _ hk)]
  rfl
theorem bx_(hs:List (Str × Int)):∀k∈sortKs (hs.map kH),∃h:Str × Int,h∈hs/\k=kH h:=fun k hk=>by
 obtain⟨t,ht,e⟩:=List.mem_map.mp ((am_ _).mem_iff.mp hk)
 exact⟨t,ht,e.symm⟩
theorem eQ_(hs:List (Str × Int)):((sortH hs).map fun kv=>kV kv.1)=(nmsOf hs).map V.str:=by
 unfold sortH nmsOf
 rw[List.map_map,List.map_map]
 refine List.map_congr_left fun k hk=>?_
 obtain⟨h,_,rfl⟩:=bx_ hs k hk
 rfl
theorem eO_(hs:List (Str × Int)):(sortH hs).map (·.1)=(nmsOf hs).map Sum.inr:=by
 unfold sortH nmsOf
 rw[List.map_map,List.map_map]
 refine List.map_congr_left fun k hk=>?_
 obtain⟨h,_,rfl⟩:=bx_ hs k hk
 rfl
theorem ak_(hs:List (Str × Int)):(nmsOf hs).Perm (hs.map (·.1)):=by
 unfold nmsOf
 have p:=(am_ (hs.map kH)).map fstK
 rw[List.map_map] at p
 exact p
theorem dN_{κ:Type}[DecidableEq κ]{kvs:List (κ × V)}{k:κ}(h:k∈kvs.map (·.1)):(valV kvs k).isSome=true:=by
 rw[<- bM_]
 obtain⟨p,hp,e⟩:=List.mem_map.mp h
 exact List.any_eq_true.mpr ⟨p,hp,decide_eq_true e⟩
theorem dl_{hs:List (Str × Int)}{n:Str}:(valV (sortH hs) (Sum.inr n)).isSome=decide (n∈hs.map (·.1)):=by
 by_cases h:n∈hs.map (·.1)
 ·rw[decide_eq_true h]
  refine dN_ ?_
  rw[eO_]
  exact List.mem_map.mpr ⟨n,(ak_ hs).mem_iff.mpr h,rfl⟩
 ·rw[decide_eq_false h,aE_]
  ·rfl
  ·rw[eO_]
   intro m
   obtain⟨x,hx,e⟩:=List.mem_map.mp m
   cases e
   exact h ((ak_ hs).mem_iff.mp hx)
theorem n12:¬(("strength_by_hand":Str)="sorted_pairs"):=by decide +kernel
theorem n13:¬(("strength_by_hand":Str)="neighbours_by_hand"):=by decide +kernel
theorem n23:¬(("sorted_pairs":Str)="neighbours_by_hand"):=by decide +kernel
def flds(d1 l2 d3:Addr):List (Str × V):=putF "neighbours_by_hand" (.ref d3) (putF "sorted_pairs" (.ref l2) (putF "strength_by_hand" (.ref d1) []))
theorem eR_(d1 l2 d3:Addr):(flds d1 l2 d3).lookup ("strength_by_hand":Str)=some (.ref d1):=by
 unfold flds
 rw[ag_,if_neg n13,ag_,if_neg n12,ag_,if_pos rfl]
theorem jG_(d1 l2 d3:Addr):(flds d1 l2 d3).lookup ("sorted_pairs":Str)=some (.ref l2):=by
 unfold flds
 rw[ag_,if_neg n23,ag_,if_pos rfl]
theorem jp_(d1 l2 d3:Addr):(flds d1 l2 d3).lookup ("neighbours_by_hand":Str)=some (.ref d3):=by
 unfold flds
 rw[ag_,if_pos rfl]
theorem b5_(d1 l2 d3:Addr){m:Str}(h1:¬m="strength_by_hand")(h2:¬m="sorted_pairs")(h3:¬m="neighbours_by_hand"):(flds d1 l2 d3).lookup m=none:=by
 unfold flds
 rw[ag_,if_neg h3,ag_,if_neg h2,ag_,if_neg h1]
 all_goals rfl
structure WebAt (K:PySem.W.Frag) (C:Addr) (H:Hp) (p:Addr) (hs:List (Str × Int)) (ts:List (Str × Str)) (fp:List Addr):Prop where
 ex:∃(dx d1 l2 d3:Addr) (zs:List V) (as:List Addr),fp=p::d1::l2::d3::as/\H p=some (.ins C dx (flds d1 l2 d3))/\H d1=some (.dK (sortH hs))/\H l2=some (.lst zs)/\TupsAt K H zs ((tsOf ts).map kT)/\H d3=some (.dK (nearKV (nmsOf hs) as))/\as.length=(nmsOf hs).length /\
  ∀(i:Nat) n a,(nmsOf hs)[i]? = some n->as[i]? = some a->H a=some (.lst ((near (nmsOf hs) (tsOf ts) n).map V.str))
theorem WebAt.keep{K:PySem.W.Frag}{C:Addr}{H H':Hp}{p:Addr}{hs:List (Str × Int)}{ts:List (Str × Str)}{fp:List Addr}(W:WebAt K C H p hs ts fp)(k:∀b∈fp,∀o,H b=some o->H' b=some o)(kt:∀b xs,H b=some (.tup xs)->H' b=some (.tup xs)):WebAt K C H' p hs ts fp:=by
 obtain⟨dx,d1,l2,d3,zs,as,rfl,h1,h2,h3,h4,h5,h6,h7⟩:=W.ex
 refine⟨dx,d1,l2,d3,zs,as,rfl,k _ (by simp) _ h1,k _ (by simp) _ h2,k _ (by simp) _ h3,Paired.mapP h4 fun y q ⟨a,e,z⟩=>⟨a,e,kt _ _ z⟩,k _ (by simp) _ h5,h6,fun i n a e1 e2=>k _ ?_ _ (h7 i n a e1 e2)⟩
 have:=List.mem_of_getElem? e2
 simp[this]
theorem WebAt.same{K:PySem.W.Frag}{C:Addr}{H H':Hp}{p:Addr}{hs:List (Str × Int)}{ts:List (Str × Str)}{fp:List Addr}(W:WebAt K C H p hs ts fp)(s:Same H H'):WebAt K C H' p hs ts fp:=W.keep (fun b _ o e=>s b o e) fun b xs e=>s b _ e
structure Good (hs:List (Str × Int)) (ts:List (Str × Str)):Prop where
 hok:∀h∈hs,goodH h
 hnd:(hs.map (·.1)).Nodup
 h1:1<=hs.length
 h8:hs.length<=8
 tok:∀t∈ts,goodT t
 tnd:(ts.map fun t=>kT (ord2 t.1 t.2)).Nodup
 t64:ts.length<64
 tin:∀t∈ts,t.1∈hs.map (·.1)/\t.2∈hs.map (·.1)
theorem Good.nnd{hs:List (Str × Int)}{ts:List (Str × Str)}(G:Good hs ts):(nmsOf hs).Nodup:=(ak_ hs).nodup_iff.mpr G.hnd
theorem Good.nlen{hs:List (Str × Int)}{ts:List (Str × Str)}(G:Good hs ts):(nmsOf hs).length=hs.length:=by
 rw[(ak_ hs).length_eq,List.length_map]
theorem cn_(ts:List (Str × Str)):(tsOf ts).length=ts.length:=by
 unfold tsOf
 rw[List.length_map,(am_ _).length_eq,List.length_map]
structure Txt (K:PySem.W.Frag) (mg:Str->Option Value) (C:Addr):Prop where
 cl:Cls K C
 nS:NoAttr K C "strength_by_hand"
 nP:NoAttr K C "sorted_pairs"
 nN:NoAttr K C "neighbours_by_hand"
section
variable{P:Program}{w:World}{K:PySem.W.Frag}{mg:Str->Option Value}{base:Heap}
theorem scInit:FnScope ["self","hands","ties","strengths","checked"] ["self","hands","ties"] (defScope sInit):=⟨rfl,rfl,rfl,by decide +kernel,rfl,by decide +kernel,by decide +kernel⟩
def spInit(K:PySem.W.Frag)(C:Addr):Sp:=fun vs H Q _=>∃(p dx lh lt:Addr) (ys zs:List V) (hs:List (Str × Int)) (ts:List (Str × Str)),vs=[.ref p,.ref lh,.ref lt]/\H p=some (.ins C dx [])/\H lh=some (.lst ys)/\TupsAt K H ys (hs.map kH)/\H lt=some (.lst zs)/\TupsAt K H zs (ts.map kT)/\Good hs ts /\
 ∀fp H',(∀b o,H b=some o->b≠p->H' b=some o)->WebAt K C H' p hs ts fp->(∀b∈fp,b=p∨H b=none)->Q .non H'
theorem iz_{f C:Addr}{fd:FuncData}(F:Fun K "__init__" "Web.__init__" sInit f fd)(T:Txt K mg C)(B:Bi mg)(cS:Cal P w K mg base 4 "checked_strengths" ["hands"] (spStr K))(cT:Cal P w K mg base 4 "checked_ties" ["ties","strengths"] (spTies K))(cN:Cal P w K mg base 2 "neighbours_of_all" ["names","ties"] (spNear K)) :
  FnOk P w K mg base CX0 5 f fd ["self","hands","ties"] (spInit K C):=by
 refine F.ok scInit (fun vs H Q E h=>?_) (fun cdv A outer s H vs Q E hr h=>?_)
 ·obtain⟨p,dx,lh,lt,ys,zs,hs,ts,rfl,_⟩:=h
  rfl
 ·obtain⟨p,dx,lh,lt,ys,zs,hs,ts,rfl,hp,hlh,th,hlt,tt,G,k⟩:=h
  have hr3:Room 3 _:=hr.mono (by decide)
  have hr2:Room 2 _:=hr.mono (by decide)
  refine⟨_,a3_ (ab_ (i:=3) scInit.nd rfl (Or.inl rfl) (a9_ cS hr (a0_ (pv 1) a2_)))
   (a3_ (ab_ (i:=4) scInit.nd rfl (Or.inl rfl) (a9_ cT hr (a0_ (pv 2) (a0_ (pv 3) a2_))))
   (a3_ (dc_ (pv 0) (pv 3) rfl) (a3_ (dc_ (pv 0) (pv 4) rfl)
   (a5_ (dc_ (pv 0) (a9_ cN hr2 (a0_ (aB_ (c3_ rfl) (by rfl) B.list PyProof.Rows.Boot.«list» (a0_ (pv 3) a2_)) (a0_ (pv 4) a2_))) rfl))))),?_⟩
  refine⟨_,rfl,lh,ys,hs,rfl,hlh,th,G.hok,G.hnd,G.h1,G.h8,fun d1 H1 s1 f1 hd1=>?_⟩
  refine⟨_,rfl,_,rfl,lt,d1,zs,ts,_,rfl,s1 _ _ hlt,tt.same s1,G.tok,G.tnd,G.t64,hd1,fun t ht=>?_,fun l2 zs2 H2 s2 f2 hl2 tz=>?_⟩
  ·rw[dl_,dl_]
   exact⟨decide_eq_true (G.tin t ht).1,decide_eq_true (G.tin t ht).2⟩
  have hd12:=s2 _ _ hd1
  have hp2:=s2 _ _ (s1 _ _ hp)
  have p1:p≠d1:=az_ hp2 hd12 (by intro z;cases z)
  have p2:p≠l2:=az_ hp2 hl2 (by intro z;cases z)
  refine⟨_,rfl,_,rfl,p,C,dx,[],rfl,hp2,T.cl,T.nS,by show 0<1000;decide,?_⟩
  refine⟨_,rfl,_,rfl,p,C,dx,_,rfl,a1_,T.cl,T.nP,by show 1<1000;decide,?_⟩
  let H3:Hp:=upd (upd H2 p (.ins C dx (putF "strength_by_hand" (.ref d1) []))) p (.ins C dx (putF "sorted_pairs" (.ref l2) (putF "strength_by_hand" (.ref d1) [])))
  have h3:∀{b o},H2 b=some o->b≠p->H3 b=some o:=fun e ne=>by
   show upd (upd H2 p _) p _ _=_
   rw[a7_ ne,a7_ ne]
   exact e
  have h3p:H3 p=some (.ins C dx (putF "sorted_pairs" (.ref l2) (putF "strength_by_hand" (.ref d1) []))):=a1_
  have none3:∀{b},H3 b=none->H2 b=none:=fun {b} e=>by
   by_cases z:b=p
   ·subst z;rw[h3p] at e;cases e
   ·have e:upd (upd H2 p _) p _ b=none:=e
    rw[a7_ z,a7_ z] at e
    exact e
  have tz3:TupsAt K H3 zs2 ((tsOf ts).map kT):=by
   rw[cL_]
   exact Paired.mapP tz fun y q ⟨a,e,z⟩=>⟨a,e,h3 z (az_ z hp2 (by intro z;cases z))⟩
  refine⟨_,rfl,d1,_,rfl,.inl (h3 hd12 p1.symm),fun l1 hl1=>?_⟩
  rw[eQ_]
  have s4:Same H3 (upd H3 l1 (.lst ((nmsOf hs).map V.str))):=Same.new hl1
  have ne12:l1≠l2:=(a4_ (H:=H3) (h3 hl2 p2.symm) hl1).symm
  refine⟨_,rfl,l1,l2,nmsOf hs,zs2,tsOf ts,rfl,a1_,s4 _ _ (h3 hl2 p2.symm),tz3.same s4,G.nnd,by rw[G.nlen];have:=G.h8;omega,ne12,fun d3 as H5 s5 f5 la hd3 lists=>?_⟩
  have hp5:=s5 _ _ (s4 _ _ h3p)
  refine⟨_,rfl,p,C,dx,_,rfl,hp5,T.cl,T.nN,by show 2<1000;decide,?_⟩
  have up:∀{b o},H2 b=some o->b≠p->upd H5 p (.ins C dx (flds d1 l2 d3)) b=some o:=fun e ne=>by
   rw[a7_ ne]
   exact s5 _ _ (s4 _ _ (h3 e ne))
  have fr5:∀{b},upd H3 l1 (.lst ((nmsOf hs).map V.str)) b=none->H b=none:=fun e=>s1.free (s2.free (none3 (s4.free e)))
  have hd3p:d3≠p:=(a4_ (s4 _ _ h3p) f5).symm
  refine k (p::d1::l2::d3::as) _ (fun b o e ne=>up (s2 _ _ (s1 _ _ e)) ne) ⟨dx,d1,l2,d3,zs2,as,rfl,a1_,up hd12 p1.symm,up hl2 p2.symm,?_,?_,la,fun i n a e1 e2=>?_⟩ fun b hb=>?_
  ·exact Paired.mapP (tz3.same (s4.trans s5)) fun y q ⟨a,e,z⟩=>⟨a,e,by rw[a7_ (az_ z hp5 (by intro z;cases z))];exact z⟩
  ·rw[a7_ hd3p]
   exact hd3
  ·obtain⟨q1,q2⟩:=lists i n a e1 e2
   rw[a7_ (az_ q2 hp5 (by intro z;cases z))]
   exact q2
  ·simp only[List.mem_cons] at hb
   rcases hb with rfl|rfl|rfl|rfl|hb
   ·exact .inl rfl
   ·exact .inr f1
   ·exact .inr (s1.free f2)
   ·exact .inr (fr5 f5)
   ·obtain⟨i,hi,e⟩:=List.getElem_of_mem hb
    have e1:as[i]? = some b:=by rw[List.getElem?_eq_getElem hi,e]
    have hn:i<(nmsOf hs).length:=by omega
    exact .inr (fr5 (lists i _ b (List.getElem?_eq_getElem hn) e1).1)
end
end Ev
set_option Elab.async false
set_option linter.all false
set_option maxRecDepth 100000
namespace Ev
open PySem L2
structure CalM (P:Program) (w:World) (K:PySem.W.Frag) (mg:Str->Option Value) (base:Heap) (C:Addr) (k:Nat) (m:Str) (ps:List Str) (sp:Sp):Prop where
 ex:∃f fd,FnOk P w K mg base CX0 k f fd ps sp/\Meth K C m f/\Binds K fd ps []
theorem cl_{X:Cx}{C:Addr}{k:Nat}{m:Str}{ps:List Str}{sp:Sp}{pos apos:Pos}{o e:Expr}{es:List Expr}{ta:TE}{t:TA}{pl:Sem Bool}(c:CalM X.prog X.w X.K X.mg X.base C k m ps sp)(cl:Cls X.K C)(hr:Room k X.A)(he:PE X o ta)(ha:PA X (e::es) t)
  (hst:starEach (e::es) X.env=(false,eval e X.env)::starEach es X.env:=by rfl) (hpl:(backTo pos (starEach es X.env)).any (·.1)=false:=by rfl)
  (ht:eval (.Call (.Attribute o m apos) (e::es) [] pos) X.env=(do
   let ov <- eval o X.env
   standAt apos.atName
   let (f,first) <- holding [ov] (getMethod ov m pl)
   callWith pos f first (backTo pos (starEach (e::es) X.env)) (backToKw pos (keywordEach [] X.env))):=by rfl) :
  PE X (.Call (.Attribute o m apos) (e::es) [] pos) (tMeth C m sp [] E0 ta t):=by
 obtain⟨f,fd,F,hm,b⟩:=c.ex
 exact gk_ he cl hm F hr b .nil pass0 ha hst hpl ht
theorem bV_{X:Cx}{C:Addr}{k:Nat}{m:Str}{ps:List Str}{sp:Sp}{pos apos:Pos}{o:Expr}{ta:TE}{pl:Sem Bool}(c:CalM X.prog X.w X.K X.mg X.base C k m ps sp)(cl:Cls X.K C)(hr:Room k X.A)(he:PE X o ta)
  (ht:eval (.Call (.Attribute o m apos) [] [] pos) X.env=(do
   let ov <- eval o X.env
   standAt apos.atName
   let (f,first) <- holding [ov] (getMethod ov m pl)
   callWith pos f first (backTo pos (starEach [] X.env)) (backToKw pos (keywordEach [] X.env))):=by rfl) :
  PE X (.Call (.Attribute o m apos) [] [] pos) (tMeth C m sp [] E0 ta tNil):=by
 obtain⟨f,fd,F,hm,b⟩:=c.ex
 exact hp_ he cl hm F hr b .nil pass0 ht
theorem fD_{hs:List (Str × Int)}(nd:(hs.map (·.1)).Nodup){x:Str}{n:Int}(h:(x,n)∈hs):valV (sortH hs) (Sum.inr x)=some (.int n):=by
 have m:((Sum.inr x:Key),V.int n)∈sortH hs:=by
  unfold sortH
  refine List.mem_map.mpr ⟨kH (x,n),(am_ _).mem_iff.mpr (List.mem_map.mpr ⟨_,h,rfl⟩),rfl⟩
 have nk:=cu_ nd
 generalize sortH hs=kvs at m nk
 induction kvs with
 |nil=>cases m
 |cons p r ih=>
  obtain⟨n1,n2⟩:=List.nodup_cons.mp nk
  rcases List.mem_cons.mp m with e|m
  ·rw[<- e]
   exact bi_ rfl
  ·rw[bn_ (fun e:p.1=Sum.inr x=>n1 (List.mem_map.mpr ⟨_,m,e.symm⟩))]
   exact ih m n2
theorem gJ_{ns:List Str}{as:List Addr}(nd:ns.Nodup)(la:as.length=ns.length){i:Nat}{n:Str}(hn:ns[i]? = some n):∃a,as[i]? = some a/\valV (nearKV ns as) (Sum.inr n)=some (.ref a):=by
 induction ns generalizing as i with
 |nil=>simp at hn
 |cons x ns ih=>
  cases as with
  |nil=>cases la
  |cons b as=>
   obtain⟨n1,n2⟩:=List.nodup_cons.mp nd
   cases i with
   |zero=>
    have e:x=n:=by simpa using hn
    subst e
    exact⟨b,rfl,bi_ rfl⟩
   |succ i=>
    have hn:ns[i]? = some n:=by simpa using hn
    obtain⟨a,h1,h2⟩:=ih n2 (by simpa using la) hn
    refine⟨a,by simpa using h1,?_⟩
    show valV ((Sum.inr x,V.ref b)::nearKV ns as) (Sum.inr n)=_
    rw[bn_ fun e=>n1 (by rw[show x=n from Sum.inr.inj e];exact List.mem_of_getElem? hn)]
    exact h2
section
variable{P:Program}{w:World}{K:PySem.W.Frag}{mg:Str->Option Value}{base:Heap}
theorem scHas:FnScope ["self","thing"] ["self","thing"] (defScope sHas):=⟨rfl,rfl,rfl,by decide +kernel,rfl,by decide +kernel,by decide +kernel⟩
def spHas(K:PySem.W.Frag)(C:Addr):Sp:=fun vs H Q _=>∃(p:Addr) (x:Str) (hs:List (Str × Int)) (ts:List (Str × Str)) (fp:List Addr),vs=[.ref p,.str x]/\WebAt K C H p hs ts fp/\Q (.bl (decide (x∈hs.map (·.1)))) H
theorem jr_{f C:Addr}{fd:FuncData}(F:Fun K "has_hand" "Web.has_hand" sHas f fd)(T:Txt K mg C)(B:Bi mg):FnOk P w K mg base CX0 1 f fd ["self","thing"] (spHas K C):=by
 refine F.ok scHas (fun vs H Q E h=>?_) (fun cdv A outer s H vs Q E hr h=>?_)
 ·obtain⟨p,x,hs,ts,fp,rfl,_⟩:=h
  rfl
 ·obtain⟨p,x,hs,ts,fp,rfl,W,k⟩:=h
  have hu:=b1_ hr
  obtain⟨dx,d1,l2,d3,zs,as,rfl,h1,h2,h3,h4,h5,h6,h7⟩:=W.ex
  refine⟨_,a5_ (ad_ (bE_ (ac_ aK_ (by rfl) B.isi PyProof.Rows.Boot.«isinstance» (a0_ (pv 1) (a0_ (aT_ (v:=.ty "str") (by rfl) B.str PyProof.Rows.Boot.«str» rfl) a2_))) (cf_ (eN_ (d5_ hu (pv 1) (aP_ (pv 0) rfl)))))),?_⟩
  refine⟨_,rfl,_,_,_,_,rfl,.str x,rfl,_,rfl,iteT ?_⟩
  refine⟨_,rfl,_,rfl,p,C,dx,_,_,rfl,h1,T.cl,T.nS,eR_ _ _ _,d1,_,rfl,.k (k:=Sum.inr x) h2,?_⟩
  rw[dl_]
  exact k
theorem scHands:FnScope ["self"] ["self"] (defScope sHands):=⟨rfl,rfl,rfl,by decide +kernel,rfl,by decide +kernel,by decide +kernel⟩
def spHands(K:PySem.W.Frag)(C:Addr):Sp:=fun vs H Q _=>∃(p:Addr) (hs:List (Str × Int)) (ts:List (Str × Str)) (fp:List Addr),vs=[.ref p]/\WebAt K C H p hs ts fp/\∀l,H l=none->Q (.ref l) (upd H l (.lst ((nmsOf hs).map V.str)))
theorem hv_{f C:Addr}{fd:FuncData}(F:Fun K "hands" "Web.hands" sHands f fd)(T:Txt K mg C)(B:Bi mg):FnOk P w K mg base CX0 1 f fd ["self"] (spHands K C):=by
 refine F.ok scHands (fun vs H Q E h=>?_) (fun cdv A outer s H vs Q E hr h=>?_)
 ·obtain⟨p,hs,ts,fp,rfl,_⟩:=h
  rfl
 ·obtain⟨p,hs,ts,fp,rfl,W,k⟩:=h
  obtain⟨dx,d1,l2,d3,zs,as,rfl,h1,h2,h3,h4,h5,h6,h7⟩:=W.ex
  refine⟨_,a5_ (ad_ (aB_ (c3_ rfl) (by rfl) B.list PyProof.Rows.Boot.«list» (a0_ (aP_ (pv 0) rfl) a2_))),?_⟩
  refine⟨_,rfl,p,C,dx,_,_,rfl,h1,T.cl,T.nS,eR_ _ _ _,d1,_,rfl,.inl h2,fun l hl=>?_⟩
  rw[eQ_]
  exact k l hl
theorem scStrength:FnScope ["self","hand"] ["self","hand"] (defScope sStrength):=⟨rfl,rfl,rfl,by decide +kernel,rfl,by decide +kernel,by decide +kernel⟩
def spStrength(K:PySem.W.Frag)(C:Addr):Sp:=fun vs H Q _=>∃(p:Addr) (x:Str) (n:Int) (hs:List (Str × Int)) (ts:List (Str × Str)) (fp:List Addr),vs=[.ref p,.str x]/\WebAt K C H p hs ts fp/\(hs.map (·.1)).Nodup/\(x,n)∈hs/\Q (.int n) H
theorem em_{f C:Addr}{fd:FuncData}(F:Fun K "strength" "Web.strength" sStrength f fd)(T:Txt K mg C)(cH:CalM P w K mg base C 1 "has_hand" ["self","thing"] (spHas K C)):FnOk P w K mg base CX0 2 f fd ["self","hand"] (spStrength K C):=by
 refine F.ok scStrength (fun vs H Q E h=>?_) (fun cdv A outer s H vs Q E hr h=>?_)
 ·obtain⟨p,x,n,hs,ts,fp,rfl,_⟩:=h
  rfl
 ·obtain⟨p,x,n,hs,ts,fp,rfl,W,nd,hx,k⟩:=h
  have hu:=b1_ hr
  obtain⟨dx,d1,l2,d3,zs,as,rfl,h1,h2,h3,h4,h5,h6,h7⟩:=id W.ex
  refine⟨_,a3_ (ax_ (aC_ (aH_ (cl_ cH T.cl hr (pv 0) (a0_ (pv 1) a2_)))) ae_ af_) (a5_ (ad_ (aJ_ hu (aP_ (pv 0) rfl) (pv 1) (fun _ _=>rfl)))),?_⟩
  refine⟨_,rfl,p,dx,_,rfl,h1,b5_ _ _ _ (by decide +kernel) (by decide +kernel) (by decide +kernel),_,rfl,p,x,hs,ts,_,rfl,W,_,rfl,?_⟩
  rw[decide_eq_true (List.mem_map.mpr ⟨_,hx,rfl⟩)]
  refine iteF ?_
  refine⟨_,rfl,p,C,dx,_,_,rfl,h1,T.cl,T.nS,eR_ _ _ _,_,rfl,d1,_,rfl,?_,k⟩
  rw[<- fD_ nd hx]
  exact .k (k:=Sum.inr x) h2
theorem jJ_{H:Hp}{hs:List (Str × Int)}{ts:List (Str × Str)}{as:List Addr}{x:Str}(nd:(nmsOf hs).Nodup)(hx:x∈hs.map (·.1))(la:as.length=(nmsOf hs).length)
  (h7:∀(i:Nat) n a,(nmsOf hs)[i]? = some n->as[i]? = some a->H a=some (.lst ((near (nmsOf hs) (tsOf ts) n).map V.str))):∃a,valV (nearKV (nmsOf hs) as) (Sum.inr x)=some (.ref a)/\H a=some (.lst ((near (nmsOf hs) (tsOf ts) x).map V.str)):=by
 obtain⟨i,hi,e⟩:=List.getElem_of_mem ((ak_ hs).mem_iff.mpr hx)
 have hn:(nmsOf hs)[i]? = some x:=by rw[List.getElem?_eq_getElem hi,e]
 obtain⟨a,h1,h2⟩:=gJ_ nd la hn
 exact⟨a,h2,h7 i x a hn h1⟩
theorem scTied:FnScope ["self","one","other"] ["self","one","other"] (defScope sTied):=⟨rfl,rfl,rfl,by decide +kernel,rfl,by decide +kernel,by decide +kernel⟩
theorem dz_{H:Hp}:∀ns:List Str,Paired (rS H) (ns.map V.str) ns
 |[]=>.nil
 |_::ns=>.cons rfl (dz_ ns)
theorem scTiesM:FnScope ["self"] ["self"] (defScope sTiesM):=⟨rfl,rfl,rfl,by decide +kernel,rfl,by decide +kernel,by decide +kernel⟩
def spTiesM(K:PySem.W.Frag)(C:Addr):Sp:=fun vs H Q _=>∃(p:Addr) (hs:List (Str × Int)) (ts:List (Str × Str)) (fp:List Addr),vs=[.ref p]/\WebAt K C H p hs ts fp/\ts.length<64/\∀l zs H',Same H H'->H l=none->H' l=some (.lst zs)->TupsAt K H' zs ((tsOf ts).map kT)->Q (.ref l) H'
theorem hW_{f C:Addr}{fd:FuncData}(F:Fun K "ties" "Web.ties" sTiesM f fd)(T:Txt K mg C)(cA:Cal P w K mg base 1 "ties_anew" ["ties"] (spAnew K)):FnOk P w K mg base CX0 2 f fd ["self"] (spTiesM K C):=by
 refine F.ok scTiesM (fun vs H Q E h=>?_) (fun cdv A outer s H vs Q E hr h=>?_)
 ·obtain⟨p,hs,ts,fp,rfl,_⟩:=h
  rfl
 ·obtain⟨p,hs,ts,fp,rfl,W,h64,k⟩:=h
  obtain⟨dx,d1,l2,d3,zs,as,rfl,h1,h2,h3,h4,h5,h6,h7⟩:=W.ex
  refine⟨_,a5_ (ad_ (a9_ cA hr (a0_ (aP_ (pv 0) rfl) a2_))),?_⟩
  exact⟨_,rfl,p,C,dx,_,_,rfl,h1,T.cl,T.nP,jG_ _ _ _,l2,zs,tsOf ts,rfl,h3,h4,by rw[cn_];omega,k⟩
end
end Ev
set_option Elab.async false
set_option linter.all false
set_option maxRecDepth 100000
namespace L2
open PySem PySem.Spec PyProof.Rows PySem.W
def Ite(K:PySem.W.Frag)(a:Addr):It:=
 ⟨fun i H=>∃xs x,SqL K H a xs/\xs[i]? = some x,fun i H y H'=>∃t x,y=.ref t/\H t=none/\(∀xs,SqL K H a xs->xs[i]? = some x)/\H'=upd H t (.tup [.int i,x]),fun i H=>∃xs,SqL K H a xs/\xs.length=i⟩
theorem Inv.turnedN{X:Cx}{pins:List (Addr × Obj)}{σ:St}{H:Hp}{s:Shared}{h':Heap}{t':Nat}{fp:List Addr}{T:Addr}{xs:List V}{its:List Value}(I:Inv X pins σ H s)(k:∀b o,b∉fp->s.heap.get? b=some o->h'.get? b=some o)(hf:∀b∈fp,FpOk X pins H b)
  (hT:s.heap.objs.size<=T) (hz:xs.length<=sizeLine) (r:Vals xs its) (ht:IsTup h' T its.toArray/\∃o,h'.get? T=some o/\o.dict=none):Inv X pins σ (upd H T (.tup xs)) { s with heap:=h',toks:=t' }:=by
 have fT:H T=none:=I.hok.fresh hT
 have nf:∀b u,H b=some u->b∉fp:=fun b u e hb=>by rw[(hf b hb).1] at e;cases e
 have old:∀{b u},H b=some u->upd H T (.tup xs) b=some u:=fun e=>by rw[a7_ (a4_ e fT)];exact e
 refine I.step (g':=s.gens) (d':=s.drawn) (ch:=fp) (fun b hb=>?_) (fun b o _ _ hc e _=>k b o hc e) (fun b o _ _ hc e _=>⟨o.slots,k b o hc e⟩) (fun b o _ e n=>?_)
  (fun b o hc e=>⟨o,k b o hc e⟩) (fun b ys e=>old e) (fun b o u e=>old e) (fun b ps e=>⟨#[],by rw[Array.append_empty];exact old e⟩) (fun m hm=>?_) (fun b u e=>?_) I.bare
 ·obtain⟨f0,f1,f2,f3,f4,f5⟩:=hf b hb
  exact⟨f3,f1,f4,f5⟩
 ·rw[a7_ (fun z=>by subst z;exact absurd (Heap.lt_size e) (Nat.not_lt.mpr hT))]
  exact n
 ·obtain⟨o,es,ep,ho,r⟩:=hm
  exact⟨o,es,ep,k _ o (fun hb=>(hf _ hb).2.1 rfl) ho,r⟩
 ·by_cases z:b=T
  ·subst z
   rw[a1_] at e
   cases e
   exact⟨hz,its,r,ht⟩
  ·rw[a7_ z] at e
   refine (I.hok b u e).stay (fun c v hc q=>k c v ?_ q) (fun _ q=>old q) fun _ _ q=>old q
   rcases hc with z|z
   ·rw[z];exact nf b u e
   ·exact nf c _ z
theorem Inv.turnedF{X:Cx}{pins:List (Addr × Obj)}{σ:St}{H:Hp}{s:Shared}{h':Heap}{t':Nat}{fp:List Addr}(I:Inv X pins σ H s)(k:∀b o,b∉fp->s.heap.get? b=some o->h'.get? b=some o)(hf:∀b∈fp,FpOk X pins H b):Inv X pins σ H { s with heap:=h',toks:=t' }:=by
 have nf:∀b u,H b=some u->b∉fp:=fun b u e hb=>by rw[(hf b hb).1] at e;cases e
 refine I.step (g':=s.gens) (d':=s.drawn) (ch:=fp) (fun b hb=>?_) (fun b o _ _ hc e _=>k b o hc e) (fun b o _ _ hc e _=>⟨o.slots,k b o hc e⟩) (fun b o _ e n=>n)
  (fun b o hc e=>⟨o,k b o hc e⟩) (fun b ys e=>e) (fun b o u e=>e) (fun b ps e=>⟨#[],by rw[Array.append_empty];exact e⟩) (fun m hm=>?_) (fun b u e=>?_) I.bare
 ·obtain⟨f0,f1,f2,f3,f4,f5⟩:=hf b hb
  exact⟨f3,f1,f4,f5⟩
 ·obtain⟨o,es,ep,ho,r⟩:=hm
  exact⟨o,es,ep,k _ o (fun hb=>(hf _ hb).2.1 rfl) ho,r⟩
 ·refine (I.hok b u e).stay (fun c v hc q=>k c v ?_ q) (fun _ q=>q) fun _ _ q=>q
  rcases hc with z|z
  ·rw[z];exact nf b u e
  ·exact nf c _ z
theorem gM_{P:Program}{w:World}{K:PySem.W.Frag}{elts:List Expr}{k:Nat}{pos:Pos}(a e it:Addr)(h1:e≠it)(h2:a≠e)(h3:a≠it):Turn P w K (.Tuple elts k pos) (Ite K a) [e,it] e (fun i h=>(∃old,IsEnum h e it i old)/\h.IsListIter it a i) where
 mem:=by simp
 obj:=fun i h st b hb=>by
  obtain⟨⟨old,q⟩,o,e2,c,d⟩:=st
  rcases List.mem_cons.mp hb with rfl|hb
  ·exact⟨_,q,fun v z=>by cases z⟩
  ·obtain rfl:b=it:=by simpa using hb
   exact⟨o,e2,fun v z=>by rw[d] at z;cases z⟩
 keep:=fun i h h' st kk=>by
  obtain⟨⟨old,q⟩,st2⟩:=st
  exact⟨⟨old,kk e (by simp) _ q⟩,st2.at fun o q2=>kk it (by simp) o q2⟩
 item:=by
  intro X hP hw hK hc i pins s σ H E I hf st hg
  subst hP hw hK
  obtain⟨xs,x,hq,hx⟩:=hg
  obtain⟨its,rv,p,hz⟩:=I.list hq
  obtain⟨u,hu,ru⟩:=rv.get hx
  have W:=WalksT.enumerate (prog:=X.prog) (w:=X.w) (A:=X.A) (I.ok.hd hc) e it a h1 h2 h3 its.toArray
  have hi:i<its.toArray.size:=by
   simp only[List.size_toArray]
   exact (List.getElem?_eq_some_iff.mp hu).1
  obtain⟨old,he⟩:=st.1
  have hit:=st.2
  refine wpAny_pyNext_enum_item he hit p.isList (x:=u) (by rw[List.getElem?_toArray];exact hu) h1 fun h' ho hit' hTo hsz hk=>?_
  have helt:e<s.heap.objs.size:=Heap.lt_size he
  have hilt:it<s.heap.objs.size:=by obtain⟨_,x,_⟩:=hit;exact Heap.lt_size x
  have mid:(∃x,IsEnumOut h' e it ((i:Int)+1) x s.heap.objs.size)/\h'.IsListIter it a (i+1)/\h'.IsList a its.toArray/\s.heap.objs.size≠e/\s.heap.objs.size≠it:=⟨⟨_,ho⟩,hit',p.isList.at fun o x=>hk a o h2 h3 x,Nat.ne_of_gt helt,Nat.ne_of_gt hilt⟩
  have kk:∀b o,b∉[e,it]->s.heap.get? b=some o->h'.get? b=some o:=fun b o hb x=>hk b o (fun e'=>hb (by simp[e'])) (fun e'=>hb (by simp[e'])) x
  have isT:h'.IsTuple s.heap.objs.size #[.int i s.toks,u]:=⟨_,hTo,rfl,_,rfl⟩
  obtain⟨T,eT⟩:∃T,T=s.heap.objs.size:=⟨_,rfl⟩
  obtain⟨t,et⟩:∃t,t=s.toks:=⟨_,rfl⟩
  obtain⟨tk,htk⟩:∃tk,tk=s.toks+1:=⟨_,rfl⟩
  rw[<- eT] at isT mid hTo ⊢
  have hT:s.heap.objs.size<=T:=Nat.le_of_eq eT.symm
  rw[<- et] at isT hTo
  rw[<- htk]
  refine⟨_,rfl,W.go elts k pos i T { s with heap:=h',toks:=tk } _ _ mid fun h2' st' kk2=>?_⟩
  have nT:T∉[e,it]:=W.apart i T h' mid
  have isT2:h2'.IsTuple T #[.int i t,u]:=by
   obtain⟨o,q,r⟩:=isT
   exact⟨o,kk2 T o nT q,r⟩
  have I1:Inv X pins σ (upd H T (.tup [.int i,x])) { s with heap:=h2',toks:=tk }:=I.turnedN (t':=tk) (fp:=[e,it]) (its:=[.int i t,u]) (fun b o hb q=>kk2 b o hb (kk b o hb q)) hf hT (by show 2<=sizeLine;decide) (.cons ⟨t,rfl⟩ (.cons ru .nil)) ⟨isT2,_,kk2 T _ nT hTo,rfl⟩
  refine⟨.ref T,_,I1,rfl,⟨T,x,rfl,I.hok.fresh hT,fun ys hy=>by rw[I.list_inj hy hq];exact hx,rfl⟩,⟨?_,st'.2.1⟩,fun b hb=>?_⟩
  ·obtain⟨old,q⟩:=st'.1
   exact⟨old,by simpa using q⟩
  ·rw[a7_ (fun z:b=T=>nT (by rw[<- z];exact hb))]
   exact (hf b hb).1
 done:=by
  intro X hP hw hK hc i pins s σ H E I hf st hg
  subst hP hw hK
  obtain⟨xs,hq,hx⟩:=hg
  obtain⟨its,rv,p,hz⟩:=I.list hq
  have W:=WalksT.enumerate (prog:=X.prog) (w:=X.w) (A:=X.A) (I.ok.hd hc) e it a h1 h2 h3 its.toArray
  have hn:its.toArray.size=i:=by
   have:=rv.length
   simp only[List.size_toArray]
   omega
  refine W.done s _ _ (by rw[hn];exact⟨st.1,st.2,p.isList⟩) fun h' tk kk=>⟨rfl,I.turnedF (t':=tk) (fp:=[e,it]) kk hf⟩
 self:=fun A i s Q E st h=>by
  obtain⟨old,q⟩:=st.1
  exact wpAny_pyIter_enum q h
def iEnum(K:PySem.W.Frag)(ta:TA):TI:=fun σ H R=>ta σ H fun vs H1=>∃a,vs=[.ref a]/\(∃xs,SqL K H1 a xs)/\R (Ite K a) H1
theorem ja_{X:Cx}{elts:List Expr}{kk:Nat}{p2:Pos}{a:Expr}{ta:TA}{p pos:Pos}(hg:Gl X "enumerate")(hm:X.mg "enumerate"=none)(ha:PA X [a] ta)(hs:starEach [a] X.env=[(false,eval a X.env)]:=by rfl):PI X (.Tuple elts kk p2) (.Call (.Name "enumerate" p) [a] [] pos) (iEnum X.K ta):=by
 intro pins s σ H R I h
 refine Call_ (cO_ I hg hm boot_enumerate (PyProof.Rows.callWith_type1 (thn (ha pos pins s σ H _ I h) fun us s1 ⟨vs,H1,I1,r1,q1⟩=>?_) hs rfl))
 obtain⟨l,e,⟨xs,hq⟩,q⟩:=q1
 subst e
 cases r1 with
 |cons r rr=>
  cases rr
  cases r
  obtain⟨its,rv,pl,hz⟩:=I1.list hq
  have ll:l<s1.heap.objs.size:=by obtain⟨_,e,_⟩:=pl.isList;exact Heap.lt_size e
  refine call_enumerate_list pl.isList fun h' he hi hn kp=>?_
  refine wpAny_pyIter_enum he ?_
  refine⟨s1.heap.objs.size+1,[s1.heap.objs.size+1,s1.heap.objs.size],_,_,H1,rfl,I1.kept (t':=s1.toks) kp,gM_ l _ _ (Nat.succ_ne_self _) (Nat.ne_of_lt (Nat.lt_succ_of_lt ll)) (Nat.ne_of_lt ll),⟨⟨_,he⟩,hi⟩,fun b hb=>?_,q⟩
  have e:s1.heap.objs.size<=b:=by
   rcases List.mem_cons.mp hb with rfl|hb
   ·exact Nat.le_succ _
   ·obtain rfl:b=s1.heap.objs.size:=by simpa using hb
    exact Nat.le_refl _
  exact I1.fpOk e (I1.hok.fresh e)
theorem hH_{K:PySem.W.Frag}{a:Addr}{xs:List V}{g:TG}{tb:TS}{D:Ends}{σ:St}{H:Hp}(Pv:Nat->St->Hp->Prop)(h0:Pv 0 σ H)(hl:∀i σ H,i<=xs.length->Pv i σ H->SqL K H a xs)
  (hs:∀i x σ H,xs[i]? = some x->Pv i σ H->∀t,H t=none->g (.ref t) σ (upd H t (.tup [.int i,x])) fun σ2 H2=>tb { D with nx:=Pv (i+1),ct:=Pv (i+1),bk:=D.nx } σ2 H2) (hd:∀σ H,Pv xs.length σ H->D.nx σ H) :
  ∃W:Nat->Nat->St->Hp->Prop,(∃m,W 0 m σ H)/\∀i m σ H,W i m σ H->
   ((Ite K a).stop i H/\D.nx σ H)∨((Ite K a).go i H/\∃N:St->Hp->Prop,(∀σ' H',N σ' H'->∃m',m'<m/\W (i+1) m' σ' H')/\∀x H',(Ite K a).yld i H x H'->g x σ H' fun σ2 H2=>tb { D with nx:=N,ct:=N,bk:=D.nx } σ2 H2):=by
 refine⟨fun i m σ H=>m=xs.length - i/\i<=xs.length/\Pv i σ H,⟨xs.length,by simp,Nat.zero_le _,h0⟩,?_⟩
 rintro i m σ H ⟨rfl,hi,p⟩
 have q:=hl i σ H hi p
 by_cases hlt:i<xs.length
 ·refine .inr ⟨⟨xs,xs[i],q,by simp[hlt]⟩,Pv (i+1),fun σ' H' p'=>⟨xs.length - (i+1),by omega,rfl,hlt,p'⟩,fun x H' y=>?_⟩
  obtain⟨t,x,rfl,ht,y,rfl⟩:=y
  exact hs i x σ H (y xs q) p t ht
 ·have e:i=xs.length:=by omega
  subst e
  exact .inl ⟨⟨xs,q,rfl⟩,hd σ H p⟩
end L2
set_option Elab.async false
set_option linter.all false
set_option maxRecDepth 100000
namespace L2
open PySem PySem.Spec PyProof.Rows
theorem ObjOk.here{P:Program}{w:World}{H:Hp}{h:Heap}{a:Addr}{o:HO}(x:ObjOk P w H h a o):∃u,h.get? a=some u:=by
 cases o with
 |lst xs=>obtain⟨_,_,_,_,e⟩:=x;exact⟨_,e⟩
 |tup xs=>obtain⟨_,_,_,⟨o,e,_⟩,_⟩:=x;exact⟨_,e⟩
 |dK kvs=>obtain⟨_,_,_,_,o,_,_,e,_⟩:=x;exact⟨_,e⟩
 |dT kvs=>obtain⟨_,_,_,_,o,_,_,e,_⟩:=x;exact⟨_,e⟩
 |set S n=>obtain⟨o,_,_,_,e,_⟩:=x;exact⟨_,e⟩
 |ins C dx fs=>obtain⟨_,_,_,e,_⟩:=x;exact⟨_,e⟩
 |own y=>exact x
 |xd fs=>obtain⟨_,⟨_,_,_,e,_⟩,_⟩:=x;exact⟨_,e⟩
 |rng lo hi=>obtain⟨_,_,_,e⟩:=x;exact⟨_,e⟩
 |frz ob u=>obtain⟨e,_⟩:=x;exact⟨_,e⟩
 |tbl ps=>exact⟨_,show h.get? a=some _ from x⟩
 |met f y=>exact⟨_,show h.get? a=some _ from x⟩
 |ext φ=>obtain⟨_,e,_⟩:=x;exact e
def InB(B:Heap)(l:List Env)(H:Hp)(h0 h:Heap):Prop:=
 ∀b o,h.get? b=some o->b∉frs l->((H b).isSome=true∨∃o0,h0.get? b=some o0)->B.get? b=some o
section
variable{P:Program}{w:World}{H H':Hp}{B h0 h h1:Heap}{l:List Env}
theorem gp_(hok:HOk P w H' h)(fr:∀b∈frs l,H' b=none)(i:InB B l H' h0 h)(st:B.StaysIn h1):HOk P w H' h1:=fun b o e=>
 (hok b o e).stay (fun c u hc q=>by
  have hs:∃x,H' c=some x:=by
   rcases hc with z|z
   ·exact⟨o,z▸e⟩
   ·exact⟨_,z⟩
  obtain⟨x,hx⟩:=hs
  exact st c u (i c u q (fun m=>by rw[fr c m] at hx;cases hx) (.inl (by rw[hx];rfl)))) (fun _ q=>q) (fun _ _ q=>q)
theorem hc_(un:Un (frs l) [] H H' h0 h)(ff:h.FunFrames B l)(i:InB B l H' h0 h)(st:B.StaysIn h1)(up:h.UpToSlots h1):Un (frs l) [] H H' h0 h1 where
 keep:=fun b o q n hb hx=>st b o (i b o (un.keep b o q n hb hx) hb (.inr ⟨o,q⟩))
 slot:=fun b o q n hb hx=>by
  obtain⟨sl,e⟩:=un.slot b o q n hb hx
  obtain⟨_,o',e',d⟩:=ff.mem hb
  rw[e] at e';cases e'
  obtain⟨sl2,e2⟩:=up b _ e d
  exact⟨sl2,e2⟩
 free:=un.free
 there:=fun b o q hx=>by
  obtain⟨o',e⟩:=un.there b o q hx
  by_cases hb:b∈frs l
  ·obtain⟨_,o2,e',d⟩:=ff.mem hb
   rw[e] at e';cases e'
   obtain⟨sl2,e2⟩:=up b _ e d
   exact⟨_,e2⟩
  ·exact⟨o',st b o' (i b o' e hb (.inr ⟨o,q⟩))⟩
 tups:=un.tups
 frzs:=un.frzs
 tbls:=un.tbls
theorem hV_(hok:HOk P w H' h)(un:Un (frs l) [] H H' h0 h)(i:InB B l H' h0 h)(st:B.StaysIn h1):InB B l H' h0 h1:=fun b o e hb c=>by
 have:∃u,h.get? b=some u:=by
  rcases c with z|⟨o0,z⟩
  ·obtain⟨x,hx⟩:=Option.isSome_iff_exists.mp z
   exact (hok b x hx).here
  ·exact un.there b o0 z (by simp)
 obtain⟨u,hu⟩:=this
 have q:=i b u hu hb c
 have:=st b u q
 rw[e] at this;cases this
 exact q
end
def CX1(P:Program)(w:World):CXT:=fun l H s E e s'=>
 ∃a cls H' B a0,e=Value.ref a/\s'.os=s.os/\AllBare s'.gens/\Un (frs l) [] H H' s.heap s'.heap/\HOk P w H' s'.heap/\Heap.FlyingW B l a cls a0 s'.heap/\InB B l H' s.heap s'.heap/\E cls none H'
section
variable{X:Cx}{pins:List (Addr × Obj)}{σ:St}{H H':Hp}{s s1:Shared}{B h:Heap}{a:Addr}{cls a0:Value}{E:XK}
theorem hq_(I:Inv X pins σ H s)(un:Un (frs X.stack) [] H H' s.heap h):∀b∈frs X.stack,H' b=none:=fun b hb=>by
 obtain⟨_,o,ho,_⟩:=I.stack.mem hb
 exact un.free b o ho (I.stkFree b hb) (by simp)
theorem fP_(I:Inv X pins σ H s)(hex:X.ex=[])(os:s1.os=s.os)(bare:AllBare s1.gens)(un:Un (frs X.stack) [] H H' s.heap h)(hok:HOk X.prog X.w H' h)(i:InB B X.stack H' s.heap h)(ff:h.FunFrames B X.stack)(up:h.UpToSlots s1.heap)
  (fl:Heap.FlyingW B X.outer a cls a0 s1.heap) (hE:E cls none H'):CX1 X.prog X.w X.outer X.H₀ X.s₀ E (.ref a) s1:=by
 have un1:=hc_ un ff i fl.1 up
 have hok1:=gp_ hok (hq_ I un) i fl.1
 have I1:Inv X pins σ H' s1:=I.call' os un1 hok1 bare (fun b z=>absurd z (by simp))
 have bs:=I1.base
 rw[hex] at bs
 refine⟨a,cls,H',B,a0,rfl,I1.os,I1.bare,bs,I1.hok,fl,fun b o e hb c=>?_,hE⟩
 have nL:b≠X.env.locals:=by
  rcases c with z|⟨o0,z⟩
  ·intro q
   rw[q,I1.free] at z
   cases z
  ·exact Nat.ne_of_lt (Nat.lt_of_lt_of_le (Heap.lt_size z) I.ok.above)
 refine hV_ hok un i fl.1 b o e (fun hm=>?_) (c.imp id fun⟨o0,z⟩=>I.base.there b o0 z (by rw[hex];simp))
 rcases List.mem_cons.mp (I.stkSub b hm) with z|z
 ·exact nL z
 ·exact hb z
end
section
variable{P:Program}{w:World}{K:PySem.W.Frag}{mg:Str->Option Value}{base:Heap}{N:List Str}{qual:Str}{scope:Scope}{f:Addr}{cd:Value}{A:Around}{outer:List Env}{s:Shared}{H:Hp}{E:XK}
def Raises(X:Cx)(E:XK):Prop:=∀(pins:List (Addr × Obj)) (σ:St) (H:Hp) (s:Shared) (h':Heap) (e:Addr) (cls:Value) (vs:List Value),Inv X pins σ H s->Heap.MadeExcOf s.heap h' e cls vs->E cls none H->X.xe (.ref e) { s with heap:=h' }
theorem raises1:Raises (cxOf (CX1 P w) P w K mg base N qual scope f cd A outer s H E) E:=by
 intro pins σ H1 s1 h' e cls vs I hx hE
 have ff:=PySem.W.funFrames_hide (as:=frs (cxOf (CX1 P w) P w K mg base N qual scope f cd A outer s H E).stack) I.stack (fun env he b hb=>List.mem_filterMap.mpr ⟨env,he,hb⟩)
 refine wpAny_leaves_madeW (base:=PySem.W.hideAll s1.heap (frs (cxOf (CX1 P w) P w K mg base N qual scope f cd A outer s H E).stack)) (h:=s1.heap) I.ok.frames rfl (fun b o q=>PySem.W.of_hideAll _ q) ff hx fun h1 t fl tup nt up=>?_
 exact fP_ (s1:={ s1 with heap:=h1 }) I rfl rfl I.bare Un.refl I.hok (fun b o q hb _=>PySem.W.hideAll_get _ q hb) ff ((Heap.UpToSlots.of_keeps hx.keeps).trans up) fl hE
end
section
variable{X:Cx}{x:Str}{C:Addr}{bm:List Value}{B newId initId:String}{np cpos pos:Pos}{e₀:Expr}{t:TA}{E:XK}
theorem jU_{K:PySem.W.Frag}{h:Heap}{mg:Str->Option Value}{bmB:List Value}(X:K.In h)(hm:mg x=some (.ref C))(q:PySem.W.excIn K C bmB newId=true):OwnCls x C bmB newId mg h:=by
 refine⟨hm,?_⟩
 unfold PySem.W.excIn at q
 split at q
 ·rename_i dd cd sl ho
  split at q
  ·rename_i C' bm k0 k1 k2 k3 n k5 hm' hs
   simp only[Bool.and_eq_true,beq_iff_eq,Bool.not_eq_true'] at q
   obtain⟨⟨⟨⟨⟨rfl,rfl⟩,hdel⟩,ht⟩,hok⟩,hni⟩:=q
   obtain⟨nm,bs,mro,ns,qn,hd,sn,sub,ab,col,del⟩:=cd
   dsimp only at hm' hdel hok hni
   subst hm' hdel
   have hsl:sl=#[k0,k1,k2,k3,some (.builtin n),k5]:=by
    obtain⟨l⟩:=sl
    simp only at hs
    rw[hs]
   subst hsl
   exact⟨bm,ns,nm,qn,bs,hd,sn,sub,ab,col,dd,k0,k1,k2,k3,k5,_,X _ _ ho,.of_isNs (PySem.W.isNs_of_in X hok),PySem.W.nsMap_none_of_in X hok hni,PySem.W.tail_of_in X ht⟩
  ·cases q
 ·cases q
def tRaise(cls:Value)(E:XK)(t:TA):TS:=fun _ σ H=>t σ H fun vs H1=>vs.length<=sizeLine/\E cls none H1
theorem eP_(hh:X.calm=true)(R:Raises X E)(hm:X.mg x=some (.ref C))(qx:PySem.W.excIn X.K C bm newId=true)(FB:ExcBaseFacts B newId initId bm)(hg:Gl X x)(ha:PA X [e₀] t)
  (he:starEach [e₀] X.env=(false,eval e₀ X.env)::starEach [] X.env:=by rfl) (hpl:(backTo cpos (starEach [e₀] X.env)).any (·.1)=false:=by rfl) (hd:(x == ("__debug__":Str))=false:=by decide) :
  PS X (.Raise (some (.Call (.Name x np) [e₀] [] cpos)) none pos) (tRaise (.ref C) E t):=by
 intro pins s σ H D I h
 have O:=jU_ I.ok.mod.kin hm qx
 obtain⟨tl,N,nm,q,bs,hdct,sn,sub,ab,col,dd,k0,k1,k2,k3,k5,mN,hC,hN,hni,T⟩:=O.obj
 refine wpAny_Raise_call_subT (C:=C) (nm:=nm) (q:=q) (N:=N) (bs:=bs) (bm:=tl) (hdct:=hdct) (sn:=sn) (sub:=sub) (ab:=ab) (col:=col) (dd:=dd) (k0:=k0) (k1:=k1) (k2:=k2) (k3:=k3) (k5:=k5)
  FB (mN:=mN) (T.hasType FB.hasBase) (I.ok.hd hh) hpl hni (dm_ I hg O.bound ⟨rfl,?_⟩ hd)
 have ha':=ha cpos pins s σ H _ I h
 rw[he] at ha' ⊢
 refine Calls.evalArgs_plain (wpAny_mono ha' (fun us s₂ ⟨vs,H1,I1,r,z,q⟩=>⟨rfl,by rw[<- r.length];exact z,I1.bk _ _ hC,hN.keeps I1.bk,T.keeps I1.bk,fun h' e hm=>R pins σ H1 s₂ h' e _ _ I1 hm q⟩) fun _ _ y=>y)
end
section
variable{P:Program}{w:World}{K:PySem.W.Frag}{mg:Str->Option Value}{base:Heap}
theorem Fun.okX{x qual:Str}{st:Stmt}{f:Addr}{fd:FuncData}{N ps:List Str}{k:Nat}{sp:Sp}(F:Fun K x qual st f fd)(S:FnScope N ps (defScope st))(len:∀vs H Q E,sp vs H Q E->vs.length=ps.length)
  (hbody:∀(cdv:Value) (A:Around) (outer:List Env) (s:Shared) (H:Hp) (vs:List V) (Q:VK) (E:XK),Room k (A.deeper (envOfC qual (defScope st) s.heap.objs.size f cdv))->sp vs H Q E->
   ∃t,PSs (cxOf (CX1 P w) P w K mg base N qual (defScope st) f cdv A outer s H E) (defBody st) t/\t { nx:=fun _ H'=>Q .non H',rt:=Q } (start N vs) H):FnOk P w K mg base (CX1 P w) (k+1) f fd ps sp:=by
 obtain⟨oc,od,kV,doc,pm,an,cdv,ct,osl,rfl,lk,hcd⟩:=F.ex
 refine jE_ lk hcd S len fun A outer s H vs Q E hr hsp=>?_
 obtain⟨t,h,q⟩:=hbody cdv A outer s H vs Q E hr hsp
 exact⟨t,h,q⟩
end
end L2
set_option Elab.async false
set_option linter.all false
set_option maxRecDepth 100000
namespace L2
open PySem PySem.Spec PySem.Calls PyProof.Rows PySem.W Builtin Builtin.ObjectAttr Builtin.Getset_descriptor
structure ExcK (K:PySem.W.Frag) (C:Addr):Prop where
 cl:(clsIn K C).isSome=true
 ga:findIn K (.ref C) "__getattribute__"=some (some (.builtin "BaseException.__getattribute__"))
 ha:findIn K (.ref C) "__getattr__"=some none
 ca:findIn K (.ref C) "__class__"=some (some (.builtin "object.__class__"))
 gt:specialIn K (.builtin "object.__class__") "__get__"=some (some (.builtin "getset_descriptor.__get__"))
 tk:takesIn K (.builtin "object.__class__")=some true
 mo:mroIn K C (.type "object")=some true
 mb:mroIn K C (.type "BaseException")=some true
section
variable{prog:Program}{w:World}{A:Around}{E:Value->Shared->Prop}{s:Shared}{K:PySem.W.Frag}{x C:Addr}
end
section
variable{X:Cx}
def rIsiC(K:PySem.W.Frag):List V->Hp->VK->Prop:=fun xs H Q=>∃x C t b,xs=[x,.ref C]/\TyOf K H x t/\PySem.W.kitOne K t (.ref C)=some b/\Q (.bl b) H
theorem gE_:CallR X (.builtin "isinstance") (rIsiC X.K):=by
 intro pins s σ H xs us Q I r h
 obtain⟨x,C,t,b,rfl,ty,e,q⟩:=h
 obtain⟨u,w',rfl,ru,rw'⟩:=vals2 r
 cases (show w'=Value.ref C from rw')
 exact dF_ I ru ty e fun tk=>⟨.bl b,H,I.tok tk,rfl,q⟩
end
end L2
set_option Elab.async false
set_option linter.all false
set_option maxRecDepth 100000
namespace L2
open PySem PySem.Spec PyProof.Rows
section
variable{X:Cx}{pins:List (Addr × Obj)}{σ:St}{H:Hp}{s:Shared}{a:Addr}
end
section
variable{X:Cx}{st:Stmt}{e c:Expr}{te:XS->TE}{t u:XS->TS}{pos:Pos}{a b:List Stmt}{tc:TT}
end
section
variable{X:Cx}{k:Nat}{f C:Addr}{fd:FuncData}{ps:List Str}{sp:Sp}{dvs:List V}{ds:List Value}{ES:XS}{x m:Str}{p pos apos:Pos}{e o:Expr}{es:List Expr}{ta:TE}{t:TA}
end
section
variable{X:Cx}{i:Nat}{x n:Str}{D C:Addr}{np hpos pos:Pos}{b₀:Stmt}{suite body:List Stmt}{tb:XS->TS}{ts:TS}
end
end L2
set_option Elab.async false
set_option linter.all false
set_option maxRecDepth 100000
namespace L2
open PySem
end L2
namespace Ev
open PySem L2
abbrev sCWays:Stmt:=top 45
abbrev sCPiece:Stmt:=top 46
abbrev sCPieces:Stmt:=top 47
abbrev sGoods:Stmt:=top 48
abbrev sCell:Stmt:=top 50
abbrev sDigit:Stmt:=top 51
abbrev sNames:Stmt:=top 52
abbrev sLWeb:Stmt:=top 53
abbrev sWays:Stmt:=top 54
abbrev sPieces:Stmt:=top 55
abbrev sGd:Stmt:=top 17
abbrev sLM:Stmt:=top 18
abbrev sCStand:Stmt:=top 21
abbrev sLoadsAt:Stmt:=top 22
abbrev sMult:Stmt:=top 23
abbrev sLevels:Stmt:=top 24
abbrev sHeightsAt:Stmt:=top 25
abbrev sLoads:Stmt:=top 29
abbrev sHeights:Stmt:=top 30
abbrev sPiecesAt:Stmt:=top 31
abbrev sSumAt:Stmt:=top 28
abbrev sFrac:Stmt:=top 19
abbrev sRise:Stmt:=top 26
abbrev sSpreadAt:Stmt:=top 27
abbrev sSpread:Stmt:=top 33
abbrev sSteep:Stmt:=top 34
abbrev sSumOf:Stmt:=top 32
abbrev sStand:Stmt:=top 56
abbrev sAlike:Stmt:=top 57
abbrev sTurned:Stmt:=top 58
abbrev sTold:Stmt:=top 59
abbrev sScaled:Stmt:=top 60
abbrev sStronger:Stmt:=top 61
abbrev sLaw:Stmt:=top 62
def But(l:Addr)(H H':Hp):Prop:=∀b o,H b=some o->b≠l->H' b=some o
theorem But.refl(l:Addr)(H:Hp):But l H H:=fun _ _ e _=>e
theorem But.trans{l:Addr}{H H1 H2:Hp}(h:But l H H1)(h2:But l H1 H2):But l H H2:=fun b o e n=>h2 b o (h b o e n) n
theorem But.of{l:Addr}{H H1:Hp}(h:Same H H1):But l H H1:=fun b o e _=>h b o e
theorem But.upd{l:Addr}{H:Hp}{o:HO}:But l H (upd H l o):=fun b u e n=>by rw[a7_ n];exact e
def stt(H:Hp)(l:Addr):Prop:=(∃n:Int,H l=some (.lst [.int n]))∨∃n m c:Int,H l=some (.lst [.int n,.int m,.int c])
theorem stt.some{H:Hp}{l:Addr}(h:stt H l):∃xs,H l=some (.lst xs):=by
 rcases h with⟨n,e⟩|⟨n,m,c,e⟩
 ·exact⟨_,e⟩
 ·exact⟨_,e⟩
theorem But.free{l b:Addr}{H H':Hp}(h:But l H H')(s:stt H' l)(e:H' b=none):H b=none:=by
 cases z:H b with
 |none=>rfl
 |some o=>
  by_cases q:b=l
  ·subst q
   obtain⟨xs,e2⟩:=s.some
   rw[e] at e2
   cases e2
  ·rw[h b o z q] at e
   cases e
theorem atI_nat{α:Type}{xs:List α}{i:Int}(h0:0<=i)(h1:i<xs.length):atI xs i=xs[i.toNat]?:=by
 unfold atI ixN
 rw[if_pos h0,if_pos h1]
 rfl
section
variable{P:Program}{w:World}{K:PySem.W.Frag}{mg:Str->Option Value}{base:Heap}
def spDigit:Sp:=fun vs H Q _=>∃(l:Addr) (b:Int),vs=[.ref l,.int b]/\0<b/\b<1073741824/\stt H l/\∀r H',0<=r->r<b->But l H H'->stt H' l->Q (.int r) H'
theorem small(x:Int):-(2 ^ 64)<x % 2147483647/\x % 2147483647<2 ^ 64:=by
 have h1:=Int.emod_nonneg x (b:=2147483647) (by decide)
 have h2:=Int.emod_lt_of_pos x (b:=2147483647) (by decide)
 exact⟨by omega,by omega⟩
end
end Ev
namespace Ev
open PySem L2
theorem fj_:("abcdefghijklmnopqrstuvwxyz":Str).cps.toList=[97,98,99,100,101,102,103,104,105,106,107,108,109,110,111,112,113,114,115,116,117,118,119,120,121,122]:=by decide +kernel
theorem jQ_{r:Int}(h0:0<=r)(h1:r<26):∃c,atI ("abcdefghijklmnopqrstuvwxyz":Str).cps.toList r=some c/\okc c=true:=by
 rw[fj_,atI_nat h0 (by simpa using h1)]
 have hn:r.toNat<26:=by omega
 refine⟨_,List.getElem?_eq_getElem (by simpa using hn),?_⟩
 have all:∀c∈[97,98,99,100,101,102,103,104,105,106,107,108,109,110,111,112,113,114,115,116,117,118,119,120,121,122],okc c=true:=by decide +kernel
 exact all _ (List.getElem_mem _)
end Ev
namespace Ev
open PySem L2
theorem hit2{α:Type}{a b:α}{r:Int}(h0:0<=r)(h1:r<2):atI [a,b] r=some a∨atI [a,b] r=some b:=by
 have:r=0∨r=1:=by omega
 rcases this with rfl|rfl
 ·exact .inl rfl
 ·exact .inr rfl
section
theorem ay_{K:PySem.W.Frag}{H H':Hp}{l:Addr}{ys:List V}{ks:List (List Key)}(t:TupsAt K H ys ks)(b:But l H H'){xs:List V}(hl:H l=some (.lst xs)):TupsAt K H' ys ks:=Paired.mapP t fun y k ⟨a,z,q⟩=>⟨a,z,b _ _ q (az_ q hl (by intro z;cases z))⟩
theorem dU_{K:PySem.W.Frag}{H:Hp}{D:Addr}{ns:List Str}(h:H D=some (.lst (ns.map V.str))):rL K rS H (.ref D) ns:=⟨D,_,rfl,.of h,dz_ ns⟩
end
end Ev
namespace Ev
open PySem L2
def kO(t:Str × Str):List Key:=kT (ord2 t.1 t.2)
structure TI (ns:List Str) (k j:Nat) (ts:List (Str × Str)):Prop where
 at':∀t∈ts,∃(a b:Nat) (x y:Str),b<a/\(a<k∨(a=k/\b<j))/\ns[a]? = some x/\ns[b]? = some y/\(t=(x,y)∨t=(y,x))
 nd:(ts.map kO).Nodup
 len:ts.length<=7 * k+j
theorem eY_{a b:Str × Str}(h:kT a=kT b):a=b:=by
 unfold kT at h
 obtain⟨h1,h2⟩:=List.cons.inj h
 obtain⟨h2,_⟩:=List.cons.inj h2
 exact Prod.ext (Sum.inr.inj h1) (Sum.inr.inj h2)
theorem cN_{ns:List Str}(nd:ns.Nodup){i j:Nat}{x:Str}(h:ns[i]? = some x)(h2:ns[j]? = some x):i=j:=by
 obtain⟨hi,e1⟩:=List.getElem?_eq_some_iff.mp h
 obtain⟨hj,e2⟩:=List.getElem?_eq_some_iff.mp h2
 exact (List.getElem_inj nd).mp (e1.trans e2.symm)
theorem jC_{a b c d:Str}(h:kO (a,b)=kO (c,d)):(a=c/\b=d)∨(a=d/\b=c):=by
 have h:=eY_ h
 dsimp only at h
 rcases cP_ a b with e|e<;>rcases cP_ c d with e2|e2<;>rw[e,e2] at h<;>have h1:=(Prod.mk.inj h).1<;>have h2:=(Prod.mk.inj h).2
 ·exact .inl ⟨h1,h2⟩
 ·exact .inr ⟨h1,h2⟩
 ·exact .inr ⟨h2,h1⟩
 ·exact .inl ⟨h2,h1⟩
theorem f2_(ns:List Str)(k:Nat):cutV (ns.map V.str) none (some (k:Int))=(ns.take k).map V.str:=by
 unfold cutV
 rw[HT.sIx_none,HT.sIx_nat,List.drop_zero,Nat.sub_zero,List.map_take,List.length_map]
 by_cases h:k<=ns.length
 ·rw[Nat.min_eq_left h]
 ·rw[Nat.min_eq_right (by omega),List.take_of_length_le (by rw[List.length_map];omega),List.take_of_length_le (by rw[List.length_map];omega)]
theorem stt.same{H H':Hp}{l:Addr}(h:stt H l)(s:Same H H'):stt H' l:=by
 rcases h with⟨n,e⟩|⟨n,m,c,e⟩
 ·exact .inl ⟨n,s _ _ e⟩
 ·exact .inr ⟨n,m,c,s _ _ e⟩
end Ev
set_option Elab.async false
set_option linter.all false
set_option maxRecDepth 100000
namespace Ev
open PySem L2
theorem gg_(a:Str):ltS a a=false:=gG_ (Sum.inr a)
theorem g6_{a b:Str}(h:ltS a b=true):ltS b a=false:=e7_ (a:=Sum.inr a) (b:=Sum.inr b) h
theorem iS_{a b:Str}(h:ltS a b=false)(h2:ltS b a=false):a=b:=Sum.inr.inj (g2_ (a:=Sum.inr a) (b:=Sum.inr b) h h2)
theorem lexS(a b:Str):lexK (keyS a) (keyS b)=ltS a b:=by
 show (if (Sum.inr a:Key)=Sum.inr b then false else ltS a b)=ltS a b
 by_cases h:a=b
 ·subst h
  rw[if_pos rfl,gg_]
 ·rw[if_neg fun e=>h (Sum.inr.inj e)]
def SAsc(ns:List Str):Prop:=ns.Pairwise fun a b=>ltS b a=false
theorem SAsc.keys{ns:List Str}(h:SAsc ns):Asc (ns.map keyS):=by
 unfold Asc
 rw[List.pairwise_map]
 exact h.imp fun q=>by rw[lexS];exact q
theorem cJ_{a b:List Str}(p:a.Perm b)(h1:SAsc a)(h2:SAsc b):a=b:=fk_ (c9_ (p.map keyS) h1.keys h2.keys)
theorem cH_(ss:List Str):SAsc (sortS ss):=by
 have h:=by_ (ss.map keyS)
 rw[<- cb_] at h
 unfold Asc at h
 rw[List.pairwise_map] at h
 exact h.imp fun q=>by rw[lexS] at q;exact q
theorem iZ_(hs:List (Str × Int)):SAsc (nmsOf hs):=by
 unfold nmsOf SAsc
 rw[List.pairwise_map]
 refine (by_ (hs.map kH)).imp_of_mem fun {a b} ha hb q=>?_
 obtain⟨x,_,rfl⟩:=bx_ hs a ha
 obtain⟨y,_,rfl⟩:=bx_ hs b hb
 show ltS y.1 x.1=false
 by_cases h:y.1=x.1
 ·rw[h,gg_]
 ·have q:(if (Sum.inr y.1:Key)=Sum.inr x.1 then lexK [Sum.inl y.2] [Sum.inl x.2] else ltS y.1 x.1)=false:=q
  rwa [if_neg fun e=>h (Sum.inr.inj e)] at q
theorem d3_(hs:List (Str × Int)):nmsOf hs=sortS (hs.map (·.1)):=cJ_ ((ak_ hs).trans (ar_ _).symm) (iZ_ hs) (cH_ _)
theorem dI_(a b:Str):ord2 a b=ord2 b a:=by
 unfold ord2
 by_cases h:ltS a b=true
 ·rw[if_pos h,if_neg (by rw[g6_ h];decide)]
 ·by_cases h2:ltS b a=true
  ·rw[if_neg h,if_pos h2]
  ·have:=iS_ (by simpa using h) (by simpa using h2)
   subst this
   rw[if_neg h]
theorem e8_{α β:Type}{f:α->β}:∀{l:List α},(l.map f).Nodup->∀{a b:α},a∈l->b∈l->f a=f b->a=b
 |[],_,_,_,h,_,_=>by cases h
 |x::l,nd,a,b,ha,hb,e=>by
  rw[List.map_cons] at nd
  obtain⟨n1,n2⟩:=List.nodup_cons.mp nd
  rcases List.mem_cons.mp ha with ha'|ha'<;>rcases List.mem_cons.mp hb with hb'|hb'
  ·rw[ha',hb']
  ·exact absurd (List.mem_map.mpr ⟨b,hb',by rw[<- ha',e]⟩) n1
  ·exact absurd (List.mem_map.mpr ⟨a,ha',by rw[<- hb',e]⟩) n1
  ·exact e8_ n2 ha' hb' e
theorem tsOf_mem{ts:List (Str × Str)}{x:Str × Str}:x∈tsOf ts ↔ ∃t∈ts,ord2 t.1 t.2=x:=by
 have e:kT x∈(tsOf ts).map kT ↔ x∈tsOf ts:=⟨fun h=>by
  obtain⟨y,hy,e⟩:=List.mem_map.mp h
  rw[<- eY_ e]
  exact hy,fun h=>List.mem_map.mpr ⟨x,h,rfl⟩⟩
 rw[<- e,cL_,(am_ _).mem_iff,List.mem_map]
 exact⟨fun⟨t,ht,q⟩=>⟨t,ht,eY_ q⟩,fun⟨t,ht,q⟩=>⟨t,ht,by rw[q]⟩⟩
theorem es_(a b:Str):kO (a,b)=kO (b,a):=by
 show kT (ord2 a b)=kT (ord2 b a)
 rw[dI_]
end Ev
set_option Elab.async false
set_option linter.all false
set_option maxRecDepth 100000
namespace Ev
open PySem L2
section
variable{P:Program}{w:World}{K:PySem.W.Frag}{mg:Str->Option Value}{base:Heap}
theorem scCell:FnScope ["_law_script","_law_k"] ["_law_script","_law_k"] (defScope sCell):=⟨rfl,rfl,rfl,by decide +kernel,rfl,by decide +kernel,by decide +kernel⟩
def spCell(K:PySem.W.Frag):Sp:=fun vs H Q _=>∃(l:Addr) (ns:List Int) (k:Int),vs=[.ref l,.int k]/\0<=k/\SqL K H l (ns.map V.int)/\∀n,Q (.int n) H
theorem iL_{f:Addr}{fd:FuncData}(F:Fun K "_law_cell_at" "_law_cell_at" sCell f fd)(B:Bi mg):FnOk P w K mg base CX0 1 f fd ["_law_script","_law_k"] (spCell K):=by
 refine F.ok scCell (fun vs H Q E h=>?_) (fun cdv A outer s H vs Q E hr h=>?_)
 ·obtain⟨l,ns,k,rfl,_⟩:=h
  rfl
 ·obtain⟨l,ns,i,rfl,h0,hl,k⟩:=h
  refine⟨_,a3_ (ax_ (ap_ jP_ (pv 1) (ac_ an_ (by rfl) B.len PySem.boot_len (a0_ (pv 0) a2_)) (nomark _)) (a5_ (ad_ (aA_ aN_ (pv 0) (pv 1) (fun _ _=>rfl)))) af_) (a5_ (ad_ a6_)),?_⟩
  refine⟨_,rfl,_,rfl,l,_,rfl,.inl hl,_,_,rfl,rfl,_,rfl,?_⟩
  refine ite2 (fun c=>?_) (fun c=>?_)
  ·have c:i<(ns.map V.int).length:=by simpa using c
   have e:atI (ns.map V.int) i=some (.int (ns[i.toNat]'(by rw[List.length_map] at c;omega))):=by
    rw[atI_nat h0 c,List.getElem?_map,List.getElem?_eq_getElem (by rw[List.length_map] at c;omega)]
    rfl
   exact⟨_,rfl,_,rfl,l,_,_,_,rfl,rfl,hl,e,k _⟩
  ·exact k 0
theorem scDigit:FnScope ["_law_state","_law_base","_law_cell","_law_found","_law_number"] ["_law_state","_law_base"] (defScope sDigit):=⟨rfl,rfl,rfl,by decide +kernel,rfl,by decide +kernel,by decide +kernel⟩
theorem pick2{n:Int}(b:Bool):∃m:Int,atI [V.int 0,V.int n] (if b then 1 else 0)=some (.int m):=by
 cases b
 ·exact⟨0,rfl⟩
 ·exact⟨n,rfl⟩
theorem hY_{f:Addr}{fd:FuncData}(F:Fun K "_law_digit" "_law_digit" sDigit f fd)(B:Bi mg):FnOk P w K mg base CX0 1 f fd ["_law_state","_law_base"] spDigit:=by
 refine F.ok scDigit (fun vs H Q E h=>?_) (fun cdv A outer s H vs Q E hr h=>?_)
 ·obtain⟨l,b,rfl,_⟩:=h
  rfl
 ·obtain⟨l,b,rfl,h0,h1,st,k⟩:=h
  refine⟨_,a3_ (ax_ (ap_ fy_ (ac_ an_ (by rfl) B.len PySem.boot_len (a0_ (pv 0) a2_)) a6_ (nomark _))
    (a3_ (ab_ (i:=2) scDigit.nd rfl (Or.inl rfl) (aA_ aN_ (pv 0) a6_ (fun _ _=>rfl)))
    (a3_ (f9_ (aA_ aN_ (aV_ (a0_ a6_ (a0_ (pv 2) a2_))) (aB_ fS_ (by rfl) B.int PyProof.Rows.Boot.«int» (a0_ (dg_ jZ_ (pv 2) (ai_ h1_ a6_ a6_) (nomark _)) a2_)) (fun _ _=>rfl)) (g8_ (pv 0) a6_ dt_))
    (a5_ (cE_ (fM_ PySem.F.plainAttrs_list PySem.F.slot_list_extend PySem.F.type_list_extend g5_ (pv 0) (a0_ (aV_ (a0_ (ai_ bG_ (pv 2) a6_) (a0_ a6_ a2_))) a2_)))))) af_)
   (a3_ (ax_ (ap_ ip_ (aA_ aN_ (pv 0) a6_ (fun _ _=>rfl)) a6_ (nomark _))
    (a3_ (ab_ (i:=3) scDigit.nd rfl (Or.inl rfl) (ai_ bG_ (aA_ aN_ (pv 0) a6_ (fun _ _=>rfl)) (pv 1)))
    (a3_ (f9_ (ai_ bf_ (aA_ aN_ (pv 0) a6_ (fun _ _=>rfl)) (pv 1)) (g8_ (pv 0) a6_ dt_))
    (a5_ (ad_ (pv 3))))) af_)
   (a3_ (f9_ (ai_ aU_ (aA_ aN_ (pv 0) a6_ (fun _ _=>rfl)) a6_) (g8_ (pv 0) a6_ dt_))
   (a3_ (ab_ (i:=4) scDigit.nd rfl (Or.inl rfl) (ai_ bG_ (ai_ b8_ (ai_ aU_ (ai_ aU_ (aA_ aN_ (pv 0) a6_ (fun _ _=>rfl)) (ai_ b8_ a6_ (aA_ aN_ (pv 0) a6_ (fun _ _=>rfl)))) a6_) a6_) a6_))
   (a3_ (ab_ (i:=4) scDigit.nd rfl (Or.inl rfl) (ai_ bG_ (ai_ b8_ (pv 4) (ai_ aU_ (ai_ bf_ (pv 4) a6_) a6_)) a6_))
   (a5_ (ad_ (ai_ bG_ (ai_ bG_ (ai_ b8_ (pv 4) (ai_ aU_ (ai_ bf_ (pv 4) a6_) a6_)) a6_) (pv 1)))))))),?_⟩
  rcases st with⟨n,hl0⟩|⟨n,m,c,hl⟩
  case' inl=>
   refine⟨_,rfl,l,_,rfl,.inl (.of hl0),rfl,_,rfl,iteT ?_⟩
   refine⟨_,rfl,l,_,_,_,rfl,rfl,.of hl0,rfl,?_⟩
   refine⟨_,rfl,by show 2<=sizeLine;decide,fun p hp=>?_⟩
   have lp:l≠p:=a4_ hl0 hp
   refine⟨_,rfl,_,_,rfl,rfl,⟨by decide,by decide,by decide⟩,_,_,rfl,rfl,.inr ⟨_,rfl,?_⟩⟩
   obtain⟨n',hn'⟩:=pick2 (n:=n) (decide ((10:Int) ^ (18:Int).toNat<=n))
   refine⟨p,_,_,_,rfl,rfl,.of a1_,hn',?_⟩
   refine⟨_,rfl,l,_,_,0,rfl,rfl,by rw[a7_ lp];exact hl0,rfl,?_⟩
   have hl1:(upd (upd H p (.lst [.int 0,.int n])) l (.lst ([V.int n].set 0 (.int n')))) l=some (.lst [.int n']):=a1_
   have bt1:But l H (upd (upd H p (.lst [.int 0,.int n])) l (.lst ([V.int n].set 0 (.int n')))):=(But.of (Same.new hp)).trans But.upd
   generalize (upd (upd H p (.lst [.int 0,.int n])) l (.lst ([V.int n].set 0 (.int n'))))=Ha at hl1 bt1 ⊢
   refine⟨_,rfl,.inl ⟨rfl,_,.of hl1⟩,_,rfl,_,_,rfl,rfl,by show (0:Int)<2147483647;decide,by show 2<=sizeLine;decide,fun q hq=>?_⟩
   refine⟨l,q,_,_,rfl,rfl,Same.new hq _ _ hl1,a1_,by show 1+2<=sizeLine;decide,?_⟩
   have bt:But l H (upd (upd Ha q (.lst [.int (n % 2147483647),.int 0])) l (.lst ([.int n']++[.int (n % 2147483647),.int 0]))):=bt1.trans ((But.of (Same.new hq)).trans But.upd)
   have hl:(upd (upd Ha q (.lst [.int (n % 2147483647),.int 0])) l (.lst ([.int n']++[.int (n % 2147483647),.int 0]))) l=some (.lst [.int n',.int (n % 2147483647),.int 0]):=a1_
   generalize (upd (upd Ha q (.lst [.int (n % 2147483647),.int 0])) l (.lst ([.int n']++[.int (n % 2147483647),.int 0])))=H1 at bt hl ⊢
  case' inr=>
   refine⟨_,rfl,l,_,rfl,.inl (.of hl),rfl,_,rfl,iteF ?_⟩
   have bt:=But.refl l H
  all_goals
   refine⟨_,rfl,l,_,_,_,rfl,rfl,.of hl,rfl,_,_,rfl,rfl,_,rfl,?_⟩
   refine ite2 (fun c=>?_) (fun c=>?_)
   ·refine⟨_,rfl,l,_,_,_,rfl,rfl,.of hl,rfl,_,rfl,_,_,rfl,rfl,h0,?_⟩
    refine⟨_,rfl,l,_,_,_,rfl,rfl,.of hl,rfl,_,rfl,_,_,rfl,rfl,⟨h0,h1⟩,_,rfl,l,_,_,0,rfl,rfl,hl,rfl,?_⟩
    exact⟨_,rfl,k _ _ (Int.emod_nonneg _ (by omega)) (Int.emod_lt_of_pos _ h0) (bt.trans But.upd) (.inr ⟨_,_,_,a1_⟩)⟩
   ·refine⟨_,rfl,l,_,_,_,rfl,rfl,.of hl,rfl,_,_,rfl,rfl,_,rfl,l,_,_,2,rfl,rfl,hl,rfl,?_⟩
    refine⟨_,rfl,l,_,_,_,rfl,rfl,.of a1_,rfl,_,rfl,l,_,_,_,rfl,rfl,.of a1_,rfl,_,_,rfl,rfl,.inl ⟨by decide,by decide⟩,_,_,rfl,rfl,_,_,rfl,rfl,_,_,rfl,rfl,.inr ⟨by decide,by decide⟩,_,_,rfl,rfl,by show (0:Int)<2147483647;decide,?_⟩
    refine⟨_,rfl,_,rfl,_,_,rfl,rfl,⟨by decide,by decide⟩,_,_,rfl,rfl,_,_,rfl,rfl,.inl (small _),_,_,rfl,rfl,by show (0:Int)<2147483647;decide,?_⟩
    refine⟨_,rfl,_,rfl,_,_,rfl,rfl,⟨by decide,by decide⟩,_,_,rfl,rfl,_,_,rfl,rfl,.inl (small _),_,_,rfl,rfl,by show (0:Int)<2147483399;decide,_,rfl,_,_,rfl,rfl,h0,?_⟩
    exact k _ _ (Int.emod_nonneg _ (by omega)) (Int.emod_lt_of_pos _ h0) (bt.trans But.upd) (.inr ⟨_,_,_,a1_⟩)
end
end Ev
set_option Elab.async false
set_option linter.all false
set_option maxRecDepth 100000
namespace Ev
open PySem L2
theorem pa_s{X:Cx}{x:Str}{j:Nat}{pos:Pos}{es:List Expr}{t:TA}(hr:PA X es t):PA X (.Constant (.str x) j pos::es) (tCons (tC (.str x)) t):=a0_ cS_ hr (by rfl)
def strC:Expr->Option Str
 |.Constant (.str x) _ _=>some x
 |_=>none
def tStrs(xs:List Str):TA:=fun _ H Q=>Q (xs.map V.str) H
theorem ez_{X:Cx}:∀{es:List Expr} {xs:List Str},es.map strC=xs.map some->PA X es (tStrs xs)
 |[],[],_=>a2_
 |[],_::_,h=>by cases h
 |_::_,[],h=>by cases h
 |e::es,x::xs,h=>by
  rw[List.map_cons,List.map_cons] at h
  obtain⟨h1,h2⟩:=List.cons.inj h
  have ih:=ez_ (X:=X) h2
  unfold strC at h1
  split at h1
  ·cases h1
   exact pa_s ih
  ·cases h1
def wordsL:List Str:=["hand","tie","piece","yard","free","fixed","none","tick","come","go","rest","run","show","ok"]
theorem i6_:wordsL.Nodup:=by decide +kernel
theorem hT_:∀n∈wordsL,nameB n=true:=by decide +kernel
structure Nm (m:Nat) (ns:List Str):Prop where
 len:ns.length=m
 nd:ns.Nodup
 ok:∀n∈ns,nameB n=true
 end_:∀n∈ns,n∈wordsL∨∃k,k<m/\n.cps.toList.getLast? = some (97+k % 26)
theorem eF_(ns:List Str)(k:Nat)(h:k<=ns.length):cutV (ns.map V.str) (some (k:Int)) none=(ns.drop k).map V.str:=by
 unfold cutV
 rw[HT.sIx_nat,HT.sIx_none,List.length_map,Nat.min_eq_left h,List.map_drop,List.take_of_length_le]
 rw[List.length_drop,List.length_map]
 omega
theorem hl_{m t:Nat}(hm:m<15)(ht:t<=14):Nm m ((wordsL.drop t++wordsL.take t).take m):=by
 have p:(wordsL.drop t++wordsL.take t).Perm wordsL:=List.perm_append_comm.trans (by rw[List.take_append_drop])
 have sub:=List.take_sublist m (wordsL.drop t++wordsL.take t)
 have hl:(wordsL.drop t++wordsL.take t).length=14:=p.length_eq
 refine⟨?_,sub.nodup (p.nodup_iff.mpr i6_),fun n hn=>hT_ n (p.mem_iff.mp (sub.subset hn)),fun n hn=>.inl (p.mem_iff.mp (sub.subset hn))⟩
 rw[List.length_take,hl]
 omega
def Tl(m k:Nat)(n:Str):Prop:=nameB n=true/\∃w:List Nat,n.cps.toList=w++(if 26<m then [97+k / 26] else [])++[97+k % 26]
theorem jq_{m i j:Nat}{n:Str}(hm:m<=676)(hi:i<m)(hj:j<m)(a:Tl m i n)(b:Tl m j n):i=j:=by
 obtain⟨_,w1,e1⟩:=a
 obtain⟨_,w2,e2⟩:=b
 rw[e1] at e2
 have l:=congrArg List.getLast? e2
 rw[List.getLast?_append,List.getLast?_append] at l
 simp at l
 by_cases h:26<m
 ·rw[if_pos h,if_pos h] at e2
  have z:=List.append_inj' e2 rfl
  have z2:=List.append_inj' z.1 rfl
  have:=(List.cons.inj z2.2).1
  omega
 ·omega
theorem hG_{m:Nat}{ns:List Str}(hm:m<=676)(hl:ns.length=m)(h:∀k n,ns[k]? = some n->Tl m k n):Nm m ns:=by
 refine⟨hl,?_,fun n hn=>?_,fun n hn=>?_⟩
 ·rw[List.nodup_iff_pairwise_ne,List.pairwise_iff_getElem]
  intro i j hi hj lt e
  have a:=h i _ (List.getElem?_eq_getElem hi)
  have b:=h j _ (List.getElem?_eq_getElem hj)
  rw[e] at a
  have:=jq_ hm (by omega) (by omega) a b
  omega
 ·obtain⟨k,hk,e⟩:=List.getElem_of_mem hn
  exact (h k n (by rw[List.getElem?_eq_getElem hk,e])).1
 ·obtain⟨k,hk,e⟩:=List.getElem_of_mem hn
  obtain⟨_,w,e2⟩:=h k n (by rw[List.getElem?_eq_getElem hk,e])
  refine .inr ⟨k,by omega,?_⟩
  rw[e2,List.getLast?_append]
  rfl
theorem gO_{q:Nat}(h:q<26):atI ("abcdefghijklmnopqrstuvwxyz":Str).cps.toList (q:Int)=some (97+q):=by
 rw[fj_,atI_nat (by omega) (by show (q:Int)<((26:Nat):Int);omega),Int.toNat_natCast]
 have all:∀i:Fin 26,[97,98,99,100,101,102,103,104,105,106,107,108,109,110,111,112,113,114,115,116,117,118,119,120,121,122][i.val]? = some (97+i.val):=by decide +kernel
 exact all ⟨q,h⟩
theorem bW_(x:Str)(c:Nat):(x++(⟨#[c]⟩:Str)).cps.toList=x.cps.toList++[c]:=PySem.W.KT.app_list _ _
theorem bb_(x:Str):x.length=x.cps.toList.length:=by rw[Array.length_toList];rfl
theorem gW_{q:Nat}(h:q<26):okc (97+q)=true:=by
 unfold okc
 rw[decide_eq_true (by omega),decide_eq_true (by omega)]
 rfl
section
variable{P:Program}{w:World}{K:PySem.W.Frag}{mg:Str->Option Value}{base:Heap}
theorem scNames:FnScope ["_law_state","_law_many","_law_letters","_law_words","_law_turn","_law_names_here","_law_k","_law_word","_law_j"] ["_law_state","_law_many"] (defScope sNames):=⟨rfl,rfl,rfl,by decide +kernel,rfl,by decide +kernel,by decide +kernel⟩
def spNames:Sp:=fun vs H Q _=>∃(l:Addr) (m:Nat),vs=[.ref l,.int m]/\m<=30/\stt H l/\∀(a:Addr) (ns:List Str) (H':Hp),But l H H'->stt H' l->H a=none->H' a=some (.lst (ns.map V.str))->Nm m ns->Q (.ref a) H'
set_option maxHeartbeats 800000 in
theorem ha_{f:Addr}{fd:FuncData}(F:Fun K "_law_names" "_law_names" sNames f fd)(B:Bi mg)(cD:Cal P w K mg base 1 "_law_digit" ["_law_state","_law_base"] spDigit):FnOk P w K mg base CX0 2 f fd ["_law_state","_law_many"] spNames:=by
 refine F.ok scNames (fun vs H Q E h=>?_) (fun cdv A outer s H vs Q E hr h=>?_)
 ·obtain⟨l,m,rfl,_⟩:=h
  rfl
 ·obtain⟨l,m,rfl,m30,st,k⟩:=h
  have sz:=sizeLine_eq
  refine' ⟨_,?u0,?kk⟩
  case' u0=>refine' a3_ ?u1 ?u2
  case u1=>exact ab_ (i:=2) scNames.nd rfl (Or.inl rfl) cS_
  case' u2=>refine' a3_ ?u3 ?u4
  case' u3=>refine' ab_ (i:=3) ?u5 ?u6 ?u7 ?u8
  case u5=>exact scNames.nd
  case u6=>exact rfl
  case u7=>exact Or.inl rfl
  case' u8=>refine' aV_ ?u9
  first|(case' u9=>refine' ez_ (xs:=wordsL) ?u10)|(case' u8=>refine' ez_ (xs:=wordsL) ?u10)
  first|(case u10=>exact by decide +kernel)|(case u9=>exact by decide +kernel)
  case' u4=>refine' a3_ ?u11 ?u12
  case' u11=>refine' ax_ ?u13 ?u14 ?u15
  case' u13=>refine' PW.pt ?u16
  first|(case' u16=>refine' il_ ?u17 ?u18)|(case' u13=>refine' il_ ?u17 ?u18)
  case u17=>exact ap_ jP_ (pv 1) a6_ (nomark _)
  case u18=>exact iV_ (ap_ fy_ (a9_ cD hr (a0_ (pv 0) (a0_ a6_ a2_))) a6_ (nomark _))
  case' u14=>refine' a3_ ?u19 ?u20
  case u19=>exact ab_ (i:=4) scNames.nd rfl (Or.inl rfl) (a9_ cD hr (a0_ (pv 0) (a0_ a6_ a2_)))
  case' u20=>refine' a5_ ?u21
  first|(case' u21=>refine' ad_ ?u22)|(case' u20=>refine' ad_ ?u22)
  first|(case' u22=>refine' aX_ ?u23 ?u24 ?u25 ?u26)|(case' u21=>refine' aX_ ?u23 ?u24 ?u25 ?u26)
  case u23=>exact bv_
  case u24=>exact ai_ dX_ (aX_ bv_ (pv 3) (bs_ (pv 4)) bq_) (aX_ bv_ (pv 3) bq_ (bs_ (pv 4)))
  case u25=>exact bq_
  case u26=>exact bs_ (pv 1)
  case u15=>exact af_
  case' u12=>refine' a3_ ?u27 ?u28
  case u27=>exact ab_ (i:=5) scNames.nd rfl (Or.inl rfl) (aV_ a2_)
  case' u28=>refine' a3_ ?u29 ?u30
  case' u29=>refine' aM_ ?u31 ?u32 ?u33 ?u34 ?u35
  case u31=>exact PassesOwn.never
  case u32=>exact rfl
  case u33=>exact dP_ (by rfl) B.range (a0_ (pv 1) a2_)
  case u34=>exact a8_ (i:=6) scNames.nd rfl (Or.inl rfl)
  case' u35=>refine' a3_ ?u36 ?u37
  case u36=>exact ab_ (i:=7) scNames.nd rfl (Or.inl rfl) cS_
  case' u37=>refine' a3_ ?u38 ?u39
  case' u38=>refine' aM_ ?u40 ?u41 ?u42 ?u43 ?u44
  case u40=>exact PassesOwn.never
  case u41=>exact rfl
  case' u42=>refine' dP_ ?u45 ?u46 ?u47
  case u45=>exact by rfl
  case u46=>exact B.range
  case u47=>exact a0_ (a9_ cD hr (a0_ (pv 0) (a0_ (ai_ gL_ a6_ (ai_ bf_ (pv 1) a6_)) a2_))) a2_
  case u43=>exact a8_ (i:=8) scNames.nd rfl (Or.inl rfl)
  case' u44=>refine' a5_ ?u48
  first|(case' u48=>refine' ab_ (i:=7) ?u49 ?u50 ?u51 ?u52)|(case' u44=>refine' ab_ (i:=7) ?u49 ?u50 ?u51 ?u52)
  case u49=>exact scNames.nd
  case u50=>exact rfl
  case u51=>exact Or.inl rfl
  case u52=>exact ai_ c1_ (pv 7) (aA_ gI_ (pv 2) (a9_ cD hr (a0_ (pv 0) (a0_ a6_ a2_))) (fun _ _=>rfl))
  case' u39=>refine' a3_ ?u53 ?u54
  case' u53=>refine' ax_ ?u55 ?u56 ?u57
  case u55=>exact ap_ ip_ (pv 1) a6_ (nomark _)
  case' u56=>refine' a5_ ?u58
  first|(case' u58=>refine' ab_ (i:=7) ?u59 ?u60 ?u61 ?u62)|(case' u56=>refine' ab_ (i:=7) ?u59 ?u60 ?u61 ?u62)
  case u59=>exact scNames.nd
  case u60=>exact rfl
  case u61=>exact Or.inl rfl
  case u62=>exact ai_ c1_ (pv 7) (aA_ gI_ (pv 2) (ai_ bf_ (pv 6) a6_) (fun _ _=>rfl))
  case u57=>exact af_
  case' u54=>refine' a5_ ?u63
  first|(case' u63=>refine' cE_ ?u64)|(case' u54=>refine' cE_ ?u64)
  first|(case' u64=>refine' fM_ ?u65 ?u66 ?u67 ?u68 ?u69 ?u70)|(case' u63=>refine' fM_ ?u65 ?u66 ?u67 ?u68 ?u69 ?u70)
  case u65=>exact PySem.F.plainAttrs_list
  case u66=>exact PySem.F.slot_list_append
  case u67=>exact PySem.F.type_list_append
  case u68=>exact bN_
  case u69=>exact pv 5
  case u70=>exact a0_ (ai_ c1_ (pv 7) (aA_ gI_ (pv 2) (ai_ bG_ (pv 6) a6_) (fun _ _=>rfl))) a2_
  case u30=>exact a5_ (ad_ (pv 5))
  case' kk=>skip
  refine⟨by show 14<=sizeLine;decide,fun lw hlw=>?_⟩
  have hw0:upd H lw (.lst (wordsL.map V.str)) lw=some (.lst (wordsL.map V.str)):=a1_
  have s0:Same H (upd H lw (.lst (wordsL.map V.str))):=Same.new hlw
  have lwl:lw≠l:=by
   obtain⟨xs,e⟩:=st.some
   exact (a4_ e hlw).symm
  have st0:=st.same s0
  show tSeq _ _ _ _ (upd H lw (.lst (wordsL.map V.str)))
  generalize upd H lw (.lst (wordsL.map V.str))=H0 at hw0 s0 st0 ⊢
  refine⟨_,rfl,_,_,rfl,rfl,_,rfl,?_⟩
  refine ite2 (fun c=>?yes) (fun c=>?no)
  case' yes=>
   refine⟨_,rfl,l,8,rfl,by decide,by decide,st0,fun r H1 r0 r8 b1 st1=>⟨rfl,_,rfl,?_⟩⟩
   refine ite2 (fun c2=>?words) (fun c2=>?more)
  case words=>
   have c:m<15:=by
    have:(m:Int)<15:=by simpa using c
    omega
   have hw1:=b1 _ _ hw0 lwl
   refine⟨_,rfl,l,14,rfl,by decide,by decide,st1,fun t H2 t0 t14 b2 st2=>?_⟩
   have hw2:=b2 _ _ hw1 lwl
   obtain⟨t,rfl⟩:=Int.eq_ofNat_of_zero_le t0
   have t14:t<14:=by omega
   refine⟨_,rfl,_,rfl,_,rfl,lw,_,rfl,.of hw2,fun p1 hp1=>?_⟩
   rw[eF_ _ _ (by show t<=14;omega)]
   have s3:=Same.new (o:=.lst ((wordsL.drop t).map V.str)) hp1
   refine⟨_,rfl,_,rfl,_,rfl,lw,_,rfl,.of (s3 _ _ hw2),fun p2 hp2=>?_⟩
   rw[f2_]
   have s4:=Same.new (o:=.lst ((wordsL.take t).map V.str)) hp2
   refine⟨p1,p2,_,_,rfl,rfl,s4 _ _ a1_,a1_,?_,fun p3 hp3=>?_⟩
   ·rw[List.length_map,List.length_map,List.length_drop,List.length_take]
    show 14 - t+min t 14<=sizeLine
    omega
   have s5:=Same.new (o:=.lst ((wordsL.drop t).map V.str++(wordsL.take t).map V.str)) hp3
   refine⟨_,rfl,_,rfl,p3,_,rfl,.of a1_,fun p4 hp4=>?_⟩
   have e:cutV ((wordsL.drop t).map V.str++(wordsL.take t).map V.str) none (some (m:Int))=((wordsL.drop t++wordsL.take t).take m).map V.str:=by
    rw[<- List.map_append,f2_]
   rw[e]
   have s6:=s3.trans (s4.trans s5)
   have b6:=(But.of s0).trans (b1.trans (b2.trans (But.of s6)))
   have st6:=st2.same s6
   exact k p4 _ _ (b6.trans (But.of (Same.new hp4))) (st6.same (Same.new hp4)) (b6.free st6 hp4) a1_ (hl_ c (by omega))
  case' no=>
   generalize hH:H0=H1
   have b1:But l H0 H1:=by rw[hH];exact But.refl l H1
   have st1:stt H1 l:=by rw[<- hH];exact st0
  all_goals
   refine⟨by show 0<=sizeLine;decide,fun a ha=>?_⟩
   have s2:=Same.new (o:=.lst []) ha
   have b0:But l H H1:=(But.of s0).trans b1
   have ha0:H a=none:=b0.free st1 ha
   have hla:l≠a:=by
    obtain⟨xs,e⟩:=st1.some
    exact a4_ e ha
   refine⟨_,rfl,_,rfl,by show (-(2 ^ 62):Int)<=(m:Int);omega,by show (m:Int)<(2 ^ 62:Int);omega,?_⟩
   refine cF_ (lo:=0) (n:=(m:Int).toNat) (fun i σ H2=>∃(v4 v6 v7 v8:Option V) (ns:List Str),σ=[some (.ref l),some (.int m),some (.str "abcdefghijklmnopqrstuvwxyz"),some (.ref lw),v4,some (.ref a),v6,v7,v8]/\But l H H2/\stt H2 l/\H2 a=some (.lst (ns.map V.str))/\ns.length=i/\∀k n,ns[k]? = some n->Tl m k n)
    ⟨_,_,_,_,[],rfl,b0.trans (But.of s2),st1.same s2,a1_,rfl,fun k n e=>by simp at e⟩ ?_ ?_
   ·rintro i σ H2 hi ⟨v4,v6,v7,v8,ns,rfl,b2,st2,ha2,ln,tl⟩
    rw[Int.zero_add]
    have hi:i<m:=by omega
    refine⟨_,rfl,_,rfl,_,_,rfl,rfl,⟨by decide,by decide⟩,_,_,rfl,rfl,l,8 - (m:Int) / 27,rfl,by omega,by omega,st2,fun r H3 r0 rb b3 st3=>⟨_,rfl,by show (-(2 ^ 62):Int)<=r;omega,by show r<(2 ^ 62:Int);omega,?_⟩⟩
    refine cF_ (lo:=0) (n:=r.toNat) (fun j σ H4=>∃(x:Str) (v8:Option V),σ=[some (.ref l),some (.int m),some (.str "abcdefghijklmnopqrstuvwxyz"),some (.ref lw),v4,some (.ref a),some (.int i),some (.str x),v8]/\But l H H4/\stt H4 l/\H4 a=some (.lst (ns.map V.str))/\x.length=j/\x.cps.toList.all okc=true)
     ⟨"",_,rfl,b2.trans b3,st3,b3 _ _ ha2 hla.symm,rfl,rfl⟩ ?_ ?_
    ·rintro j σ H4 hj ⟨x,v8,rfl,b4,st4,ha4,hx,ho⟩
     refine⟨_,rfl,_,rfl,_,rfl,l,26,rfl,by decide,by decide,st4,fun q H5 q0 q26 b5 st5=>?_⟩
     obtain⟨c,hc,oc⟩:=jQ_ q0 q26
     refine⟨_,_,_,rfl,rfl,by decide +kernel,hc,_,_,rfl,rfl,?_,_,_,rfl,b4.trans b5,st5,b5 _ _ ha4 hla.symm,?_,?_⟩
     ·have:(⟨#[c]⟩:Str).length=1:=rfl
      omega
     ·rw[bb_,bW_,List.length_append,<- bb_,hx]
      rfl
     ·rw[bW_,List.all_append,ho]
      simp[oc]
    ·rintro σ H4 ⟨x,v8,rfl,b4,st4,ha4,hx,ho⟩
     refine⟨_,rfl,_,_,rfl,rfl,_,rfl,?_⟩
     refine ite2 (fun c3=>?_) (fun c3=>?_)
     have c3:26<m:=by
      have:(26:Int)<(m:Int):=by simpa using c3
      omega
     have hc3:atI ("abcdefghijklmnopqrstuvwxyz":Str).cps.toList ((i:Int) / 26)=some (97+i / 26):=by
      have:=gO_ (q:=i / 26) (by omega)
      rw[<- this]
      congr 1
     refine⟨_,rfl,_,rfl,_,rfl,_,_,rfl,rfl,⟨by decide,by decide⟩,_,_,_,rfl,rfl,by decide +kernel,hc3,_,_,rfl,rfl,by show x.length+1<=sizeLine;omega,?_⟩
     have ex:(x++(⟨#[97+i / 26]⟩:Str)).cps.toList=x.cps.toList++(if 26<m then [97+i / 26] else []):=by rw[if_pos c3];exact bW_ _ _
     generalize x++(⟨#[97+i / 26]⟩:Str)=x' at ex ⊢
     rotate_left 1
     have c3:¬26<m:=by
      have:¬(26:Int)<(m:Int):=by simpa using c3
      omega
     have ex:x.cps.toList=x.cps.toList++(if 26<m then [97+i / 26] else []):=by rw[if_neg c3,List.append_nil]
     obtain⟨x',hx'⟩:∃x':Str,x'=x:=⟨_,rfl⟩
     rw[<- hx']
     have ex:x'.cps.toList=x.cps.toList++(if 26<m then [97+i / 26] else []):=by rw[hx'];exact ex
     all_goals
      have hc4:atI ("abcdefghijklmnopqrstuvwxyz":Str).cps.toList ((i:Int) % 26)=some (97+i % 26):=by
       have:=gO_ (q:=i % 26) (Nat.mod_lt _ (by decide))
       rw[<- this]
       congr 1
      have lx:x'.length<=7:=by
       rw[bb_,ex,List.length_append,<- bb_,hx]
       by_cases hm:26<m
       ·rw[if_pos hm]
        show r.toNat+1<=7
        omega
       ·rw[if_neg hm]
        show r.toNat+0<=7
        omega
      refine⟨_,rfl,.inl ⟨rfl,_,.of ha4⟩,_,rfl,_,rfl,_,rfl,_,_,rfl,rfl,by show (0:Int)<26;decide,_,_,_,rfl,rfl,by decide +kernel,hc4,_,_,rfl,rfl,?_,a,_,_,rfl,rfl,ha4,?_,?_⟩
      ·have:(⟨#[97+i % 26]⟩:Str).length=1:=rfl
       omega
      ·rw[List.length_map]
       omega
      ·refine⟨_,_,_,_,ns++[x'++(⟨#[97+i % 26]⟩:Str)],rfl,fun b o e ne=>?_,?_,?_,?_,fun kk n hn=>?_⟩
       ·rw[a7_ (a4_ e ha0)]
        exact b4 _ _ e ne
       ·unfold stt
        rw[a7_ hla]
        exact st4
       ·rw[a1_,List.map_append]
        rfl
       ·rw[List.length_append,ln]
        rfl
       ·by_cases hk:kk<ns.length
        ·rw[List.getElem?_append_left hk] at hn
         exact tl kk n hn
        ·have hk2:kk=i:=by
          have:=(List.getElem?_eq_some_iff.mp hn).1
          rw[List.length_append] at this
          simp only[List.length_singleton] at this
          omega
         subst hk2
         rw[List.getElem?_append_right (by omega),ln,Nat.sub_self] at hn
         have hn:x'++(⟨#[97+kk % 26]⟩:Str)=n:=by simpa using hn
         subst hn
         have ey:(x'++(⟨#[97+kk % 26]⟩:Str)).cps.toList=x'.cps.toList++[97+kk % 26]:=bW_ _ _
         refine⟨?_,x.cps.toList,by rw[ey,ex]⟩
         unfold nameB
         rw[bb_,ey,List.length_append,<- bb_,decide_eq_true (by show 1<=x'.length+1;omega),decide_eq_true (by show x'.length+1<=8;omega),List.all_append,ex,List.all_append,ho]
         have o1:([97+kk % 26]:List Nat).all okc=true:=by simp[gW_ (Nat.mod_lt kk (show 0<26 by decide))]
         have o2:(if 26<m then [97+kk / 26] else ([]:List Nat)).all okc=true:=by
          by_cases hm:26<m
          ·rw[if_pos hm]
           simp[gW_ (show kk / 26<26 by omega)]
          ·rw[if_neg hm]
           rfl
         rw[o1,o2]
         rfl
   ·rintro σ H2 ⟨v4,v6,v7,v8,ns,rfl,b2,st2,ha2,ln,tl⟩
    exact⟨_,rfl,k a ns H2 b2 st2 ha0 ha2 (hG_ (by omega) (by omega) tl)⟩
end
end Ev
set_option Elab.async false
set_option linter.all false
set_option maxRecDepth 100000
namespace Ev
open PySem L2
theorem dQ_(ys:List V)(k:Nat):cutV ys none (some (k:Int))=ys.take k:=by
 unfold cutV
 rw[HT.sIx_none,HT.sIx_nat,List.drop_zero,Nat.sub_zero]
 by_cases h:k<=ys.length
 ·rw[Nat.min_eq_left h]
 ·rw[Nat.min_eq_right (by omega),List.take_of_length_le (Nat.le_refl _),List.take_of_length_le (by omega)]
theorem dH_(ys:List V)(k:Nat):cutV ys (some (k:Int)) none=ys.drop k:=by
 unfold cutV
 rw[HT.sIx_nat,HT.sIx_none]
 by_cases h:k<=ys.length
 ·rw[Nat.min_eq_left h,List.take_of_length_le (by rw[List.length_drop];omega)]
 ·rw[Nat.min_eq_right (by omega),List.drop_eq_nil_of_le (Nat.le_refl _),List.drop_eq_nil_of_le (by omega),List.take_nil]
theorem bJ_{α β:Type}{F:α->β->Prop}:∀{ys:List α} {ks:List β} (n:Nat),Paired F ys ks->Paired F (ys.take n) (ks.take n)
 |_,_,0,_=>.nil
 |_,_,_+1,.nil=>.nil
 |_,_,n+1,.cons a t=>.cons a (bJ_ n t)
theorem bK_{α β:Type}{F:α->β->Prop}:∀{ys:List α} {ks:List β} (n:Nat),Paired F ys ks->Paired F (ys.drop n) (ks.drop n)
 |_,_,0,h=>h
 |_,_,_+1,.nil=>.nil
 |_,_,n+1,.cons _ t=>bK_ n t
theorem as_{α β:Type}{F:α->β->Prop}:∀{ys ys':List α} {ks ks':List β},Paired F ys ks->Paired F ys' ks'->Paired F (ys++ys') (ks++ks')
 |_,_,_,_,.nil,h=>h
 |_,_,_,_,.cons a t,h=>.cons a (as_ t h)
theorem f3_{α:Type}(l:List α)(t:Nat):(l.drop t++l.take t).Perm l:=List.perm_append_comm.trans (by rw[List.take_append_drop])
theorem hit3{α:Type}{p:α->Prop}{a b c:α}{r:Int}(h0:0<=r)(h1:r<3)(ha:p a)(hb:p b)(hc:p c):∃x,atI [a,b,c] r=some x/\p x:=by
 have:r=0∨r=1∨r=2:=by omega
 rcases this with rfl|rfl|rfl
 ·exact⟨_,rfl,ha⟩
 ·exact⟨_,rfl,hb⟩
 ·exact⟨_,rfl,hc⟩
structure TJ (ns:List Str) (k q:Nat) (ts:List (Str × Str)):Prop where
 at':∀t∈ts,∃(a b:Nat) (x y:Str),a<b/\(a<k∨(a=k/\b<k+1+q))/\ns[a]? = some x/\ns[b]? = some y/\(t=(x,y)∨t=(y,x))
 nd:(ts.map kO).Nodup
 len:ts.length<=7 * k+q
theorem TJ.skip{ns:List Str}{k j:Nat}{ts:List (Str × Str)}(h:TJ ns k j ts):TJ ns k (j+1) ts:=
 ⟨fun t ht=>let ⟨a,b,x,y,h1,h2,h3,h4,h5⟩:=h.at' t ht;⟨a,b,x,y,h1,by omega,h3,h4,h5⟩,h.nd,by have:=h.len;omega⟩
theorem TJ.next{ns:List Str}{k q:Nat}{ts:List (Str × Str)}(h:TJ ns k q ts)(h7:q<=7):TJ ns (k+1) 0 ts:=
 ⟨fun t ht=>let ⟨a,b,x,y,h1,h2,h3,h4,h5⟩:=h.at' t ht;⟨a,b,x,y,h1,by omega,h3,h4,h5⟩,h.nd,by have:=h.len;omega⟩
theorem TJ.add{ns:List Str}{k q:Nat}{ts:List (Str × Str)}(h:TJ ns k q ts)(nd:ns.Nodup){x y:Str}{t:Str × Str}(hx:ns[k]? = some x)(hy:ns[k+1+q]? = some y)(ht:t=(x,y)∨t=(y,x)):TJ ns k (q+1) (ts++[t]):=by
 refine⟨fun u hu=>?_,?_,by have:=h.len;rw[List.length_append];simp only[List.length_singleton];omega⟩
 ·rcases List.mem_append.mp hu with hu|hu
  ·exact h.skip.at' u hu
  ·obtain rfl:u=t:=by simpa using hu
   exact⟨k,k+1+q,x,y,by omega,.inr ⟨rfl,by omega⟩,hx,hy,ht⟩
 ·rw[List.map_append]
  refine fX_ h.nd fun m=>?_
  obtain⟨u,hu,e⟩:=List.mem_map.mp m
  obtain⟨a,b,c,d,h1,h2,h3,h4,h5⟩:=h.at' u hu
  have key:(c=x/\d=y)∨(c=y/\d=x):=by
   rcases h5 with rfl|rfl<;>rcases ht with rfl|rfl<;>rcases jC_ e with⟨q1,q2⟩|⟨q1,q2⟩<;>simp_all
  rcases key with⟨rfl,rfl⟩|⟨rfl,rfl⟩
  ·have:=cN_ nd h3 hx
   have:=cN_ nd h4 hy
   omega
  ·have:=cN_ nd h3 hy
   have:=cN_ nd h4 hx
   omega
theorem TJ.good{ns:List Str}{k j:Nat}{ts:List (Str × Str)}(h:TJ ns k j ts)(nd:ns.Nodup)(ok:∀n∈ns,nameB n=true):∀t∈ts,goodT t/\t.1∈ns/\t.2∈ns:=fun t ht=>by
 obtain⟨a,b,x,y,h1,h2,h3,h4,h5⟩:=h.at' t ht
 have mx:=List.mem_of_getElem? h3
 have my:=List.mem_of_getElem? h4
 have ne:x≠y:=fun e=>by
  subst e
  have:=cN_ nd h3 h4
  omega
 rcases h5 with rfl|rfl
 ·exact⟨⟨ok _ mx,ok _ my,ne⟩,mx,my⟩
 ·exact⟨⟨ok _ my,ok _ mx,ne.symm⟩,my,mx⟩
def EndB(m:Nat)(n:Str):Prop:=n∈wordsL∨∃k,k<m/\n.cps.toList.getLast? = some (97+k % 26)
section
variable{P:Program}{w:World}{K:PySem.W.Frag}{mg:Str->Option Value}{base:Heap}
theorem scLWeb:FnScope ["_law_state","_law_most","_law_names_here","_law_hands","_law_thin","_law_ties","_law_k","_law_one","_law_other","_law_turn"] ["_law_state","_law_most"] (defScope sLWeb):=⟨rfl,rfl,rfl,by decide +kernel,rfl,by decide +kernel,by decide +kernel⟩
def spLWeb(K:PySem.W.Frag):Sp:=fun vs H Q _=>∃(l:Addr),vs=[.ref l,.int 8]/\stt H l/\∀(t lh lt:Addr) (ys zs:List V) (hs:List (Str × Int)) (ts:List (Str × Str)) (H':Hp),But l H H'->stt H' l->H' t=some (.tup [.ref lh,.ref lt])->H lh=none->H lt=none->lh≠lt->
 H' lh=some (.lst ys)->TupsAt K H' ys (hs.map kH)->H' lt=some (.lst zs)->TupsAt K H' zs (ts.map kT)->Good hs ts->(∀n∈hs.map (·.1),EndB 8 n)->Q (.ref t) H'
theorem j3_{f:Addr}{fd:FuncData}(F:Fun K "_law_web" "_law_web" sLWeb f fd)(B:Bi mg)(cD:Cal P w K mg base 1 "_law_digit" ["_law_state","_law_base"] spDigit)(cN:Cal P w K mg base 2 "_law_names" ["_law_state","_law_many"] spNames):FnOk P w K mg base CX0 3 f fd ["_law_state","_law_most"] (spLWeb K):=by
 refine F.ok scLWeb (fun vs H Q E h=>?_) (fun cdv A outer s H vs Q E hr h=>?_)
 ·obtain⟨l,rfl,_⟩:=h
  rfl
 ·obtain⟨l,rfl,st,k⟩:=h
  have sz:=sizeLine_eq
  have hr1:Room 1 _:=hr.mono (by decide)
  refine' ⟨_,a3_ (ab_ (i:=2) scLWeb.nd rfl (Or.inl rfl) (a9_ cN hr (a0_ (pv 0) (a0_ (ai_ aU_ a6_ (a9_ cD hr1 (a0_ (pv 0) (a0_ (pv 1) a2_)))) a2_))))
   (a3_ (bp_ (i:=3) ["_law_name","_law_state"] 1 [0] scLWeb.nd rfl (Or.inl rfl) (aj_ (pv 2)) (fun fp s H=>a8_ (i:=0) (show (["_law_name","_law_state"]:List Str).Nodup by decide +kernel) rfl (Or.inl rfl)) (fun fp s H=>au_)
    (fun fp s H=>?he))
   (a3_ (ab_ (i:=4) scLWeb.nd rfl (Or.inl rfl) (ai_ aU_ a6_ (a9_ cD hr1 (a0_ (pv 0) (a0_ a6_ a2_)))))
   (a3_ (ab_ (i:=5) scLWeb.nd rfl (Or.inl rfl) (aV_ a2_))
   (a3_ (aM_ PassesOwn.never rfl (ja_ (by rfl) B.enum (a0_ (pv 2) a2_)) (bH_ rfl (aa_ (a8_ (i:=6) scLWeb.nd rfl (Or.inl rfl)) (aa_ (a8_ (i:=7) scLWeb.nd rfl (Or.inl rfl)) aF_)))
    (a5_ (aM_ PassesOwn.never rfl (aj_ (aX_ bv_ (pv 2) (bs_ (ai_ aU_ (pv 6) a6_)) bq_)) (a8_ (i:=8) scLWeb.nd rfl (Or.inl rfl))
     (a5_ (ax_ (ap_ fy_ (a9_ cD hr1 (a0_ (pv 0) (a0_ (pv 4) a2_))) a6_ (nomark _))
      (a5_ (cE_ (fM_ PySem.F.plainAttrs_list PySem.F.slot_list_append PySem.F.type_list_append bN_ (pv 5) (a0_ (aA_ aN_ (aV_ (a0_ (aO_ (a0_ (pv 7) (a0_ (pv 8) a2_))) (a0_ (aO_ (a0_ (pv 8) (a0_ (pv 7) a2_))) a2_))) (a9_ cD hr1 (a0_ (pv 0) (a0_ a6_ a2_))) (fun _ _=>rfl)) a2_))))
      af_)))))
   (a3_ (ab_ (i:=9) scLWeb.nd rfl (Or.inl rfl) (a9_ cD hr1 (a0_ (pv 0) (a0_ (ac_ an_ (by rfl) B.len PySem.boot_len (a0_ (pv 3) a2_)) a2_))))
   (a5_ (ad_ (aO_ (a0_ (ai_ dX_ (aX_ bv_ (pv 3) (bs_ (pv 9)) bq_) (aX_ bv_ (pv 3) bq_ (bs_ (pv 9)))) (a0_ (pv 5) a2_)))))))))),?_⟩
  case he=>exact aO_ (a0_ (pv 0) (a0_ (ai_ aU_ a6_ (a9_ cD hr1 (a0_ (pv 1) (a0_ (aA_ (ixK (K:=K) rIxL aN_) (aV_ (a0_ a6_ (a0_ a6_ (a0_ a6_ a2_)))) (a9_ cD hr1 (a0_ (pv 1) (a0_ a6_ a2_))) (fun _ _=>rfl)) a2_)))) a2_))
  refine⟨_,rfl,_,rfl,_,rfl,l,8,rfl,by decide,by decide,st,fun r H1 r0 r8 b1 st1=>⟨_,_,rfl,rfl,?_⟩⟩
  obtain⟨r,rfl⟩:=Int.eq_ofNat_of_zero_le r0
  refine⟨l,1+r,by show [V.ref l,V.int (1+(r:Int))]=[V.ref l,V.int ((1+r:Nat):Int)];rw[Int.natCast_add];rfl,by omega,st1,fun ln ns H2 b2 st2 fn hn2 N=>?_⟩
  have n8:ns.length<=8:=by rw[N.len];omega
  have n1:1<=ns.length:=by rw[N.len];omega
  have lnl:ln≠l:=fun e=>by
   subst e
   obtain⟨xs,e2⟩:=st1.some
   rw[fn] at e2
   cases e2
  refine⟨_,rfl,ln,rfl,⟨_,.of hn2⟩,fun lh0 hlh0=>?_⟩
  have lh0l:lh0≠l:=by
   obtain⟨xs,e⟩:=st2.some
   exact (a4_ e hlh0).symm
  refine aq_ (own:=1) (fv:=[some (.ref l)]) (xs:=ns.map V.str) rfl gok1 (fun i out H'=>∃hs:List (Str × Int),But l H2 H'/\stt H' l/\H' lh0=some (.lst out)/\TupsAt K H' out (hs.map kH)/\hs.map (·.1)=ns.take i/\∀h∈hs,1<=h.2/\h.2<=1000) ⟨[],But.of (Same.new hlh0),st2.same (Same.new hlh0),a1_,.nil,rfl,by simp⟩ (fun i out H' _ ⟨_,b,_⟩=>.of (b _ _ hn2 lnl)) (fun ys0 H3 ⟨hs0,b3,st3,hh3,tu3,en,gh⟩=>?_) (fun i x out H' hx ⟨hs,b,stx,hD,tu,en,gh⟩=>?_)
  rotate_left 1
  ·obtain⟨n,hn,rfl⟩:=av_ hx
   have li:out.length=i:=by
    have h1:=Paired.length tu
    rw[List.length_map] at h1
    have h2:=congrArg List.length en
    rw[List.length_map,List.length_take] at h2
    have:=(List.getElem?_eq_some_iff.mp hn).1
    omega
   have hi:=(List.getElem?_eq_some_iff.mp hn).1
   refine⟨_,rfl,rfl,fun Nx hN=>yesT ?_⟩
   refine⟨_,rfl,_,rfl,by show 3<=sizeLine;decide,fun p hp=>?_⟩
   have s4:=Same.new (o:=.lst [.int 3,.int 12,.int 1000]) hp
   have lp:p≠l:=by
    obtain⟨xs,e⟩:=stx.some
    exact (a4_ e hp).symm
   refine⟨_,rfl,l,3,rfl,by decide,by decide,stx.same s4,fun r1 H5 q0 q1 b5 st5=>?_⟩
   obtain⟨y,hy,bb,eb,e1,e2⟩:=hit3 (p:=fun y:V=>∃n:Int,y=.int n/\0<n/\n<=1000) (a:=V.int 3) (b:=.int 12) (c:=.int 1000) q0 q1 ⟨3,rfl,by decide,by decide⟩ ⟨12,rfl,by decide,by decide⟩ ⟨1000,rfl,by decide,by decide⟩
   subst eb
   refine⟨p,_,_,_,rfl,rfl,.of (b5 _ _ a1_ lp),hy,l,bb,rfl,e1,by omega,st5,fun r2 H6 q2 q3 b6 st6=>⟨_,_,rfl,rfl,by show 2<=sizeLine;decide,fun t ht=>?_⟩⟩
   have b36:But l H' H6:=(But.of s4).trans (b5.trans b6)
   have hD6:=b36 _ _ hD lh0l
   have s7:=Same.new (o:=.tup [.str n,.int (1+r2)]) ht
   obtain⟨xs0,hlx⟩:=stx.some
   have tu6:=ay_ tu b36 hlx
   have tt:upd H6 t (.tup [.str n,.int (1+r2)]) t=some (.tup ((kH (n,1+r2)).map kV)):=a1_
   refine⟨out,s7 _ _ hD6,by omega,hN _ _ ⟨hs++[(n,1+r2)],fun b' o e ne=>?_,?_,a1_,?_,?_,fun h hh=>?_⟩⟩
   ·rw[a7_ (a4_ e hlh0)]
    exact s7 _ _ (b36 _ _ (b _ _ e ne) ne)
   ·have:=st6.same s7
    unfold stt
    rw[a7_ lh0l.symm]
    exact this
   ·rw[List.map_append]
    exact b0_ (b6_ (tu6.same s7) tt) (s7 _ _ hD6)
   ·rw[List.map_append,en,List.take_add_one,hn]
    rfl
   ·rcases List.mem_append.mp hh with hh|hh
    ·exact gh h hh
    ·obtain rfl:h=(n,1+r2):=by simpa using hh
     exact⟨by show 1<=1+r2;omega,by show 1+r2<=1000;omega⟩
  rw[List.length_map,List.take_length] at en
  have ln3:=b3 _ _ hn2 lnl
  have lh0n:H2 lh0=none:=hlh0
  refine⟨_,rfl,l,4,rfl,by decide,by decide,st3,fun r3 H4 q0 q1 b4 st4=>⟨_,_,rfl,rfl,?_⟩⟩
  refine⟨by show 0<=sizeLine;decide,fun a ha=>?_⟩
  have s5:=Same.new (o:=.lst []) ha
  have hla:l≠a:=by
   obtain⟨xs,e⟩:=st4.some
   exact a4_ e ha
  have ln4:=b4 _ _ ln3 lnl
  have hh4:=b4 _ _ hh3 lh0l
  have lna:ln≠a:=a4_ ln4 ha
  have lha:lh0≠a:=a4_ hh4 ha
  have B4:But l H H4:=b1.trans (b2.trans (b3.trans b4))
  have ha0:H a=none:=B4.free st4 ha
  have hlh00:H lh0=none:=(b1.trans b2).free st2 hlh0
  obtain⟨xs3,hl3⟩:=st3.some
  have tu4:=ay_ tu3 b4 hl3
  let Iv:Nat->Nat->Hp->Prop:=fun kk q H'=>∃zs ts,But l H H'/\stt H' l/\H' ln=some (.lst (ns.map V.str))/\H' lh0=some (.lst ys0)/\TupsAt K H' ys0 (hs0.map kH)/\H' a=some (.lst zs)/\TupsAt K H' zs (ts.map kT)/\TJ ns kk q ts
  refine⟨_,rfl,ln,rfl,⟨_,.of (s5 _ _ ln4)⟩,hH_ (K:=K) (a:=ln) (xs:=ns.map V.str) (fun i σ H'=>∃(v6 v7 v8 v9:Option V),σ=[some (.ref l),some (.int 8),some (.ref ln),some (.ref lh0),some (.int (1+r3)),some (.ref a),v6,v7,v8,v9]/\Iv i 0 H')
   ⟨none,none,none,none,rfl,[],[],B4.trans (But.of s5),st4.same s5,s5 _ _ ln4,s5 _ _ hh4,tu4.same s5,a1_,.nil,⟨by simp,.nil,Nat.zero_le _⟩⟩ (fun i σ H' _ ⟨_,_,_,_,_,_,_,_,_,q,_⟩=>.of q) ?_ ?_⟩
  ·rintro i x σ H6 hx ⟨v6,v7,v8,v9,rfl,zs6,ts6,b6,st6,hn6,hh6,th6,ha6,tu6,tj6⟩ u hu
   obtain⟨one,hone,rfl⟩:=av_ hx
   have hi:i<ns.length:=(List.getElem?_eq_some_iff.mp hone).1
   have s7:Same H6 (upd H6 u (.tup [.int i,.str one])):=Same.new hu
   have hu7:upd H6 u (.tup [.int i,.str one]) u=some (.tup [.int i,.str one]):=a1_
   refine⟨u,_,rfl,.of hu7,rfl,_,_,rfl,_,_,rfl,rfl,?_⟩
   generalize upd H6 u (.tup [.int i,.str one])=H7 at s7 hu7 ⊢
   refine⟨_,rfl,_,rfl,_,_,rfl,rfl,_,rfl,ln,_,rfl,.of (s7 _ _ hn6),fun p hp=>?_⟩
   have ec:cutV (ns.map V.str) (some ((i:Int)+1)) none=(ns.drop (i+1)).map V.str:=eF_ ns (i+1) (by omega)
   rw[ec]
   have s8:Same H7 (upd H7 p (.lst ((ns.drop (i+1)).map V.str))):=Same.new hp
   have lp:l≠p:=by
    obtain⟨xs,e⟩:=(st6.same s7).some
    exact a4_ e hp
   have pa:p≠a:=(a4_ (s7 _ _ ha6) hp).symm
   have s78:=s7.trans s8
   refine⟨p,rfl,⟨_,.of a1_⟩,aR_ (K:=K) (a:=p) (xs:=(ns.drop (i+1)).map V.str) (fun j σ H'=>∃(v8 v9:Option V),σ=[some (.ref l),some (.int 8),some (.ref ln),some (.ref lh0),some (.int (1+r3)),some (.ref a),some (.int i),some (.str one),v8,v9]/\H' p=some (.lst ((ns.drop (i+1)).map V.str))/\Iv i j H')
    ⟨_,_,rfl,a1_,zs6,ts6,b6.trans (But.of s78),st6.same s78,s78 _ _ hn6,s78 _ _ hh6,th6.same s78,s78 _ _ ha6,tu6.same s78,tj6⟩ (fun j σ H' _ ⟨_,_,_,q,_⟩=>.of q) ?_ ?_⟩
   ·rintro j y σ H9 hy ⟨v8,v9,rfl,hp9,zs9,ts9,b9,st9,hn9,hh9,th9,ha9,tu9,tj9⟩
    obtain⟨o,ho,rfl⟩:=av_ hy
    rw[List.getElem?_drop] at ho
    refine⟨_,rfl,_,rfl,l,1+r3,rfl,by omega,by omega,st9,fun r4 H10 q2 q3 b10 st10=>⟨rfl,_,rfl,?_⟩⟩
    obtain⟨xs9,hl9⟩:=st9.some
    have hn10:=b10 _ _ hn9 lnl
    have hh10:=b10 _ _ hh9 lh0l
    have ha10:=b10 _ _ ha9 hla.symm
    have hp10:=b10 _ _ hp9 lp.symm
    have tu10:=ay_ tu9 b10 hl9
    have th10:=ay_ th9 b10 hl9
    refine ite2 (fun c=>?_) (fun c=>?_)
    ·refine⟨_,rfl,.inl ⟨rfl,_,.of ha10⟩,_,rfl,_,rfl,by show 2<=sizeLine;decide,fun t1 ht1=>?_⟩
     have s11:=Same.new (o:=.tup [.str one,.str o]) ht1
     refine⟨_,rfl,_,rfl,by show 2<=sizeLine;decide,fun t2 ht2=>?_⟩
     have s12:=Same.new (o:=.tup [.str o,.str one]) ht2
     refine⟨by show 2<=sizeLine;decide,fun lx hlx=>?_⟩
     have s13:=Same.new (o:=.lst [.ref t1,.ref t2]) hlx
     have s14:=(s11.trans s12).trans s13
     have st13:=st10.same s14
     refine⟨_,rfl,l,2,rfl,by decide,by decide,st13,fun r5 H14 q4 q5 b14 st14=>?_⟩
     have lxl:lx≠l:=by
      obtain⟨xs,e⟩:=(st10.same (s11.trans s12)).some
      exact (a4_ e hlx).symm
     have hlx14:=b14 _ _ (show upd (upd (upd H10 t1 (.tup [.str one,.str o])) t2 (.tup [.str o,.str one])) lx (.lst [.ref t1,.ref t2]) lx=_ from a1_) lxl
     obtain⟨xs13,hl13⟩:=st13.some
     have ht1':=s13 _ _ (s12 _ _ (show upd H10 t1 (.tup [.str one,.str o]) t1=_ from a1_))
     have ht2':=s13 _ _ (show upd (upd H10 t1 (.tup [.str one,.str o])) t2 (.tup [.str o,.str one]) t2=_ from a1_)
     have ht1'':=b14 _ _ ht1' (az_ ht1' hl13 (by intro z;cases z))
     have ht2'':=b14 _ _ ht2' (az_ ht2' hl13 (by intro z;cases z))
     have pick:∃(t:Addr) (tt:Str × Str),atI [V.ref t1,V.ref t2] r5=some (.ref t)/\H14 t=some (.tup ((kT tt).map kV))/\(tt=(one,o)∨tt=(o,one)):=by
      rcases hit2 (a:=V.ref t1) (b:=V.ref t2) q4 q5 with e|e
      ·exact⟨t1,(one,o),e,ht1'',.inl rfl⟩
      ·exact⟨t2,(o,one),e,ht2'',.inr rfl⟩
     obtain⟨t,tt,et,ht,etc⟩:=pick
     have b1014:But l H10 H14:=(But.of s14).trans b14
     obtain⟨xs10,hl10⟩:=st10.some
     have ha14:=b1014 _ _ ha10 hla.symm
     have hn14:=b1014 _ _ hn10 lnl
     have hh14:=b1014 _ _ hh10 lh0l
     have hp14:=b1014 _ _ hp10 lp.symm
     have tu14:=ay_ tu10 b1014 hl10
     have th14:=ay_ th10 b1014 hl10
     have lz:=Paired.length tu9
     rw[List.length_map] at lz
     have tl:=tj9.len
     have hj:j<8:=by
      have:=(List.getElem?_eq_some_iff.mp ho).1
      omega
     refine⟨lx,_,_,_,rfl,rfl,.of hlx14,et,a,_,_,rfl,rfl,ha14,by omega,?_⟩
     refine⟨_,_,rfl,by rw[a7_ pa];exact hp14,_,ts9++[tt],fun b o e ne=>?_,?_,by rw[a7_ lna];exact hn14,by rw[a7_ lha];exact hh14,b0_ th14 ha14,a1_,?_,tj9.add N.nd hone ho etc⟩
     ·rw[a7_ (a4_ e ha0)]
      exact b1014 _ _ (b10 _ _ (b9 _ _ e ne) ne) ne
     ·unfold stt
      rw[a7_ hla]
      exact st14
     ·rw[List.map_append]
      exact b0_ (b6_ tu14 ht) ha14
    ·exact⟨_,_,rfl,hp10,zs9,ts9,b9.trans b10,st10,hn10,hh10,th10,ha10,tu10,tj9.skip⟩
   ·rintro σ H9 ⟨v8,v9,rfl,hp9,zs9,ts9,b9,st9,hn9,hh9,th9,ha9,tu9,tj9⟩
    exact⟨_,_,_,_,rfl,zs9,ts9,b9,st9,hn9,hh9,th9,ha9,tu9,tj9.next (by rw[List.length_map,List.length_drop];omega)⟩
  ·rintro σ H6 ⟨v6,v7,v8,v9,rfl,zs6,ts6,b6,st6,hn6,hh6,th6,ha6,tu6,tj6⟩
   rw[List.length_map] at tj6
   have ly:ys0.length=ns.length:=by
    have h1:=Paired.length th6
    rw[List.length_map] at h1
    have h2:=congrArg List.length en
    rw[List.length_map] at h2
    omega
   refine⟨_,rfl,_,rfl,lh0,_,rfl,.inl (.of hh6),l,_,rfl,by show (0:Int)<(ys0.length:Int);omega,by show (ys0.length:Int)<1073741824;omega,st6,fun tn H7 q0 q1 b7 st7=>?_⟩
   obtain⟨tn,rfl⟩:=Int.eq_ofNat_of_zero_le q0
   obtain⟨xs6,hl6⟩:=st6.some
   have hh7:=b7 _ _ hh6 lh0l
   have ha7:=b7 _ _ ha6 hla.symm
   have tu7:=ay_ tu6 b7 hl6
   have th7:=ay_ th6 b7 hl6
   refine⟨_,rfl,_,rfl,_,rfl,lh0,_,rfl,.of hh7,fun p1 hp1=>?_⟩
   rw[dH_]
   have s8:=Same.new (o:=.lst (ys0.drop tn)) hp1
   refine⟨_,rfl,_,rfl,_,rfl,lh0,_,rfl,.of (s8 _ _ hh7),fun p2 hp2=>?_⟩
   rw[dQ_]
   have s9:=Same.new (o:=.lst (ys0.take tn)) hp2
   refine⟨p1,p2,_,_,rfl,rfl,s9 _ _ a1_,a1_,by rw[List.length_drop,List.length_take];omega,fun p3 hp3=>?_⟩
   have s10:=Same.new (o:=.lst (ys0.drop tn++ys0.take tn)) hp3
   have s710:=s8.trans (s9.trans s10)
   refine⟨_,rfl,by show 2<=sizeLine;decide,fun t ht=>?_⟩
   have s11:=Same.new (o:=.tup [.ref p3,.ref a]) ht
   have s711:=s710.trans s11
   have b67:=b6.trans b7
   have perm:=f3_ hs0 tn
   have pm:=perm.map (·.1)
   have gt:=tj6.good N.nd N.ok
   have mem:∀n,n∈(hs0.drop tn++hs0.take tn).map (·.1) ↔ n∈ns:=fun n=>by rw[pm.mem_iff,en]
   refine k t p3 a _ zs6 (hs0.drop tn++hs0.take tn) ts6 _ (b67.trans (But.of s711)) (st7.same s711) a1_ ((b67.trans (But.of (s8.trans s9))).free (st7.same (s8.trans s9)) hp3) ha0 (fun e=>?_) (s11 _ _ a1_) ?_ (s711 _ _ ha7) (tu7.same s711) ⟨fun h hh=>?_,?_,?_,?_,fun t ht=>(gt t ht).1,tj6.nd,by have:=tj6.len;omega,fun t ht=>⟨(mem _).mpr (gt t ht).2.1,(mem _).mpr (gt t ht).2.2⟩⟩ fun n hn=>?_
   ·subst e
    rw[(s8.trans s9) _ _ ha7] at hp3
    cases hp3
   ·rw[List.map_append,List.map_drop,List.map_take]
    have tt7:TupsAt K H7 (ys0.drop tn++ys0.take tn) ((hs0.map kH).drop tn++(hs0.map kH).take tn):=as_ (bK_ tn th7) (bJ_ tn th7)
    exact tt7.same s711
   ·have hm:=perm.mem_iff.mp hh
    obtain⟨g1,g2⟩:=gh h hm
    exact⟨N.ok _ (by rw[<- en];exact List.mem_map.mpr ⟨h,hm,rfl⟩),g1,g2⟩
   ·refine pm.nodup_iff.mpr ?_
    rw[en]
    exact N.nd
   ·have:=pm.length_eq
    rw[List.length_map,en] at this
    omega
   ·have:=pm.length_eq
    rw[List.length_map,en] at this
    omega
   ·rcases N.end_ n ((mem n).mp hn) with z|⟨kk,h1,h2⟩
    ·exact .inl z
    ·exact .inr ⟨kk,by omega,h2⟩
end
end Ev
set_option Elab.async false
set_option linter.all false
set_option maxRecDepth 100000
namespace HT
open PySem PySem.Spec PyProof.Rows
section
variable{prog:Program}{w:World}{A:Around}{E:Value->Shared->Prop}{s:Shared}
theorem getItem_rev2{t sl:Addr}{a b:Value}{u:Tok}{Q:Value->Shared->Prop}(ht:IsTup s.heap t #[a,b])(hs:s.heap.IsSliceOf sl .none .none (.int (-1) u))
  (h:Q (.ref s.heap.objs.size) { s with heap:=s.heap.push { cls:=.type "tuple",data:=.seq #[b,a] } }):wpAny (model prog w) A (getItem (.ref t) (.ref sl)) Q E s:=by
 have htake:sizeOk (.seq #[b,a]):=by
  show 2<=sizeLine
  decide
 obtain⟨os,hos,hcs,hds⟩:=id hs
 have hTs:s.TypeIs (.ref sl) "slice":=⟨os,hos,hcs⟩
 unfold getItem
 try with_reducible refine wpAny_holding ?_
 first|refine wpAny_bind (wpAny_pure ?_)|skip
 refine wpAny_bind (wpAny_sequenceKey ht.typeIs (by decide) ?_)
 refine wpAny_bind (wpAny_callSpecial?_slot (name:=Str.ofString "__getitem__") ht.typeIs PyProof.Rows.slot_tuple_getitem
  (wpAny_call_entry PyProof.Rows.slot_tuple_getitem ht.typeIs entry_tuple_getitem ?_ (args_tuple_getitem _ _)))
 show wpAny _ _ (Builtin.Tuple.tupleItemsOf (.ref t) >>= _) _ _ s
 refine wpAny_bind (tupleItemsOf_ ht ?_)
 refine wpAny_bind (wpAny_typeOf hTs ?_)
 rw[if_pos (by decide)]
 have ap:∀{A':Around} {E':Value->Shared->Prop} {R:Int × Int × Nat->Shared->Prop},R (1,-1,2) s->wpAny (model prog w) A' (Builtin.Slice.sliceApplied (.ref sl) (pure ((#[a,b]:Array Value).size:Int))) R E' s:=by
  intro A' E' R hR
  unfold Builtin.Slice.sliceApplied Builtin.Slice.sliceFields
  refine wpAny_bind (wpAny_bind (wpAny_field hos hds (x:=.none) rfl (wpAny_bind (wpAny_field hos hds (x:=.none) rfl (wpAny_bind (wpAny_field hos hds (x:=.int (-1) u) rfl (wpAny_pure ?_)))))))
  refine wpAny_bind (slicePart_int ?_)
  show wpAny _ _ (if ((-1:Int) == 0)=true then _ else _) _ _ s
  rw[if_neg (by decide)]
  exact wpAny_bind (slicePart_none (wpAny_bind (slicePart_none (wpAny_bind (wpAny_pure (wpAny_pure (by with_unfolding_all exact hR)))))))
 refine wpAny_bind (ap ?_)
 show wpAny _ _ (if ((1:Int) == 0&&(-1:Int) == 1&&(2:Nat) == 2)=true then _ else _) _ _ s
 rw[if_neg (by decide)]
 have e:(List.filterMap (fun(k:Nat)=>(#[a,b]:Array Value)[((1:Int)+(k:Int) * -1).toNat]?) (List.range 2)).toArray=#[b,a]:=by with_unfolding_all rfl
 rw[e]
 first
  |exact wpAny_bind (m:=Builtin.Tuple.tupleExact _) (wpAny_newObj_type (wpAny_pure ⟨_,rfl,wpAny_pure h⟩) htake)
  |exact wpAny_bind (m:=Builtin.Tuple.tupleExact _) (wpAny_newObj_type (wpAny_bind (wpAny_pure (wpAny_pure ⟨_,rfl,wpAny_pure h⟩))) htake)
  |exact wpAny_bind (wpAny_bind (m:=Builtin.Tuple.tupleExact _) (wpAny_newObj_type (wpAny_pure (wpAny_pure ⟨_,rfl,wpAny_pure h⟩)) htake))
  |exact wpAny_bind (wpAny_bind (m:=Builtin.Tuple.tupleExact _) (wpAny_newObj_type (wpAny_pure ⟨_,rfl,wpAny_pure h⟩) htake))
end
end HT
namespace L2
open PySem PySem.Spec PyProof.Rows
section
variable{X:Cx}{e st:Expr}{te ts:TE}{pos p2:Pos}
def tRev2(K:PySem.W.Frag)(te ts:TE):TE:=fun σ H Q=>te σ H fun x H1=>ts σ H1 fun y H2=>y=.int (-1)/\∃a u v,x=.ref a/\SqT K H2 a [u,v]/\∀p,H2 p=none->Q (.ref p) (upd H2 p (.tup [v,u]))
theorem iw_(he:PE X e te)(hs:PE X st ts):PE X (.Subscript e (.Slice none none (some st) p2) pos) (tRev2 X.K te ts):=by
 intro pins s σ H Q I h
 refine Subscript_ (thn (he pins s σ H _ I h) fun v s1 ⟨x,H1,I1,r1,q1⟩=>?_)
 refine wpAny_Slice ?_
 rw[evalPart_none]
 refine wpAny_pure (wpAny_pure ?_)
 rw[evalPart_some]
 refine thn (hs pins s1 σ H1 _ I1 q1) fun vs s3 ⟨y,H3,I3,ry,ey,a,u,v',ex,hx,q⟩=>?_
 subst ex ey
 obtain⟨t,rfl⟩:=ry
 cases r1
 have I4:Inv X pins σ H3 { s3 with heap:=s3.heap.push { cls:=.type "slice",data:=.fields #[.none,.none,.int (-1) t] } }:=I3.kept (t':=s3.toks) fun b ob q=>Heap.get?_push_of_some _ q
 obtain⟨its,r,ht,hz⟩:=I4.tuple hx
 obtain⟨x1,x2,rfl,rx1,rx2⟩:=Vals.two r
 show wpAny (model X.prog X.w) X.A (subscriptTail e (.Slice none none (some st) p2) (.ref a) (.ref s3.heap.objs.size)) (EP X pins σ Q) X.xe { s3 with heap:=s3.heap.push { cls:=.type "slice",data:=.fields #[.none,.none,.int (-1) t] } }
 refine tail_any (ops:=[.ref a,.ref s3.heap.objs.size]) ht.typeIs PyProof.Rows.slot_tuple_getitem.lookup (HT.getItem_rev2 ht (Heap.IsSliceOf.new ..) ?_) (by with_unfolding_all rfl)
 refine⟨.ref _,upd H3 _ (.tup [v',u]),I4.laid (t':=s3.toks) (fun b o e=>Heap.get?_push_of_some _ e) (Nat.le_refl _) ?_,rfl,q _ (I4.hok.fresh (Nat.le_refl _))⟩
 exact⟨by show 2<=sizeLine;decide,[x2,x1],.cons rx2 (.cons rx1 .nil),⟨_,Heap.get?_push_size _ rfl,rfl,_,rfl⟩,_,Heap.get?_push_size _ rfl,rfl⟩
theorem dx_{K:PySem.W.Frag}(he:PE X e te)(hs:PE X st ts)(hK:X.K=K:=by rfl):PE X (.Subscript e (.Slice none none (some st) p2) pos) (tRev2 K te ts):=by
 subst hK
 exact iw_ he hs
end
end L2
set_option Elab.async false
set_option linter.all false
set_option maxRecDepth 100000
namespace Ev
open PySem L2
structure WaysOf (ts ws:List (Str × Str)):Prop where
 good:∀w∈ws,goodT w
 nd:(ws.map kO).Nodup
 inn:∀w∈ws,kO w∈ts.map kO
 len:ws.length<=ts.length
theorem jg_{ts us ws:List (Str × Str)}(good:∀t∈ts,goodT t)(nd:(ts.map kO).Nodup)(sub:us.Sublist ts)(p:Paired (fun w u=>w=u∨w=(u.2,u.1)) ws us):WaysOf ts ws:=by
 have e:ws.map kO=us.map kO:=by
  clear sub
  induction p with
  |nil=>rfl
  |cons h _ ih=>
   rw[List.map_cons,List.map_cons,ih]
   rcases h with rfl|rfl
   ·rfl
   ·exact congrArg (·::_) (es_ _ _)
 refine⟨fun w hw=>?_,?_,fun w hw=>?_,?_⟩
 ·obtain⟨i,hi,ew⟩:=List.getElem_of_mem hw
  have hl:=Paired.length p
  have q:=ah_ p i hi (by omega)
  rw[ew] at q
  have g:=good _ (sub.subset (List.getElem_mem (show i<us.length by omega)))
  rcases q with q|q
  ·rw[q]
   exact g
  ·rw[q]
   exact⟨g.2.1,g.1,g.2.2.symm⟩
 ·rw[e]
  exact (sub.map kO).nodup nd
 ·have:kO w∈ws.map kO:=List.mem_map.mpr ⟨w,hw,rfl⟩
  rw[e] at this
  exact (sub.map kO).subset this
 ·rw[Paired.length p]
  exact sub.length_le
def WyAt(K:PySem.W.Frag)(H:Hp)(v:V):Option (List (Str × Str))->Prop
 |none=>v=.non
 |some ws=>∃a ys,v=.ref a/\H a=some (.lst ys)/\TupsAt K H ys (ws.map kT)
theorem WyAt.same{K:PySem.W.Frag}{H H':Hp}{v:V}{o:Option (List (Str × Str))}(h:WyAt K H v o)(s:Same H H'):WyAt K H' v o:=by
 cases o with
 |none=>exact h
 |some ws=>
  obtain⟨a,ys,e,ha,t⟩:=h
  exact⟨a,ys,e,s _ _ ha,t.same s⟩
section
variable{P:Program}{w:World}{K:PySem.W.Frag}{mg:Str->Option Value}{base:Heap}
theorem scWays:FnScope ["_law_state","_law_ties","_law_some"] ["_law_state","_law_ties"] (defScope sWays):=⟨rfl,rfl,rfl,by decide +kernel,rfl,by decide +kernel,by decide +kernel⟩
def spWays(K:PySem.W.Frag):Sp:=fun vs H Q _=>∃(l lt:Addr) (zs:List V) (ts:List (Str × Str)),vs=[.ref l,.ref lt]/\stt H l/\H lt=some (.lst zs)/\TupsAt K H zs (ts.map kT)/\lt≠l/\ts.length<64/\(∀t∈ts,goodT t)/\(ts.map kO).Nodup /\
 ∀(v:V) (o:Option (List (Str × Str))) (H':Hp),But l H H'->stt H' l->WyAt K H' v o->(∀a,v=.ref a->H a=none)->(∀ws,o=some ws->WaysOf ts ws)->Q v H'
theorem jc_{f:Addr}{fd:FuncData}(F:Fun K "_law_ways" "_law_ways" sWays f fd)(B:Bi mg)(cD:Cal P w K mg base 1 "_law_digit" ["_law_state","_law_base"] spDigit):FnOk P w K mg base CX0 2 f fd ["_law_state","_law_ties"] (spWays K):=by
 refine F.ok scWays (fun vs H Q E h=>?_) (fun cdv A outer s H vs Q E hr h=>?_)
 ·obtain⟨l,lt,zs,ts,rfl,_⟩:=h
  rfl
 ·obtain⟨l,lt,zs,ts,rfl,st,hlt,tu,ltl,h64,good,nd,k⟩:=h
  have sz:=sizeLine_eq
  have lz:=Paired.length tu
  rw[List.length_map] at lz
  refine' ⟨_,a3_ (ax_ (ap_ ip_ (a9_ cD hr (a0_ (pv 0) (a0_ a6_ a2_))) a6_ (nomark _)) (a5_ (ad_ fg_)) af_)
   (a3_ (bp_ (i:=2) ["_law_tie","_law_state"] 1 [0] scWays.nd rfl (Or.inl rfl) (aj_ (pv 1)) (fun fp s H=>a8_ (i:=0) (show (["_law_tie","_law_state"]:List Str).Nodup by decide +kernel) rfl (Or.inl rfl))
    (fun fp s H=>?ht) (fun fp s H=>?he1))
   (a5_ (ad_ (aI_ ["_law_tie","_law_state"] 1 [0] (aj_ (pv 2)) (fun fp s H=>a8_ (i:=0) (show (["_law_tie","_law_state"]:List Str).Nodup by decide +kernel) rfl (Or.inl rfl)) (fun fp s H=>au_)
    (fun fp s H=>?he))))),?_⟩
  case ht=>exact ep_ (ap_ fy_ (a9_ cD hr (a0_ (pv 1) (a0_ a6_ a2_))) a6_ (nomark _))
  case he1=>exact pv 0
  case he=>exact aA_ (ixK (K:=K) rIxL aN_) (aV_ (a0_ (pv 0) (a0_ (dx_ (K:=K) (pv 0) (dG_ cj_ a6_)) a2_))) (a9_ cD hr (a0_ (pv 1) (a0_ a6_ a2_))) (fun _ _=>rfl)
  refine⟨_,rfl,l,3,rfl,by decide,by decide,st,fun r H1 r0 r3 b1 st1=>⟨_,_,rfl,rfl,_,rfl,?_⟩⟩
  refine ite2 (fun c=>?_) (fun c=>?_)
  ·exact k .non none H1 b1 st1 rfl (fun a z=>by cases z) (fun ws z=>by cases z)
  obtain⟨xs,hl⟩:=st.some
  have hlt1:=b1 _ _ hlt ltl
  have tu1:=ay_ tu b1 hl
  refine⟨_,rfl,lt,rfl,⟨_,.of hlt1⟩,fun D hD=>?_⟩
  have Dl:D≠l:=by
   obtain⟨xs,e⟩:=st1.some
   exact (a4_ e hD).symm
  refine aq_ (own:=1) (fv:=[some (.ref l)]) (xs:=zs) rfl gok1 (fun i out H'=>∃us:List (Str × Str),But l H1 H'/\stt H' l/\H' D=some (.lst out)/\TupsAt K H' out (us.map kT)/\us.Sublist (ts.take i)) ⟨[],But.of (Same.new hD),st1.same (Same.new hD),a1_,.nil,List.nil_sublist _⟩ (fun i out H' _ ⟨_,b,_⟩=>.of (b _ _ hlt1 ltl)) (fun ys2 H2 ⟨us,b2,st2,hD2,tu2,sub⟩=>?_) (fun i x out H' hx ⟨us,b,stx,hDx,tux,sub⟩=>?_)
  rotate_left 1
  ·obtain⟨t,ht,p,rfl,hp⟩:=aD_ tu1 hx
   refine⟨_,rfl,rfl,fun Nx hN=>?_⟩
   refine⟨_,rfl,l,2,rfl,by decide,by decide,stx,fun r2 H4 q0 q1 b4 st4=>⟨rfl,_,rfl,?_⟩⟩
   obtain⟨xsx,hlx⟩:=stx.some
   have tu4:=ay_ tux b4 hlx
   have hD4:=b4 _ _ hDx Dl
   refine ite2 (fun c2=>?_) (fun c2=>?_)
   ·have lo:=Paired.length tux
    rw[List.length_map] at lo
    have ls:=sub.length_le
    rw[List.length_take] at ls
    have hp4:=b4 _ _ (b _ _ hp (az_ hp (show H1 l=some _ from st1.some.choose_spec) (by intro z;cases z))) (by
     obtain⟨xs1,e1⟩:=st1.some
     exact az_ hp e1 (by intro z;cases z))
    refine⟨_,rfl,out,hD4,by omega,hN _ _ ⟨us++[t],fun b' o e ne=>?_,?_,a1_,?_,?_⟩⟩
    ·rw[a7_ (a4_ e hD)]
     exact b4 _ _ (b _ _ e ne) ne
    ·unfold stt
     rw[a7_ Dl.symm]
     exact st4
    ·rw[List.map_append]
     exact b0_ (b6_ tu4 hp4) hD4
    ·rw[List.take_add_one,ht]
     exact sub.append (List.Sublist.refl _)
   ·refine hN _ _ ⟨us,b.trans b4,st4,hD4,tu4,sub.trans ?_⟩
    rw[List.take_add_one]
    exact List.sublist_append_left _ _
  rw[lz,List.take_length] at sub
  have lu:=Paired.length tu2
  rw[List.length_map] at lu
  have ls:=sub.length_le
  refine⟨_,rfl,D,rfl,⟨_,.of hD2⟩,fun a ha=>?_⟩
  have al:a≠l:=by
   obtain⟨xs,e⟩:=st2.some
   exact (a4_ e ha).symm
  have Da:D≠a:=a4_ hD2 ha
  refine aq_ (own:=1) (fv:=[some (.ref l)]) (xs:=ys2) rfl gok1 (fun i out H'=>∃ws:List (Str × Str),But l H2 H'/\stt H' l/\H' a=some (.lst out)/\TupsAt K H' out (ws.map kT)/\Paired (fun w u=>w=u∨w=(u.2,u.1)) ws (us.take i)) ⟨[],But.of (Same.new ha),st2.same (Same.new ha),a1_,.nil,.nil⟩ (fun i out H' _ ⟨_,b,_⟩=>.of (b _ _ hD2 Dl)) (fun ys3 H3 ⟨ws,b3,st3,ha3,tu3,pw⟩=>?_) (fun i x out H' hx ⟨ws,b,stx,hax,tux,pw⟩=>?_)
  ·rw[lu,List.take_length] at pw
   have b0:=b1.trans b2
   exact k (.ref a) (some ws) H3 (b0.trans b3) st3 ⟨a,ys3,rfl,ha3,tu3⟩ (fun c z=>by cases z;exact b0.free st2 ha) (fun ws' z=>by cases z;exact jg_ good nd sub pw)
  ·obtain⟨t,ht,p,rfl,hp⟩:=aD_ tu2 hx
   have hi:i<us.length:=(List.getElem?_eq_some_iff.mp ht).1
   obtain⟨xs2,hl2⟩:=st2.some
   obtain⟨xsx,hlx⟩:=stx.some
   have hpx:=b _ _ hp (az_ hp hl2 (by intro z;cases z))
   refine⟨_,rfl,rfl,fun Nx hN=>yesT ?_⟩
   refine⟨_,rfl,_,rfl,_,rfl,rfl,p,_,_,rfl,.of (hpT hpx),fun q hq=>?_⟩
   have s4:=Same.new (o:=.tup [.str t.2,.str t.1]) hq
   refine⟨by show 2<=sizeLine;decide,fun lx hlx'=>?_⟩
   have s5:=Same.new (o:=.lst [.ref p,.ref q]) hlx'
   have s45:=s4.trans s5
   have st5:=stx.same s45
   have lxl:lx≠l:=by
    obtain⟨xs,e⟩:=(stx.same s4).some
    exact (a4_ e hlx').symm
   refine⟨_,rfl,l,2,rfl,by decide,by decide,st5,fun r2 H6 q0 q1 b6 st6=>?_⟩
   obtain⟨xs5,hl5⟩:=st5.some
   have hp5:=s45 _ _ hpx
   have hq5:=s5 _ _ (show upd H' q (.tup [.str t.2,.str t.1]) q=_ from a1_)
   have hp6:=b6 _ _ hp5 (az_ hp5 hl5 (by intro z;cases z))
   have hq6:=b6 _ _ hq5 (az_ hq5 hl5 (by intro z;cases z))
   have hlx6:=b6 _ _ (show upd (upd H' q (.tup [.str t.2,.str t.1])) lx (.lst [.ref p,.ref q]) lx=_ from a1_) lxl
   have pick:∃(c:Addr) (tt:Str × Str),atI [V.ref p,V.ref q] r2=some (.ref c)/\H6 c=some (.tup ((kT tt).map kV))/\(tt=t∨tt=(t.2,t.1)):=by
    rcases hit2 (a:=V.ref p) (b:=V.ref q) q0 q1 with e|e
    ·exact⟨p,t,e,hp6,.inl rfl⟩
    ·exact⟨q,(t.2,t.1),e,hq6,.inr rfl⟩
   obtain⟨c,tt,et,hc,etc⟩:=pick
   have b16:But l H' H6:=(But.of s45).trans b6
   have ha6:=b16 _ _ hax al
   have lo:=Paired.length tux
   rw[List.length_map] at lo
   have lp:=Paired.length pw
   rw[List.length_take] at lp
   refine⟨lx,_,_,_,rfl,rfl,.of hlx6,et,out,ha6,by omega,hN _ _ ⟨ws++[tt],fun b' o e ne=>?_,?_,a1_,?_,?_⟩⟩
   ·rw[a7_ (a4_ e ha)]
    exact b16 _ _ (b _ _ e ne) ne
   ·unfold stt
    rw[a7_ al.symm]
    exact st6
   ·rw[List.map_append]
    exact b0_ (b6_ (ay_ tux b16 hlx) hc) ha6
   ·rw[List.take_add_one,ht]
    exact as_ pw (.cons etc .nil)
end
end Ev
set_option Elab.async false
set_option linter.all false
set_option maxRecDepth 100000
namespace Ev
open PySem L2
abbrev Pc:=Str × Int × Option (List (Str × Str))
def PcAt(K:PySem.W.Frag)(H:Hp)(y:V)(p:Pc):Prop:=∃t v,y=.ref t/\H t=some (.tup [.str p.1,.int p.2.1,v])/\WyAt K H v p.2.2
abbrev PcsAt(K:PySem.W.Frag)(H:Hp)(ys:List V)(ps:List Pc):Prop:=Paired (PcAt K H) ys ps
structure GoodP (ts:List (Str × Str)) (p:Pc):Prop where
 nm:nameB p.1=true
 w1:1<=p.2.1
 w2:p.2.1<=1000000000
 ws:∀ws,p.2.2=some ws->WaysOf ts ws
theorem iQ_{K:PySem.W.Frag}{H:Hp}{a l:Addr}{ys:List V}{ks:List (List Key)}(t:TupsAt K H ys ks)(ha:H a=some (.lst ys))(st:stt H l):a≠l:=fun e=>by
 subst e
 rcases st with⟨n,e⟩|⟨n,m,c,e⟩
 all_goals
  rw[ha] at e
  have e:ys=_:=HO.lst.inj (Option.some.inj e)
  subst e
  cases t with
  |cons h _=>
   obtain⟨b,z,_⟩:=h
   cases z
theorem WyAt.but{K:PySem.W.Frag}{H H':Hp}{l:Addr}{v:V}{o:Option (List (Str × Str))}(h:WyAt K H v o)(b:But l H H')(st:stt H l):WyAt K H' v o:=by
 cases o with
 |none=>exact h
 |some ws=>
  obtain⟨a,ys,e,ha,t⟩:=h
  obtain⟨xs,hl⟩:=st.some
  exact⟨a,ys,e,b _ _ ha (iQ_ t ha st),ay_ t b hl⟩
theorem PcAt.but{K:PySem.W.Frag}{H H':Hp}{l:Addr}{y:V}{p:Pc}(h:PcAt K H y p)(b:But l H H')(st:stt H l):PcAt K H' y p:=by
 obtain⟨t,v,e,ht,hv⟩:=h
 obtain⟨xs,hl⟩:=st.some
 exact⟨t,v,e,b _ _ ht (az_ ht hl (by intro z;cases z)),hv.but b st⟩
theorem PcAt.same{K:PySem.W.Frag}{H H':Hp}{y:V}{p:Pc}(h:PcAt K H y p)(s:Same H H'):PcAt K H' y p:=by
 obtain⟨t,v,e,ht,hv⟩:=h
 exact⟨t,v,e,s _ _ ht,hv.same s⟩
theorem WyAt.put{K:PySem.W.Frag}{H:Hp}{D:Addr}{xs:List V}{v:V}{o:Option (List (Str × Str))}{u:HO}(h:WyAt K H v o)(hD:H D=some (.lst xs))(ne:v≠.ref D):WyAt K (upd H D u) v o:=by
 cases o with
 |none=>exact h
 |some ws=>
  obtain⟨a,ys,e,ha,t⟩:=h
  subst e
  exact⟨a,ys,rfl,by rw[a7_ fun z=>ne (by rw[z])];exact ha,b0_ t hD⟩
section
variable{P:Program}{w:World}{K:PySem.W.Frag}{mg:Str->Option Value}{base:Heap}
theorem scPieces:FnScope ["_law_state","_law_ties","_law_most","_law_pieces_here","_law_name","_law_weight","_law_turn"] ["_law_state","_law_ties","_law_most"] (defScope sPieces):=⟨rfl,rfl,rfl,by decide +kernel,rfl,by decide +kernel,by decide +kernel⟩
def spPieces(K:PySem.W.Frag):Sp:=fun vs H Q _=>∃(l lt:Addr) (m:Nat) (zs:List V) (ts:List (Str × Str)),vs=[.ref l,.ref lt,.int m]/\m<=30/\stt H l/\H lt=some (.lst zs)/\TupsAt K H zs (ts.map kT)/\lt≠l/\ts.length<64/\(∀t∈ts,goodT t)/\(ts.map kO).Nodup /\
 ∀(a:Addr) (ys:List V) (ps:List Pc) (H':Hp),But l H H'->stt H' l->H a=none->H' a=some (.lst ys)->PcsAt K H' ys ps->(∀p∈ps,GoodP ts p)->(ps.map (·.1)).Nodup->ps.length<=m->(∀p∈ps,EndB m p.1)->Q (.ref a) H'
theorem h0_{f:Addr}{fd:FuncData}(F:Fun K "_law_pieces" "_law_pieces" sPieces f fd)(B:Bi mg)(cD:Cal P w K mg base 1 "_law_digit" ["_law_state","_law_base"] spDigit)(cN:Cal P w K mg base 2 "_law_names" ["_law_state","_law_many"] spNames)(cW:Cal P w K mg base 2 "_law_ways" ["_law_state","_law_ties"] (spWays K)) :
  FnOk P w K mg base CX0 3 f fd ["_law_state","_law_ties","_law_most"] (spPieces K):=by
 refine F.ok scPieces (fun vs H Q E h=>?_) (fun cdv A outer s H vs Q E hr h=>?_)
 ·obtain⟨l,lt,m,zs,ts,rfl,_⟩:=h
  rfl
 ·obtain⟨l,lt,m,zs,ts,rfl,m30,st,hlt,tu,ltl,h64,good,nd,k⟩:=h
  have sz:=sizeLine_eq
  have hr1:Room 1 _:=hr.mono (by decide)
  refine⟨_,a3_ (ab_ (i:=3) scPieces.nd rfl (Or.inl rfl) (aV_ a2_))
   (a3_ (aM_ PassesOwn.never rfl (aj_ (a9_ cN hr (a0_ (pv 0) (a0_ (a9_ cD hr1 (a0_ (pv 0) (a0_ (ai_ aU_ (pv 2) a6_) a2_))) a2_)))) (a8_ (i:=4) scPieces.nd rfl (Or.inl rfl))
    (a3_ (ab_ (i:=5) scPieces.nd rfl (Or.inl rfl) (ai_ aU_ a6_ (a9_ cD hr1 (a0_ (pv 0) (a0_ (aA_ aN_ (aV_ (a0_ a6_ (a0_ a6_ (a0_ (ai_ h1_ a6_ a6_) a2_)))) (a9_ cD hr1 (a0_ (pv 0) (a0_ a6_ a2_))) (fun _ _=>rfl)) a2_)))))
    (a5_ (cE_ (fM_ PySem.F.plainAttrs_list PySem.F.slot_list_append PySem.F.type_list_append bN_ (pv 3) (a0_ (aO_ (a0_ (pv 4) (a0_ (pv 5) (a0_ (a9_ cW hr (a0_ (pv 0) (a0_ (pv 1) a2_))) a2_)))) a2_))))))
   (a3_ (ab_ (i:=6) scPieces.nd rfl (Or.inl rfl) (a9_ cD hr1 (a0_ (pv 0) (a0_ (ai_ aU_ (ac_ an_ (by rfl) B.len PySem.boot_len (a0_ (pv 3) a2_)) a6_) a2_))))
   (a5_ (ad_ (ai_ dX_ (aX_ bv_ (pv 3) (bs_ (pv 6)) bq_) (aX_ bv_ (pv 3) bq_ (bs_ (pv 6)))))))),?_⟩
  refine⟨by show 0<=sizeLine;decide,fun a ha=>?_⟩
  have s1:=Same.new (o:=.lst []) ha
  have hla:l≠a:=by
   obtain⟨xs,e⟩:=st.some
   exact a4_ e ha
  have lta:lt≠a:=a4_ hlt ha
  refine⟨_,rfl,_,rfl,_,rfl,_,_,rfl,rfl,l,(m:Int)+1,rfl,by omega,by omega,st.same s1,fun r H2 r0 rm b2 st2=>?_⟩
  obtain⟨r,rfl⟩:=Int.eq_ofNat_of_zero_le r0
  refine⟨l,r,rfl,by omega,st2,fun ln ns H3 b3 st3 fn hn3 N=>?_⟩
  have lnl:ln≠l:=fun e=>by
   subst e
   obtain⟨xs,e2⟩:=st2.some
   rw[fn] at e2
   cases e2
  have ha2:=b2 _ _ (show upd H a (.lst []) a=_ from a1_) hla.symm
  have lna:ln≠a:=fun e=>by
   subst e
   rw[fn] at ha2
   cases ha2
  have B3:But l H H3:=(But.of s1).trans (b2.trans b3)
  have ha3:=b3 _ _ ha2 hla.symm
  have hlt3:=B3 _ _ hlt ltl
  obtain⟨xs0,hl0⟩:=st.some
  have tu3:=ay_ tu B3 hl0
  refine⟨ln,rfl,⟨_,.of hn3⟩,aR_ (K:=K) (a:=ln) (xs:=ns.map V.str) (fun i σ H'=>∃(v4 v5 v6:Option V) (ys:List V) (ps:List Pc),σ=[some (.ref l),some (.ref lt),some (.int m),some (.ref a),v4,v5,v6]/\But l H H'/\stt H' l/\H' ln=some (.lst (ns.map V.str))/\H' a=some (.lst ys)/\PcsAt K H' ys ps/\(∀y v,y∈ys->∀t n q,y=.ref t->H' t=some (.tup [n,q,v])->v≠.ref a)/\(∀p∈ps,GoodP ts p)/\ps.map (·.1)=ns.take i)
   ⟨none,none,none,[],[],rfl,B3,st3,hn3,ha3,.nil,fun y v hy=>(by simp at hy),by simp,rfl⟩ (fun i σ H' _ ⟨_,_,_,_,_,_,_,_,q,_⟩=>.of q) ?_ ?_⟩
  ·rintro i x σ H4 hx ⟨v4,v5,v6,ys,ps,rfl,b4,st4,hn4,ha4,pc4,far,gp,en⟩
   obtain⟨n,hn,rfl⟩:=av_ hx
   have hi:i<ns.length:=(List.getElem?_eq_some_iff.mp hn).1
   refine⟨_,rfl,_,_,rfl,rfl,⟨by decide,by decide,by decide⟩,by show 3<=sizeLine;decide,fun p hp=>?_⟩
   have s5:=Same.new (o:=.lst [.int 3,.int 100,.int ((10:Int) ^ (9:Int).toNat)]) hp
   have pl:p≠l:=by
    obtain⟨xs,e⟩:=st4.some
    exact (a4_ e hp).symm
   refine⟨_,rfl,l,3,rfl,by decide,by decide,st4.same s5,fun r1 H6 q0 q1 b6 st6=>?_⟩
   obtain⟨y,hy,bb,eb,e1,e2⟩:=hit3 (p:=fun y:V=>∃n:Int,y=.int n/\0<n/\n<=1000000000) (a:=V.int 3) (b:=.int 100) (c:=.int ((10:Int) ^ (9:Int).toNat)) q0 q1 ⟨3,rfl,by decide,by decide⟩ ⟨100,rfl,by decide,by decide⟩ ⟨_,rfl,by decide,by decide⟩
   subst eb
   refine⟨p,_,_,_,rfl,rfl,.of (b6 _ _ a1_ pl),hy,l,bb,rfl,e1,by omega,st6,fun r2 H7 q2 q3 b7 st7=>⟨_,_,rfl,rfl,?_⟩⟩
   have b47:But l H4 H7:=(But.of s5).trans (b6.trans b7)
   have ha7:=b47 _ _ ha4 hla.symm
   have hlt7:=(b4.trans b47) _ _ hlt ltl
   have tu7:=ay_ tu (b4.trans b47) hl0
   refine⟨_,rfl,.inl ⟨rfl,_,.of ha7⟩,_,rfl,_,rfl,_,rfl,_,rfl,l,lt,zs,ts,rfl,st7,hlt7,tu7,ltl,h64,good,nd,fun v o H8 b8 st8 wy fresh gw=>?_⟩
   have b48:=b47.trans b8
   have ha8:=b8 _ _ ha7 hla.symm
   have hn8:=b48 _ _ hn4 lnl
   refine⟨by show 3<=sizeLine;decide,fun t ht=>?_⟩
   have s9:=Same.new (o:=.tup [.str n,.int (1+r2),v]) ht
   have va:v≠.ref a:=fun z=>by
    have:=fresh a z
    rw[ha7] at this
    cases this
   have ly:=Paired.length pc4
   have lp:=congrArg List.length en
   rw[List.length_map,List.length_take] at lp
   have hlen:=N.len
   have ta:t≠a:=(a4_ ha8 ht).symm
   refine⟨a,_,_,rfl,rfl,s9 _ _ ha8,by omega,?_⟩
   refine⟨_,_,_,_,ps++[(n,1+r2,o)],rfl,fun b' o' e ne=>?_,?_,?_,a1_,?_,?_,?_,?_⟩
   ·rw[a7_ (a4_ e ha)]
    exact s9 _ _ ((b4.trans b48) _ _ e ne)
   ·unfold stt
    rw[a7_ hla]
    exact st8.same s9
   ·rw[a7_ lna]
    exact s9 _ _ hn8
   ·have old:PcsAt K (upd (upd H8 t (.tup [.str n,.int (1+r2),v])) a (.lst (ys++[.ref t]))) ys ps:=by
     have gen:∀(ys':List V) (ps':List Pc),(∀y∈ys',y∈ys)->PcsAt K H4 ys' ps'->PcsAt K (upd (upd H8 t (.tup [.str n,.int (1+r2),v])) a (.lst (ys++[.ref t]))) ys' ps':=fun ys' ps' sub h=>by
      induction h with
      |nil=>exact .nil
      |@cons y q ys1 ps1 h _ ih=>
       refine .cons ?_ (ih fun z hz=>sub z (List.mem_cons_of_mem _ hz))
       obtain⟨t',v',e,ht',hv'⟩:=h
       have nv:=far y v' (sub y List.mem_cons_self) t' _ _ e ht'
       obtain⟨xs4,hl4⟩:=st4.some
       have ht8:=s9 _ _ (b48 _ _ ht' (az_ ht' hl4 (by intro z;cases z)))
       exact⟨t',v',e,by rw[a7_ (az_ ht8 (s9 _ _ ha8) (by intro z;cases z))];exact ht8,((hv'.but b48 st4).same s9).put (s9 _ _ ha8) nv⟩
     exact gen ys ps (fun _ h=>h) pc4
    exact as_ old (.cons ⟨t,v,rfl,by rw[a7_ ta];exact a1_,(wy.same s9).put (s9 _ _ ha8) va⟩ .nil)
   ·intro y v' hy' t' n' q' e ht'
    rcases List.mem_append.mp hy' with hy'|hy'
    ·obtain⟨j,hj,ej⟩:=List.getElem_of_mem hy'
     obtain⟨t2,v2,e2',ht2,_⟩:=ah_ pc4 j hj (by omega)
     rw[ej] at e2'
     subst e2'
     cases e
     obtain⟨xs4,hl4⟩:=st4.some
     have ht8:=s9 _ _ (b48 _ _ ht2 (az_ ht2 hl4 (by intro z;cases z)))
     rw[a7_ (az_ ht8 (s9 _ _ ha8) (by intro z;cases z)),ht8] at ht'
     have z:=HO.tup.inj (Option.some.inj ht')
     have:v2=v':=(List.cons.inj (List.cons.inj (List.cons.inj z).2).2).1
     subst this
     exact far _ v2 hy' _ _ _ rfl ht2
    ·obtain rfl:y=.ref t:=by simpa using hy'
     cases e
     rw[a7_ ta,a1_] at ht'
     have z:=HO.tup.inj (Option.some.inj ht')
     have:v=v':=(List.cons.inj (List.cons.inj (List.cons.inj z).2).2).1
     subst this
     exact va
   ·intro q hq
    rcases List.mem_append.mp hq with hq|hq
    ·exact gp q hq
    ·obtain rfl:q=(n,1+r2,o):=by simpa using hq
     exact⟨N.ok n (List.mem_of_getElem? hn),by show 1<=1+r2;omega,by show 1+r2<=1000000000;omega,gw⟩
   ·rw[List.map_append,en,List.take_add_one,hn]
    rfl
  ·rintro σ H4 ⟨v4,v5,v6,ys,ps,rfl,b4,st4,hn4,ha4,pc4,far,gp,en⟩
   rw[List.length_map,List.take_length] at en
   have ly:=Paired.length pc4
   have lp:=congrArg List.length en
   rw[List.length_map] at lp
   have hlen:=N.len
   refine⟨_,rfl,_,rfl,a,_,rfl,.inl (.of ha4),_,_,rfl,rfl,l,_,rfl,by show (0:Int)<(ys.length:Int)+1;omega,by show (ys.length:Int)+1<1073741824;omega,st4,fun tn H5 q0 q1 b5 st5=>?_⟩
   obtain⟨tn,rfl⟩:=Int.eq_ofNat_of_zero_le q0
   have ha5:=b5 _ _ ha4 hla.symm
   refine⟨_,rfl,_,rfl,_,rfl,a,_,rfl,.of ha5,fun p1 hp1=>?_⟩
   rw[dH_]
   have s6:=Same.new (o:=.lst (ys.drop tn)) hp1
   refine⟨_,rfl,_,rfl,_,rfl,a,_,rfl,.of (s6 _ _ ha5),fun p2 hp2=>?_⟩
   rw[dQ_]
   have s7:=Same.new (o:=.lst (ys.take tn)) hp2
   refine⟨p1,p2,_,_,rfl,rfl,s7 _ _ a1_,a1_,by rw[List.length_drop,List.length_take];omega,fun p3 hp3=>?_⟩
   have s57:=s6.trans s7
   have s8:=Same.new (o:=.lst (ys.drop tn++ys.take tn)) hp3
   have b45:=b4.trans b5
   have perm:=f3_ ps tn
   have pm:=perm.map (·.1)
   have all:=s57.trans s8
   refine k p3 _ (ps.drop tn++ps.take tn) _ (b45.trans (But.of all)) (st5.same all) ((b45.trans (But.of s57)).free (st5.same s57) hp3) a1_ ?_ (fun q hq=>gp q (perm.mem_iff.mp hq)) ?_ ?_ fun q hq=>?_
   ·have h5:PcsAt K _ ys ps:=Paired.mapP pc4 fun y q h=>(h.but b5 st4).same all
    exact as_ (bK_ tn h5) (bJ_ tn h5)
   ·refine pm.nodup_iff.mpr ?_
    rw[en]
    exact N.nd
   ·rw[perm.length_eq]
    omega
   ·have hm:=perm.mem_iff.mp hq
    have:q.1∈ns:=by
     rw[<- en]
     exact List.mem_map.mpr ⟨q,hm,rfl⟩
    rcases N.end_ _ this with z|⟨kk,h1,h2⟩
    ·exact .inl z
    ·exact .inr ⟨kk,by omega,h2⟩
end
end Ev
set_option Elab.async false
set_option linter.all false
set_option maxRecDepth 100000
namespace Ev
open PySem L2
def StrV(K:PySem.W.Frag)(H:Hp)(v:V):Option Str->Prop
 |some x=>v=.str x
 |none=>∃t,TyOf K H v t/\PySem.W.kitOne K t (.type "str")=some false
def inB(ns:List Str):Option Str->Bool
 |some x=>decide (x∈ns)
 |none=>false
def tiedB(hs:List (Str × Int))(ts:List (Str × Str)):Option Str->Option Str->Bool
 |some x,some y=>decide (x∈hs.map (·.1))&&(decide (y∈hs.map (·.1))&&decide (y∈near (nmsOf hs) (tsOf ts) x))
 |_,_=>false
theorem c8_(hs:List (Str × Int))(ts:List (Str × Str))(x y:Str):tiedB hs ts (some x) (some y)=(decide (x∈hs.map (·.1))&&(decide (y∈hs.map (·.1))&&decide (y∈near (nmsOf hs) (tsOf ts) x))):=rfl
section
variable{P:Program}{w:World}{K:PySem.W.Frag}{mg:Str->Option Value}{base:Heap}
def spHasA(K:PySem.W.Frag)(C:Addr):Sp:=fun vs H Q _=>∃(p:Addr) (v:V) (x:Option Str) (hs:List (Str × Int)) (ts:List (Str × Str)) (fp:List Addr),vs=[.ref p,v]/\WebAt K C H p hs ts fp/\StrV K H v x/\Q (.bl (inB (hs.map (·.1)) x)) H
theorem iK_{f C:Addr}{fd:FuncData}(F:Fun K "has_hand" "Web.has_hand" sHas f fd)(T:Txt K mg C)(B:Bi mg):FnOk P w K mg base CX0 1 f fd ["self","thing"] (spHasA K C):=by
 refine F.ok scHas (fun vs H Q E h=>?_) (fun cdv A outer s H vs Q E hr h=>?_)
 ·obtain⟨p,v,x,hs,ts,fp,rfl,_⟩:=h
  rfl
 ·obtain⟨p,v,x,hs,ts,fp,rfl,W,sv,k⟩:=h
  have hu:=b1_ hr
  obtain⟨dx,d1,l2,d3,zs,as,rfl,h1,h2,h3,h4,h5,h6,h7⟩:=W.ex
  refine⟨_,a5_ (ad_ (bE_ (ac_ aK_ (by rfl) B.isi PyProof.Rows.Boot.«isinstance» (a0_ (pv 1) (a0_ (aT_ (v:=.ty "str") (by rfl) B.str PyProof.Rows.Boot.«str» rfl) a2_))) (cf_ (eN_ (d5_ hu (pv 1) (aP_ (pv 0) rfl)))))),?_⟩
  cases x with
  |some x=>
   cases (show v=.str x from sv)
   refine⟨_,rfl,_,_,_,_,rfl,.str x,rfl,_,rfl,iteT ?_⟩
   refine⟨_,rfl,_,rfl,p,C,dx,_,_,rfl,h1,T.cl,T.nS,eR_ _ _ _,d1,_,rfl,.k (k:=Sum.inr x) h2,?_⟩
   rw[dl_]
   exact k
  |none=>
   obtain⟨t,ty,e⟩:=sv
   exact⟨_,rfl,_,_,_,_,rfl,ty,e,_,rfl,iteF k⟩
def spTiedA(K:PySem.W.Frag)(C:Addr):Sp:=fun vs H Q _=>∃(p:Addr) (v u:V) (x y:Option Str) (hs:List (Str × Int)) (ts:List (Str × Str)) (fp:List Addr),vs=[.ref p,v,u]/\WebAt K C H p hs ts fp/\(nmsOf hs).Nodup/\StrV K H v x/\StrV K H u y/\Q (.bl (tiedB hs ts x y)) H
theorem hK_{f C:Addr}{fd:FuncData}(F:Fun K "are_tied" "Web.are_tied" sTied f fd)(T:Txt K mg C)(cH:CalM P w K mg base C 1 "has_hand" ["self","thing"] (spHasA K C)):FnOk P w K mg base CX0 2 f fd ["self","one","other"] (spTiedA K C):=by
 refine F.ok scTied (fun vs H Q E h=>?_) (fun cdv A outer s H vs Q E hr h=>?_)
 ·obtain⟨p,v,u,x,y,hs,ts,fp,rfl,_⟩:=h
  rfl
 ·obtain⟨p,v,u,x,y,hs,ts,fp,rfl,W,nd,sv,su,k⟩:=h
  have hu:=b1_ hr
  obtain⟨dx,d1,l2,d3,zs,as,rfl,h1,h2,h3,h4,h5,h6,h7⟩:=id W.ex
  have hno:(flds d1 l2 d3).lookup ("has_hand":Str)=none:=b5_ _ _ _ (by decide +kernel) (by decide +kernel) (by decide +kernel)
  refine⟨_,a5_ (ad_ (bE_ (cl_ cH T.cl hr (pv 0) (a0_ (pv 1) a2_)) (bE_ (cl_ cH T.cl hr (pv 0) (a0_ (pv 2) a2_)) (cf_ (dg_ (i9_ cmpS (roomU hr 0)) (pv 2) (aJ_ hu (aP_ (pv 0) rfl) (pv 1) (fun _ _=>rfl)) (by with_unfolding_all rfl)))))),?_⟩
  refine⟨_,rfl,p,dx,_,rfl,h1,hno,_,rfl,p,v,x,hs,ts,_,rfl,W,sv,_,rfl,?_⟩
  cases x with
  |none=>exact iteF k
  |some x=>
   cases (show v=.str x from sv)
   refine ite2 (fun c=>?_) (fun c=>?_)
   ·have hx:x∈hs.map (·.1):=of_decide_eq_true c
    obtain⟨a,e1,ha⟩:=jJ_ nd hx h6 h7
    refine⟨_,rfl,p,dx,_,rfl,h1,hno,_,rfl,p,u,y,hs,ts,_,rfl,W,su,_,rfl,?_⟩
    cases y with
    |none=>exact iteF k
    |some y=>
     cases (show u=.str y from su)
     rw[c8_,decide_eq_true hx,Bool.true_and] at k
     refine ite2 (fun c2=>?_) (fun c2=>?_)
     ·have hy:y∈hs.map (·.1):=of_decide_eq_true c2
      rw[decide_eq_true hy,Bool.true_and] at k
      refine⟨_,rfl,_,rfl,p,C,dx,_,_,rfl,h1,T.cl,T.nN,jp_ _ _ _,_,rfl,d3,.ref a,rfl,?_,y,_,rfl,⟨a,_,rfl,.of ha,dz_ _⟩,k⟩
      rw[<- e1]
      exact .k (k:=Sum.inr x) h5
     ·have hy:¬y∈hs.map (·.1):=fun z=>c2 (decide_eq_true z)
      rw[decide_eq_false hy,Bool.false_and] at k
      exact k
   ·have hx:¬x∈hs.map (·.1):=fun z=>c (decide_eq_true z)
    cases y with
    |none=>exact k
    |some y=>
     rw[c8_,decide_eq_false hx,Bool.false_and] at k
     exact k
theorem ho_{hs:List (Str × Int)}{ts ws:List (Str × Str)}(G:Good hs ts)(W:WaysOf ts ws){t:Str × Str}(ht:t∈tsOf ws):tiedB hs ts (some t.1) (some t.2)=true:=by
 obtain⟨x,hx,ex⟩:=tsOf_mem.mp ht
 obtain⟨u,hu,eu⟩:=List.mem_map.mp (W.inn x hx)
 have eo:ord2 u.1 u.2=t:=(eY_ eu).trans ex
 have both:t.1∈hs.map (·.1)/\t.2∈hs.map (·.1)/\ord2 t.1 t.2=t:=by
  obtain⟨g1,g2⟩:=G.tin u hu
  rcases cP_ u.1 u.2 with e|e
  ·rw[<- eo,e]
   exact⟨g1,g2,e⟩
  ·rw[<- eo,e]
   exact⟨g2,g1,(dI_ _ _).trans e⟩
 obtain⟨m1,m2,m3⟩:=both
 have m4:t.2∈near (nmsOf hs) (tsOf ts) t.1:=List.mem_filter.mpr ⟨(ak_ hs).mem_iff.mpr m2,decide_eq_true (by rw[m3];exact tsOf_mem.mpr ⟨u,hu,eo⟩)⟩
 rw[c8_,decide_eq_true m1,decide_eq_true m2,decide_eq_true m4]
 rfl
theorem scCWays:FnScope ["web","ways","found","one","other"] ["web","ways"] (defScope sCWays):=⟨rfl,rfl,rfl,by decide +kernel,rfl,by decide +kernel,by decide +kernel⟩
def spCWays(K:PySem.W.Frag)(C:Addr):Sp:=fun vs H Q _=>∃(p:Addr) (v:V) (o:Option (List (Str × Str))) (hs:List (Str × Int)) (ts:List (Str × Str)) (fp:List Addr),vs=[.ref p,v]/\WebAt K C H p hs ts fp/\Good hs ts/\WyAt K H v o/\(∀ws,o=some ws->WaysOf ts ws) /\
 ∀v' H',Same H H'->WyAt K H' v' (o.map tsOf)->(∀a,v'=.ref a->H a=none)->Q v' H'
theorem i3_{f C:Addr}{fd:FuncData}(F:Fun K "checked_ways" "checked_ways" sCWays f fd)(T:Txt K mg C)(cS:Cal P w K mg base 3 "sorted_ties" ["ties"] (spSorted K))(cT:CalM P w K mg base C 2 "are_tied" ["self","one","other"] (spTiedA K C)):FnOk P w K mg base CX0 4 f fd ["web","ways"] (spCWays K C):=by
 refine F.ok scCWays (fun vs H Q E h=>?_) (fun cdv A outer s H vs Q E hr h=>?_)
 ·obtain⟨p,v,o,hs,ts,fp,rfl,_⟩:=h
  rfl
 ·obtain⟨p,v,o,hs,ts,fp,rfl,W,G,wy,gw,k⟩:=h
  have hu:=b1_ hr
  have hr2:Room 2 _:=hr.mono (by decide)
  refine⟨_,a3_ (ax_ (bC_ (cZ_ (pv 1))) (a5_ (ad_ fg_)) af_)
   (a3_ (ab_ (i:=2) scCWays.nd rfl (Or.inl rfl) (a9_ cS hr (a0_ (pv 1) a2_)))
   (a3_ (ax_ (bC_ (cZ_ (pv 2))) ae_ af_)
   (a3_ (aM_ PassesOwn.never rfl (aj_ (pv 2)) (bH_ rfl (aa_ (a8_ (i:=3) scCWays.nd rfl (Or.inl rfl)) (aa_ (a8_ (i:=4) scCWays.nd rfl (Or.inl rfl)) aF_)))
    (a5_ (ax_ (aC_ (aH_ (cl_ cT T.cl hr2 (pv 0) (a0_ (pv 3) (a0_ (pv 4) a2_))))) ae_ af_)))
   (a5_ (ad_ (pv 2)))))),?_⟩
  cases o with
  |none=>
   cases (show v=.non from wy)
   exact⟨_,rfl,_,rfl,iteT (k .non H (Same.refl H) rfl (fun a z=>by cases z))⟩
  |some ws=>
   obtain⟨a,ys,rfl,ha,tu⟩:=wy
   have Wo:=gw ws rfl
   refine⟨_,rfl,_,rfl,iteF ?_⟩
   refine⟨_,rfl,a,ys,ws,rfl,ha,tu,Wo.good,Wo.nd,by have:=Wo.len;have:=G.t64;omega,fun l' zs H1 s1 hf hl1 tz=>?_⟩
   refine⟨_,rfl,_,rfl,iteF ?_⟩
   have W1:=W.same s1
   obtain⟨dx,d1,l2,d3,zs0,as,rfl,h1,h2,h3,h4,h5,h6,h7⟩:=id W1.ex
   have hno:(flds d1 l2 d3).lookup ("are_tied":Str)=none:=b5_ _ _ _ (by decide +kernel) (by decide +kernel) (by decide +kernel)
   rw[<- cL_] at tz
   refine⟨_,rfl,l',rfl,⟨_,.of hl1⟩,aR_ (K:=K) (a:=l') (xs:=zs) (fun i σ H2=>∃(v3 v4:Option V),σ=[some (.ref p),some (.ref a),some (.ref l'),v3,v4]/\H2=H1) ⟨none,none,rfl,rfl⟩ (fun i σ H2 _ ⟨_,_,_,e⟩=>by subst e;exact .of hl1) ?_ ?_⟩
   ·rintro i y σ H2 hy ⟨v3,v4,rfl,rfl⟩
    obtain⟨t,ht,q,rfl,hq⟩:=aD_ tz hy
    refine⟨q,_,rfl,.of (hpT hq),rfl,_,_,rfl,_,_,rfl,rfl,?_⟩
    refine⟨_,rfl,p,dx,_,rfl,h1,hno,_,rfl,_,rfl,p,_,_,some t.1,some t.2,hs,ts,_,rfl,W1,G.nnd,rfl,rfl,_,rfl,?_⟩
    rw[ho_ G Wo (List.mem_of_getElem? ht)]
    refine iteF ?_
    exact⟨_,_,rfl,rfl⟩
   ·rintro σ H2 ⟨v3,v4,rfl,rfl⟩
    exact⟨_,rfl,k (.ref l') _ s1 ⟨l',zs,rfl,hl1,tz⟩ (fun c z=>by cases z;exact hf)⟩
def nrm(p:Pc):Pc:=(p.1,p.2.1,p.2.2.map tsOf)
def PcNew(K:PySem.W.Frag)(H0 H:Hp)(y:V)(p:Pc):Prop:=∃t v,y=.ref t/\H t=some (.tup [.str p.1,.int p.2.1,v])/\WyAt K H v p.2.2/\∀a,v=.ref a->H0 a=none
theorem PcNew.same{K:PySem.W.Frag}{H0 H H':Hp}{y:V}{p:Pc}(h:PcNew K H0 H y p)(s:Same H H'):PcNew K H0 H' y p:=by
 obtain⟨t,v,e,ht,hv,hn⟩:=h
 exact⟨t,v,e,s _ _ ht,hv.same s,hn⟩
theorem WyAt.up{K:PySem.W.Frag}{H:Hp}{D:Addr}{u:HO}{v:V}{o:Option (List (Str × Str))}(h:WyAt K H v o)(n1:∀xs,H D≠some (.lst xs))(n2:∀xs,H D≠some (.tup xs)):WyAt K (upd H D u) v o:=by
 cases o with
 |none=>exact h
 |some ws=>
  obtain⟨a,ys,e,ha,t⟩:=h
  exact⟨a,ys,e,by rw[a7_ (fun z:a=D=>n1 ys (z▸ha))];exact ha,Paired.mapP t fun y k ⟨b,z,q⟩=>⟨b,z,by rw[a7_ (fun z:b=D=>n2 _ (z▸q))];exact q⟩⟩
theorem PcNew.up{K:PySem.W.Frag}{H0 H:Hp}{D:Addr}{u:HO}{y:V}{p:Pc}(h:PcNew K H0 H y p)(n1:∀xs,H D≠some (.lst xs))(n2:∀xs,H D≠some (.tup xs)):PcNew K H0 (upd H D u) y p:=by
 obtain⟨t,v,e,ht,hv,hn⟩:=h
 exact⟨t,v,e,by rw[a7_ (fun z:t=D=>n2 _ (z▸ht))];exact ht,hv.up n1 n2,hn⟩
theorem ds_{ps:List Pc}{cs:List V}(nd:(ps.map (·.1)).Nodup)(hl:cs.length=ps.length):∀{j:Nat} {q:Pc} {c:V},ps[j]? = some q->cs[j]? = some c->valV ((ps.zip cs).map fun q=>((Sum.inr q.1.1:Key),q.2)) (Sum.inr q.1)=some c:=by
 induction ps generalizing cs with
 |nil=>
  intro j q c h
  simp at h
 |cons p ps ih=>
  intro j q c h1 h2
  cases cs with
  |nil=>cases hl
  |cons b cs=>
   rw[List.map_cons] at nd
   obtain⟨n1,n2⟩:=List.nodup_cons.mp nd
   cases j with
   |zero=>
    have e1:p=q:=by simpa using h1
    have e2:b=c:=by simpa using h2
    subst e1 e2
    exact bi_ rfl
   |succ j=>
    have h1:ps[j]? = some q:=by simpa using h1
    have h2:cs[j]? = some c:=by simpa using h2
    show valV ((Sum.inr p.1,b)::((ps.zip cs).map fun q=>((Sum.inr q.1.1:Key),q.2))) (Sum.inr q.1)=_
    rw[bn_ fun e=>n1 (by rw[show p.1=q.1 from Sum.inr.inj e];exact List.mem_map.mpr ⟨q,List.mem_of_getElem? h1,rfl⟩)]
    exact ih n2 (by simpa using hl) h1 h2
theorem scCPiece:FnScope ["web","piece"] ["web","piece"] (defScope sCPiece):=⟨rfl,rfl,rfl,by decide +kernel,rfl,by decide +kernel,by decide +kernel⟩
def spCPiece(K:PySem.W.Frag)(C:Addr):Sp:=fun vs H Q _=>∃(p:Addr) (y:V) (q:Pc) (hs:List (Str × Int)) (ts:List (Str × Str)) (fp:List Addr),vs=[.ref p,y]/\WebAt K C H p hs ts fp/\Good hs ts/\PcAt K H y q/\GoodP ts q /\
 ∀y' H',Same H H'->PcNew K H H' y' (nrm q)->Q y' H'
theorem gP_{f C:Addr}{fd:FuncData}(F:Fun K "checked_piece" "checked_piece" sCPiece f fd)(B:Bi mg)(cN:Cal P w K mg base 1 "is_name" ["thing"] spName)(cW:Cal P w K mg base 2 "is_whole_within" ["thing","least","most"] spWhole)(cC:Cal P w K mg base 4 "checked_ways" ["web","ways"] (spCWays K C)){tk:Tok}(mW:mg "MOST_WEIGHT"=some (.int 1000000000 tk)) :
  FnOk P w K mg base CX0 5 f fd ["web","piece"] (spCPiece K C):=by
 refine F.ok scCPiece (fun vs H Q E h=>?_) (fun cdv A outer s H vs Q E hr h=>?_)
 ·obtain⟨p,y,q,hs,ts,fp,rfl,_⟩:=h
  rfl
 ·obtain⟨p,y,q,hs,ts,fp,rfl,W,G,⟨t,v,rfl,ht,wy⟩,gp,k⟩:=h
  have hr1:Room 1 _:=hr.mono (by decide)
  have hr2:Room 2 _:=hr.mono (by decide)
  refine⟨_,a3_ (ax_ (cW_ (aC_ (aH_ (ac_ aK_ (by rfl) B.isi PyProof.Rows.Boot.«isinstance» (a0_ (pv 1) (a0_ (aT_ (v:=.ty "tuple") (by rfl) B.tuple PyProof.Rows.Boot.«tuple» rfl) a2_)))))
    (bD_ (ap_ cV_ (ac_ an_ (by rfl) B.len PySem.boot_len (a0_ (pv 1) a2_)) a6_ (nomark _)))).pt ae_ af_)
   (a3_ (ax_ (aC_ (aH_ (a9_ cN hr1 (a0_ (aA_ aG_ (pv 1) a6_ (fun _ _=>rfl)) a2_)))) ae_ af_)
   (a3_ (ax_ (aC_ (aH_ (a9_ cW hr2 (a0_ (aA_ aG_ (pv 1) a6_ (fun _ _=>rfl)) (a0_ a6_ (a0_ (cs_ (v:=.int 1000000000) (by rfl) mW ⟨tk,rfl⟩) a2_)))))) ae_ af_)
   (a5_ (ad_ (aO_ (a0_ (aA_ aG_ (pv 1) a6_ (fun _ _=>rfl)) (a0_ (aA_ aG_ (pv 1) a6_ (fun _ _=>rfl)) (a0_ (a9_ cC hr (a0_ (pv 0) (a0_ (aA_ aG_ (pv 1) a6_ (fun _ _=>rfl)) a2_))) a2_)))))))),?_⟩
  refine⟨_,rfl,_,_,_,_,rfl,.tup ht,rfl,_,rfl,iteF ?_⟩
  refine⟨_,rfl,t,_,rfl,.inr (.of ht),rfl,_,rfl,?_⟩
  refine iteNS (show V.int ((3:Nat):Int)=V.int 3 from rfl) ?_
  refine⟨_,rfl,t,_,_,_,rfl,rfl,.of ht,rfl,q.1,rfl,by have:=bT_ gp.nm;omega,fun H1 s1=>⟨_,rfl,?_⟩⟩
  rw[gp.nm]
  refine iteF ?_
  have ht1:=s1 _ _ ht
  refine⟨_,rfl,t,_,_,_,rfl,rfl,.of ht1,rfl,q.2.1,1,1000000000,rfl,_,rfl,?_⟩
  rw[decide_eq_true gp.w1,decide_eq_true gp.w2]
  refine iteF ?_
  refine⟨_,rfl,t,_,_,_,rfl,rfl,.of ht1,rfl,_,rfl,t,_,_,_,rfl,rfl,.of ht1,rfl,_,rfl,_,rfl,t,_,_,_,rfl,rfl,.of ht1,rfl,p,v,q.2.2,hs,ts,fp,rfl,W.same s1,G,wy.same s1,gp.ws,fun v' H2 s2 wy2 hf=>?_⟩
  refine⟨by show 3<=sizeLine;decide,fun t' ht'=>?_⟩
  exact k (.ref t') _ (s1.trans (s2.trans (Same.new ht'))) ⟨t',v',rfl,a1_,wy2.same (Same.new ht'),fun a z=>s1.free (hf a z)⟩
theorem scCPieces:FnScope ["web","pieces","found","piece","checked"] ["web","pieces"] (defScope sCPieces):=⟨rfl,rfl,rfl,by decide +kernel,rfl,by decide +kernel,by decide +kernel⟩
structure Qs (ps qs:List Pc):Prop where
 nms:qs.map (·.1)=sortS (ps.map (·.1))
 mem:∀q∈qs,∃p∈ps,q=nrm p
def spCPieces(K:PySem.W.Frag)(C:Addr):Sp:=fun vs H Q _=>∃(p l:Addr) (ys:List V) (ps:List Pc) (hs:List (Str × Int)) (ts:List (Str × Str)) (fp:List Addr),vs=[.ref p,.ref l]/\WebAt K C H p hs ts fp/\Good hs ts/\H l=some (.lst ys)/\PcsAt K H ys ps/\(∀q∈ps,GoodP ts q)/\(ps.map (·.1)).Nodup/\ps.length<64 /\
 ∀l' zs qs H',Same H H'->H' l'=some (.lst zs)->Paired (PcNew K H H') zs qs->Qs ps qs->Q (.ref l') H'
theorem fq_{f C:Addr}{fd:FuncData}(F:Fun K "checked_pieces" "checked_pieces" sCPieces f fd)(B:Bi mg)(cP:Cal P w K mg base 5 "checked_piece" ["web","piece"] (spCPiece K C)):FnOk P w K mg base CX0 6 f fd ["web","pieces"] (spCPieces K C):=by
 refine F.ok scCPieces (fun vs H Q E h=>?_) (fun cdv A outer s H vs Q E hr h=>?_)
 ·obtain⟨p,l,ys,ps,hs,ts,fp,rfl,_⟩:=h
  rfl
 ·obtain⟨p,l,ys,ps,hs,ts,fp,rfl,W,G,hl,pc,gp,nd,h64,k⟩:=h
  have hu:=b1_ hr
  have sz:=sizeLine_eq
  have le:=Paired.length pc
  refine⟨_,a3_ (ax_ (aC_ (aH_ (ac_ aK_ (by rfl) B.isi PyProof.Rows.Boot.«isinstance» (a0_ (pv 1) (a0_ (aT_ (v:=.ty "list") (by rfl) B.list PyProof.Rows.Boot.«list» rfl) a2_))))) ae_ af_)
   (a3_ (ab_ (i:=2) scCPieces.nd rfl (Or.inr rfl) bA_)
   (a3_ (aM_ PassesOwn.never rfl (aj_ (pv 1)) (a8_ (i:=3) scCPieces.nd rfl (Or.inl rfl))
    (a3_ (ab_ (i:=4) scCPieces.nd rfl (Or.inl rfl) (a9_ cP hr (a0_ (pv 0) (a0_ (pv 3) a2_))))
    (a3_ (ax_ (bC_ (d5_ hu (aA_ aG_ (pv 4) a6_ (fun _ _=>rfl)) (pv 2))) ae_ af_)
    (a5_ (bt_ hu (pv 2) (aA_ aG_ (pv 4) a6_ (fun _ _=>rfl)) (pv 4) rfl)))))
   (a5_ (ad_ (aI_ ["name","found"] 1 [2] (aj_ (ac_ (eA_ rfl) (by rfl) B.sorted PyProof.Rows.Boot.«sorted» (a0_ (pv 2) a2_))) (fun fp s H=>a8_ (i:=0) (show (["name","found"]:List Str).Nodup by decide +kernel) rfl (Or.inl rfl)) (fun fp s H=>au_)
    (fun fp s H=>aJ_ hu (pv 1) (pv 0) (fun _ _=>rfl))))))),?_⟩
  refine⟨_,rfl,_,_,_,_,rfl,.lst hl,rfl,_,rfl,iteF ?_⟩
  intro d hd
  have s0:Same H (upd H d (.dK [])):=Same.new hd
  refine⟨_,rfl,l,rfl,⟨_,.of (s0 _ _ hl)⟩,aR_ (K:=K) (a:=l) (xs:=ys) (fun i σ H2=>∃(v3 v4:Option V) (cs:List V),σ=[some (.ref p),some (.ref l),some (.ref d),v3,v4]/\Same H H2/\Paired (PcNew K H H2) cs ((ps.take i).map nrm)/\H2 d=some (.dK (((ps.take i).zip cs).map fun q=>(Sum.inr q.1.1,q.2)))) ⟨none,none,[],rfl,s0,.nil,a1_⟩ (fun i σ H2 _ ⟨_,_,_,_,s2,_⟩=>.of (s2 _ _ hl)) ?_ ?_⟩
  ·rintro i y σ H2 hy ⟨v3,v4,cs,rfl,s2,pn,hd2⟩
   have hi:i<ys.length:=(List.getElem?_eq_some_iff.mp hy).1
   have hq:ps[i]? = some (ps[i]'(by omega)):=List.getElem?_eq_getElem (by omega)
   have py:=ah_ pc i hi (by omega)
   rw[(List.getElem?_eq_some_iff.mp hy).2] at py
   generalize ps[i]'(by omega)=q at hq py
   refine⟨_,rfl,_,rfl,p,y,q,hs,ts,fp,rfl,W.same s2,G,py.same s2,gp q (List.mem_of_getElem? hq),fun y' H3 s3 pw=>?_⟩
   obtain⟨t,v,rfl,ht,wy,hf⟩:=pw
   have hd3:=s3 _ _ hd2
   have lc:=Paired.length pn
   rw[List.length_map,List.length_take] at lc
   have keys:((((ps.take i).zip cs).map fun q=>((Sum.inr q.1.1:Key),q.2)).map (·.1))=((ps.take i).map (·.1)).map Sum.inr:=by
    rw[List.map_map]
    have:((fun x:Key × V=>x.1) ∘ fun q:Pc × V=>((Sum.inr q.1.1:Key),q.2))=(fun p:Pc=>(Sum.inr p.1:Key)) ∘ Prod.fst:=rfl
    rw[this,<- List.map_map,List.map_fst_zip (by rw[List.length_take];omega),List.map_map]
    rfl
   have nov:valV (((ps.take i).zip cs).map fun q=>((Sum.inr q.1.1:Key),q.2)) (Sum.inr q.1)=none:=aE_ (by
    rw[keys]
    intro m
    obtain⟨x,hx,e⟩:=List.mem_map.mp m
    cases e
    exact bc_ (g:=fun p:Pc=>p.1) nd hq hx)
   refine⟨_,rfl,t,_,_,_,rfl,rfl,.of ht,rfl,_,rfl,d,_,rfl,.k (k:=Sum.inr q.1) hd3,_,rfl,?_⟩
   rw[nov]
   refine iteF ?_
   refine⟨_,rfl,_,rfl,_,rfl,t,_,_,_,rfl,rfl,.of ht,rfl,d,_,rfl,.k (k:=Sum.inr q.1) hd3 (by rw[List.length_map,List.length_zip,List.length_take];omega),?_⟩
   have s23:=s2.trans s3
   have n1:∀xs,H3 d≠some (.lst xs):=fun xs z=>by rw[hd3] at z;cases z
   have n2:∀xs,H3 d≠some (.tup xs):=fun xs z=>by rw[hd3] at z;cases z
   refine⟨_,_,cs++[.ref t],rfl,fun c o e=>?_,?_,?_⟩
   ·rw[a7_ (a4_ e hd)]
    exact s23 _ _ e
   ·rw[List.take_add_one,hq,List.map_append]
    exact as_ (Paired.mapP pn fun y q h=>(h.same s3).up n1 n2) (.cons (PcNew.up ⟨t,v,rfl,ht,wy,fun a z=>s2.free (hf a z)⟩ n1 n2) .nil)
   ·rw[a1_,bB_ _ nov,List.take_add_one,hq,List.zip_append (by rw[List.length_take];omega),List.map_append]
    rfl
  ·rintro σ H2 ⟨v3,v4,cs,rfl,s2,pn,hd2⟩
   rw[le,List.take_length] at pn hd2
   have lc:=Paired.length pn
   rw[List.length_map] at lc
   have keys:(((ps.zip cs).map fun q=>((Sum.inr q.1.1:Key),q.2)).map (·.1))=(ps.map (·.1)).map Sum.inr:=by
    rw[List.map_map]
    have:((fun x:Key × V=>x.1) ∘ fun q:Pc × V=>((Sum.inr q.1.1:Key),q.2))=(fun p:Pc=>(Sum.inr p.1:Key)) ∘ Prod.fst:=rfl
    rw[this,<- List.map_map,List.map_fst_zip (by omega),List.map_map]
    rfl
   refine⟨_,rfl,d,_,ps.map (·.1),rfl,hd2,keys,by rw[List.length_map];exact h64,fun ls hls=>?_⟩
   have s3:=Same.new (o:=.lst ((sortS (ps.map (·.1))).map V.str)) hls
   have hl3:upd H2 ls (.lst ((sortS (ps.map (·.1))).map V.str)) ls=some (.lst ((sortS (ps.map (·.1))).map V.str)):=a1_
   refine⟨ls,rfl,⟨_,.of hl3⟩,fun D hD=>?_⟩
   generalize upd H2 ls (.lst ((sortS (ps.map (·.1))).map V.str))=H3 at s3 hl3 hD ⊢
   have lss:(sortS (ps.map (·.1))).length=ps.length:=by rw[(ar_ _).length_eq,List.length_map]
   refine aq_ (own:=1) (fv:=[some (.ref d)]) (xs:=(sortS (ps.map (·.1))).map V.str) rfl gok1 (fun i out H'=>∃qs:List Pc,Same H3 H'/\H' D=some (.lst out)/\Paired (PcNew K H H2) out qs/\qs.map (·.1)=(sortS (ps.map (·.1))).take i/\∀q∈qs,∃p∈ps,q=nrm p) ⟨[],Same.new hD,a1_,.nil,rfl,by simp⟩ (fun i out H' _ ⟨_,sm,_⟩=>.of (sm _ _ hl3)) (fun zs H4 ⟨qs,s4,hD4,pq,en,mem⟩=>?_) (fun i x out H' hx ⟨qs,sm,hD',pq,en,mem⟩=>?_)
   ·rw[List.length_map,List.take_length] at en
    exact k D zs qs H4 (s2.trans (s3.trans s4)) hD4 (Paired.mapP pq fun y q h=>h.same (s3.trans s4)) ⟨en,mem⟩
   ·obtain⟨n,hn,rfl⟩:=av_ hx
    have hm:n∈ps.map (·.1):=(ar_ _).mem_iff.mp (List.mem_of_getElem? hn)
    obtain⟨q,hq,eq⟩:=List.mem_map.mp hm
    obtain⟨j,hj,ej⟩:=List.getElem_of_mem hq
    have hqj:ps[j]? = some q:=by rw[List.getElem?_eq_getElem hj,ej]
    have hcj:cs[j]? = some (cs[j]'(by omega)):=List.getElem?_eq_getElem (by omega)
    have hv:=ds_ nd lc hqj hcj
    have pj:=ah_ pn j (by omega) (by rw[List.length_map];omega)
    rw[List.getElem_map,ej] at pj
    generalize cs[j]'(by omega)=c at hcj hv pj
    rw[eq] at hv
    have lo:=Paired.length pq
    have lq:=congrArg List.length en
    rw[List.length_map,List.length_take] at lq
    have hi:i<(sortS (ps.map (·.1))).length:=(List.getElem?_eq_some_iff.mp hn).1
    refine⟨_,rfl,rfl,fun Nx hN=>yesT ?_⟩
    refine⟨_,rfl,_,rfl,d,c,rfl,?_,out,hD',by omega,hN _ _ ⟨qs++[nrm q],al_ sm hD,a1_,?_,?_,?_⟩⟩
    ·rw[<- hv]
     exact .k (k:=Sum.inr n) (sm _ _ (s3 _ _ hd2))
    ·exact as_ pq (.cons pj .nil)
    ·rw[List.map_append,en,List.take_add_one,hn,<- eq]
     rfl
    ·intro q' hq'
     rcases List.mem_append.mp hq' with hq'|hq'
     ·exact mem q' hq'
     ·obtain rfl:q'=nrm q:=by simpa using hq'
      exact⟨q,hq,rfl⟩
end
end Ev
set_option Elab.async false
set_option linter.all false
set_option maxRecDepth 100000
namespace Ev
open PySem L2
abbrev sGInit:Stmt:=inClass sGoods 0
abbrev sGHas:Stmt:=inClass sGoods 1
abbrev sGNames:Stmt:=inClass sGoods 2
abbrev sGWeight:Stmt:=inClass sGoods 3
abbrev sGWays:Stmt:=inClass sGoods 4
abbrev sGFree:Stmt:=inClass sGoods 6
def gflds(p dw dy:Addr):List (Str × V):=putF "ways_by_name" (.ref dy) (putF "weight_by_name" (.ref dw) (putF "web" (.ref p) []))
theorem g12:¬(("web":Str)="weight_by_name"):=by decide +kernel
theorem g13:¬(("web":Str)="ways_by_name"):=by decide +kernel
theorem g23:¬(("weight_by_name":Str)="ways_by_name"):=by decide +kernel
theorem bm_(p dw dy:Addr):(gflds p dw dy).lookup ("web":Str)=some (.ref p):=by
 unfold gflds
 rw[ag_,if_neg g13,ag_,if_neg g12,ag_,if_pos rfl]
theorem et_(p dw dy:Addr):(gflds p dw dy).lookup ("weight_by_name":Str)=some (.ref dw):=by
 unfold gflds
 rw[ag_,if_neg g23,ag_,if_pos rfl]
theorem gD_(p dw dy:Addr):(gflds p dw dy).lookup ("ways_by_name":Str)=some (.ref dy):=by
 unfold gflds
 rw[ag_,if_pos rfl]
theorem be_(p dw dy:Addr){m:Str}(h1:¬m="web")(h2:¬m="weight_by_name")(h3:¬m="ways_by_name"):(gflds p dw dy).lookup m=none:=by
 unfold gflds
 rw[ag_,if_neg h3,ag_,if_neg h2,ag_,if_neg h1]
 all_goals rfl
def wKV(qs:List Pc):List (Key × V):=qs.map fun q=>(Sum.inr q.1,V.int q.2.1)
def yKV(qs:List Pc)(vs:List V):List (Key × V):=(qs.zip vs).map fun x=>(Sum.inr x.1.1,x.2)
theorem fm_(qs:List Pc):(wKV qs).map (·.1)=(qs.map (·.1)).map Sum.inr:=by
 unfold wKV
 rw[List.map_map,List.map_map]
 rfl
theorem hs_{qs:List Pc}{vs:List V}(h:vs.length=qs.length):(yKV qs vs).map (·.1)=(qs.map (·.1)).map Sum.inr:=by
 unfold yKV
 rw[List.map_map]
 have:((fun x:Key × V=>x.1) ∘ fun q:Pc × V=>((Sum.inr q.1.1:Key),q.2))=(fun p:Pc=>(Sum.inr p.1:Key)) ∘ Prod.fst:=rfl
 rw[this,<- List.map_map,List.map_fst_zip (by omega),List.map_map]
 rfl
structure GoodsAt (K:PySem.W.Frag) (CG CW:Addr) (H:Hp) (g p:Addr) (hs:List (Str × Int)) (ts:List (Str × Str)) (qs:List Pc) (fp:List Addr):Prop where
 ex:∃(dx dw dy:Addr) (vs:List V) (fpw:List Addr),H g=some (.ins CG dx (gflds p dw dy))/\WebAt K CW H p hs ts fpw/\H dw=some (.dK (wKV qs))/\H dy=some (.dK (yKV qs vs))/\Paired (fun v (q:Pc)=>WyAt K H v q.2.2) vs qs /\
  g∈fp/\dw∈fp/\dy∈fp/\(∀b∈fpw,b∈fp)/\∀v∈vs,∀a,v=.ref a->a∈fp
theorem bl_{α β:Type}{F G:α->β->Prop}:∀{l:List α} {m:List β},Paired F l m->(∀a∈l,∀b,F a b->G a b)->Paired G l m
 |_,_,.nil,_=>.nil
 |_,_,.cons h t,f=>.cons (f _ List.mem_cons_self _ h) (bl_ t fun a ha=>f a (List.mem_cons_of_mem _ ha))
theorem WyAt.keep{K:PySem.W.Frag}{H H':Hp}{v:V}{o:Option (List (Str × Str))}(h:WyAt K H v o)(k:∀a,v=.ref a->∀u,H a=some u->H' a=some u)(kt:∀b xs,H b=some (.tup xs)->H' b=some (.tup xs)):WyAt K H' v o:=by
 cases o with
 |none=>exact h
 |some ws=>
  obtain⟨a,ys,e,ha,t⟩:=h
  exact⟨a,ys,e,k a e _ ha,Paired.mapP t fun y q ⟨b,z,hb⟩=>⟨b,z,kt _ _ hb⟩⟩
theorem GoodsAt.keep{K:PySem.W.Frag}{CG CW:Addr}{H H':Hp}{g p:Addr}{hs:List (Str × Int)}{ts:List (Str × Str)}{qs:List Pc}{fp:List Addr}(G:GoodsAt K CG CW H g p hs ts qs fp)(k:∀b∈fp,∀o,H b=some o->H' b=some o)(kt:∀b xs,H b=some (.tup xs)->H' b=some (.tup xs)):GoodsAt K CG CW H' g p hs ts qs fp:=by
 obtain⟨dx,dw,dy,vs,fpw,h1,h2,h3,h4,h5,m1,m2,m3,m4,m5⟩:=G.ex
 exact⟨dx,dw,dy,vs,fpw,k _ m1 _ h1,h2.keep (fun b hb o e=>k b (m4 b hb) o e) kt,k _ m2 _ h3,k _ m3 _ h4,bl_ h5 fun v hv q h=>h.keep (fun a z u e=>k a (m5 v hv a z) u e) kt,m1,m2,m3,m4,m5⟩
theorem GoodsAt.same{K:PySem.W.Frag}{CG CW:Addr}{H H':Hp}{g p:Addr}{hs:List (Str × Int)}{ts:List (Str × Str)}{qs:List Pc}{fp:List Addr}(G:GoodsAt K CG CW H g p hs ts qs fp)(s:Same H H'):GoodsAt K CG CW H' g p hs ts qs fp:=G.keep (fun b _ o e=>s b o e) fun b xs e=>s b _ e
structure TxtG (K:PySem.W.Frag) (CG:Addr):Prop where
 cl:Cls K CG
 nW:NoAttr K CG "web"
 nG:NoAttr K CG "weight_by_name"
 nY:NoAttr K CG "ways_by_name"
structure InsK (K:PySem.W.Frag) (C:Addr):Prop where
 ha:PySem.W.findIn K (.ref C) "__class__"=some (some (.builtin "object.__class__"))
 hn:PySem.W.specialIn K (.builtin "object.__class__") "__get__"=some (some (.builtin "getset_descriptor.__get__"))
 tk:PySem.W.takesIn K (.builtin "object.__class__")=some true
 mo:PySem.W.mroIn K C (.type "object")=some true
theorem ht_(K:PySem.W.Frag)(c:Value):PySem.W.kitOne K c c=some true:=by
 unfold PySem.W.kitOne
 rw[if_pos (beq_self_eq_true c)]
theorem fe_{K:PySem.W.Frag}{H0 H:Hp}:∀{zs:List V} {qs:List Pc},Paired (PcNew K H0 H) zs qs->∃vs:List V,vs.length=qs.length/\Paired (fun z (x:Pc × V)=>∃t,z=.ref t/\H t=some (.tup [.str x.1.1,.int x.1.2.1,x.2])) zs (qs.zip vs)/\Paired (fun v (q:Pc)=>WyAt K H v q.2.2) vs qs/\∀v∈vs,∀a,v=.ref a->H0 a=none
 |_,_,.nil=>⟨[],rfl,.nil,.nil,by simp⟩
 |_,_,.cons ⟨t,v,e,ht,wy,hn⟩ r=>by
  obtain⟨vs,h1,h2,h3,h4⟩:=fe_ r
  refine⟨v::vs,by simp[h1],.cons ⟨t,e,ht⟩ h2,.cons wy h3,fun u hu=>?_⟩
  rcases List.mem_cons.mp hu with rfl|hu
  ·exact hn
  ·exact h4 u hu
theorem eW_{K:PySem.W.Frag}{l D:Addr}{zs:List V}{xs:List (Pc × V)}{H:Hp}{Q:VK}{σ0:St}{j:Nat}(sel:Pc × V->V)(hj:∀x:Pc × V,[some (V.str x.1.1),some (V.int x.1.2.1),some x.2][j]? = some (some (sel x)))(hσ:σ0=[none,none,none])(hl:H l=some (.lst zs))
  (pz:Paired (fun z (x:Pc × V)=>∃t,z=.ref t/\H t=some (.tup [.str x.1.1,.int x.1.2.1,x.2])) zs xs) (h1000:xs.length<=1000) (hD:H D=none)
  (q:∀H' out,Same H H'->H' D=some (.lst out)->PairsAt K H' out (xs.map fun x=>(Sum.inr x.1.1,sel x))->Q (.ref D) H') :
  CompW (Itl K l) (gTup K 3 (gCons (gName 0) (gCons (gName 1) (gCons (gName 2) gNil)))) tYes (tTup (tCons (tVar 0) (tCons (tVar j) tNil))) σ0 D H Q:=by
 have sz:=sizeLine_eq
 have le:=Paired.length pz
 refine aq_ (own:=3) (fv:=[]) (xs:=zs) hσ gok3 (fun i out H'=>Same H H'/\H' D=some (.lst out)/\PairsAt K H' out ((xs.take i).map fun x=>(Sum.inr x.1.1,sel x))) ⟨Same.new hD,a1_,.nil⟩ (fun i out H' _ ⟨sm,_,_⟩=>.of (sm _ _ hl)) (fun out H4 ⟨sm,hD4,eo⟩=>?_) (fun i y out H' hy ⟨sm,hD',eo⟩=>?_)
 ·rw[le,List.take_length] at eo
  exact q _ _ sm hD4 eo
 ·have hi:i<zs.length:=(List.getElem?_eq_some_iff.mp hy).1
  have hx:xs[i]? = some (xs[i]'(by omega)):=List.getElem?_eq_getElem (by omega)
  obtain⟨t,et,ht⟩:=ah_ pz i hi (by omega)
  rw[(List.getElem?_eq_some_iff.mp hy).2] at et
  subst et
  generalize xs[i]'(by omega)=x at hx ht
  have lo:=Paired.length eo
  rw[List.length_map,List.length_take] at lo
  refine⟨_,⟨t,_,_,_,rfl,.of (sm _ _ ht),rfl⟩,rfl,fun Nx hN=>yesT ?_⟩
  refine⟨_,rfl,_,hj x,by show 2<=sizeLine;decide,fun p hp=>?_⟩
  have s2:=Same.new (o:=.tup [.str x.1.1,sel x]) hp
  refine⟨out,s2 _ _ hD',by omega,hN _ _ ⟨al_ (sm.trans s2) hD,a1_,?_⟩⟩
  rw[aQ_ _ hx]
  have pD:∀{b:Addr} {ys:List V},upd H' p (.tup [.str x.1.1,sel x]) b=some (.tup ys)->b≠D:=fun hb=>az_ hb (s2 _ _ hD') (by intro z;cases z)
  refine as_ (Paired.mapP eo fun y kv ⟨b,z,hb⟩=>⟨b,z,by rw[a7_ (pD (s2 _ _ hb))];exact s2 _ _ hb⟩) (.cons ⟨p,rfl,?_⟩ .nil)
  have hp2:upd H' p (.tup [.str x.1.1,sel x]) p=some (.tup [.str x.1.1,sel x]):=a1_
  rw[a7_ (pD hp2)]
  exact hp2
section
variable{P:Program}{w:World}{K:PySem.W.Frag}{mg:Str->Option Value}{base:Heap}
theorem scGInit:FnScope ["self","web","pieces","checked"] ["self","web","pieces"] (defScope sGInit):=⟨rfl,rfl,rfl,by decide +kernel,rfl,by decide +kernel,by decide +kernel⟩
def spGInit(K:PySem.W.Frag)(CG CW:Addr):Sp:=fun vs H Q _=>∃(g dx p l:Addr) (ys:List V) (ps:List Pc) (hs:List (Str × Int)) (ts:List (Str × Str)) (fpw:List Addr),vs=[.ref g,.ref p,.ref l]/\H g=some (.ins CG dx [])/\WebAt K CW H p hs ts fpw/\g∉fpw/\Good hs ts/\H l=some (.lst ys)/\PcsAt K H ys ps/\(∀q∈ps,GoodP ts q)/\(ps.map (·.1)).Nodup/\ps.length<64 /\
 ∀qs fp H',(∀b o,H b=some o->b≠g->H' b=some o)->GoodsAt K CG CW H' g p hs ts qs fp->Qs ps qs->(∀b∈fp,b=g∨b∈fpw∨H b=none)->Q .non H'
theorem hu_{f CG CW:Addr}{fd:FuncData}(F:Fun K "__init__" "Goods.__init__" sGInit f fd)(T:TxtG K CG)(TW:Txt K mg CW)(IW:InsK K CW)(B:Bi mg)(mWeb:mg "Web"=some (.ref CW))(cP:Cal P w K mg base 6 "checked_pieces" ["web","pieces"] (spCPieces K CW)):FnOk P w K mg base CX0 7 f fd ["self","web","pieces"] (spGInit K CG CW):=by
 refine F.ok scGInit (fun vs H Q E h=>?_) (fun cdv A outer s H vs Q E hr h=>?_)
 ·obtain⟨g,dx,p,l,ys,ps,hs,ts,fpw,rfl,_⟩:=h
  rfl
 ·obtain⟨g,dx,p,l,ys,ps,hs,ts,fpw,rfl,hg,W,gw,G,hl,pc,gp,nd,h64,k⟩:=h
  refine⟨_,a3_ (ax_ (aC_ (aH_ (ac_ gE_ (by rfl) B.isi PyProof.Rows.Boot.«isinstance» (a0_ (pv 1) (a0_ (cs_ (v:=.ref CW) (by rfl) mWeb rfl) a2_))))) ae_ af_)
   (a3_ (ab_ (i:=3) scGInit.nd rfl (Or.inl rfl) (a9_ cP hr (a0_ (pv 1) (a0_ (pv 2) a2_))))
   (a3_ (dc_ (pv 0) (pv 1) rfl)
   (a3_ (dc_ (pv 0) (aB_ (aS_ rfl) (by rfl) B.dict PyProof.Rows.Boot.«dict» (a0_ (aI_ ["name","weight","ways"] 3 [] (aj_ (pv 3)) (fun fp s H=>b9_ (n:=3) (aa_ (a8_ (i:=0) (show (["name","weight","ways"]:List Str).Nodup by decide +kernel) rfl (Or.inl rfl)) (aa_ (a8_ (i:=1) (show (["name","weight","ways"]:List Str).Nodup by decide +kernel) rfl (Or.inl rfl)) (aa_ (a8_ (i:=2) (show (["name","weight","ways"]:List Str).Nodup by decide +kernel) rfl (Or.inl rfl)) aF_)))) (fun fp s H=>au_) (fun fp s H=>aO_ (a0_ (pv 0) (a0_ (pv 1) a2_)))) a2_)) rfl)
   (a5_ (dc_ (pv 0) (aB_ (aS_ rfl) (by rfl) B.dict PyProof.Rows.Boot.«dict» (a0_ (aI_ ["name","weight","ways"] 3 [] (aj_ (pv 3)) (fun fp s H=>b9_ (n:=3) (aa_ (a8_ (i:=0) (show (["name","weight","ways"]:List Str).Nodup by decide +kernel) rfl (Or.inl rfl)) (aa_ (a8_ (i:=1) (show (["name","weight","ways"]:List Str).Nodup by decide +kernel) rfl (Or.inl rfl)) (aa_ (a8_ (i:=2) (show (["name","weight","ways"]:List Str).Nodup by decide +kernel) rfl (Or.inl rfl)) aF_)))) (fun fp s H=>au_) (fun fp s H=>aO_ (a0_ (pv 0) (a0_ (pv 2) a2_)))) a2_)) rfl))))),?_⟩
  obtain⟨dxw,d1,l2,d3,zs0,as,ef,w1,_⟩:=id W.ex
  refine⟨_,rfl,_,_,_,_,rfl,.ins w1 TW.cl IW.ha IW.hn IW.tk IW.mo,ht_ _ _,_,rfl,iteF ?_⟩
  refine⟨_,rfl,_,rfl,p,l,ys,ps,hs,ts,fpw,rfl,W,G,hl,pc,gp,nd,h64,fun lc zs qs H1 s1 hlc pn Qq=>?_⟩
  obtain⟨vs,lv,pz,wys,vnew⟩:=fe_ pn
  have hg1:=s1 _ _ hg
  have lq:qs.length=ps.length:=by
   have:=congrArg List.length Qq.nms
   rw[List.length_map,(ar_ _).length_eq,List.length_map] at this
   exact this
  have qnd:(qs.map (·.1)).Nodup:=by
   rw[Qq.nms]
   exact (ar_ _).nodup_iff.mpr nd
  refine⟨_,rfl,_,rfl,g,CG,dx,[],rfl,hg1,T.cl,T.nW,by show 0<1000;decide,?_⟩
  have up1:∀{b o},H1 b=some o->b≠g->upd H1 g (.ins CG dx (putF "web" (.ref p) [])) b=some o:=fun e ne=>by rw[a7_ ne];exact e
  have hg2:upd H1 g (.ins CG dx (putF "web" (.ref p) [])) g=some (.ins CG dx (putF "web" (.ref p) [])):=a1_
  have fr1:∀{b},upd H1 g (.ins CG dx (putF "web" (.ref p) [])) b=none->H1 b=none:=fun {b} e=>by
   by_cases z:b=g
   ·rw[z,a1_] at e;cases e
   ·rw[a7_ z] at e;exact e
  generalize upd H1 g (.ins CG dx (putF "web" (.ref p) []))=H2 at up1 hg2 fr1 ⊢
  have lcg:lc≠g:=az_ hlc hg1 (by intro z;cases z)
  have pz2:Paired (fun z (x:Pc × V)=>∃t,z=.ref t/\H2 t=some (.tup [.str x.1.1,.int x.1.2.1,x.2])) zs (qs.zip vs):=Paired.mapP pz fun z x ⟨t,e,ht⟩=>⟨t,e,up1 ht (az_ ht hg1 (by intro z;cases z))⟩
  have z1000:(qs.zip vs).length<=1000:=by rw[List.length_zip];omega
  refine⟨_,rfl,lc,rfl,⟨_,.of (up1 hlc lcg)⟩,fun D hD=>?_⟩
  refine eW_ (fun x=>.int x.1.2.1) (fun x=>rfl) rfl (up1 hlc lcg) pz2 z1000 hD fun H3 out s3 hD3 pa3=>?_
  refine⟨D,out,_,rfl,hD3,pa3,by rw[List.length_map];exact z1000,fun dw hdw=>?_⟩
  have ekv:((qs.zip vs).map fun x:Pc × V=>((Sum.inr x.1.1:Key),V.int x.1.2.1))=wKV qs:=by
   unfold wKV
   have:(fun x:Pc × V=>((Sum.inr x.1.1:Key),V.int x.1.2.1))=(fun q:Pc=>((Sum.inr q.1:Key),V.int q.2.1)) ∘ Prod.fst:=rfl
   rw[this,<- List.map_map,List.map_fst_zip (by omega)]
  have ndk:(qs.map (·.1)).map (Sum.inr:Str->Key) |>.Nodup:=by
   rw[List.nodup_iff_pairwise_ne,List.pairwise_map]
   exact qnd.imp fun n e=>n (Sum.inr.inj e)
  rw[ekv,b3_ (by rw[fm_];exact ndk)]
  have s4:=Same.new (o:=.dK (wKV qs)) hdw
  have hg4:=s4 _ _ (s3 _ _ hg2)
  refine⟨_,rfl,g,CG,dx,_,rfl,hg4,T.cl,T.nG,by show 1<1000;decide,?_⟩
  have s24:=s3.trans s4
  have hdw4:upd H3 dw (.dK (wKV qs)) dw=some (.dK (wKV qs)):=a1_
  have dwg:dw≠g:=(a4_ (s3 _ _ hg2) hdw).symm
  have fr4:∀{b},upd H3 dw (.dK (wKV qs)) b=none->H2 b=none:=fun e=>s24.free e
  have dwn:H2 dw=none:=s3.free hdw
  generalize upd H3 dw (.dK (wKV qs))=H4 at s4 hg4 s24 hdw4 fr4 ⊢
  have up5:∀{b o},H4 b=some o->b≠g->upd H4 g (.ins CG dx (putF "weight_by_name" (.ref dw) (putF "web" (.ref p) []))) b=some o:=fun e ne=>by rw[a7_ ne];exact e
  have hg5:upd H4 g (.ins CG dx (putF "weight_by_name" (.ref dw) (putF "web" (.ref p) []))) g=some (.ins CG dx (putF "weight_by_name" (.ref dw) (putF "web" (.ref p) []))):=a1_
  have fr5:∀{b},upd H4 g (.ins CG dx (putF "weight_by_name" (.ref dw) (putF "web" (.ref p) []))) b=none->H4 b=none:=fun {b} e=>by
   by_cases z:b=g
   ·rw[z,a1_] at e;cases e
   ·rw[a7_ z] at e;exact e
  generalize upd H4 g (.ins CG dx (putF "weight_by_name" (.ref dw) (putF "web" (.ref p) [])))=H5 at up5 hg5 fr5 ⊢
  have up15:∀{b o},H1 b=some o->b≠g->H5 b=some o:=fun e ne=>up5 (s24 _ _ (up1 e ne)) ne
  have pz5:Paired (fun z (x:Pc × V)=>∃t,z=.ref t/\H5 t=some (.tup [.str x.1.1,.int x.1.2.1,x.2])) zs (qs.zip vs):=Paired.mapP pz fun z x ⟨t,e,ht⟩=>⟨t,e,up15 ht (az_ ht hg1 (by intro z;cases z))⟩
  refine⟨_,rfl,lc,rfl,⟨_,.of (up15 hlc lcg)⟩,fun D2 hD2=>?_⟩
  refine eW_ (fun x=>x.2) (fun x=>rfl) rfl (up15 hlc lcg) pz5 z1000 hD2 fun H6 out2 s6 hD6 pa6=>?_
  refine⟨D2,out2,_,rfl,hD6,pa6,by rw[List.length_map];exact z1000,fun dy hdy=>?_⟩
  rw[show ((qs.zip vs).map fun x:Pc × V=>((Sum.inr x.1.1:Key),x.2))=yKV qs vs from rfl,b3_ (by rw[hs_ lv];exact ndk)]
  have s7:=Same.new (o:=.dK (yKV qs vs)) hdy
  have s57:=s6.trans s7
  have hg7:=s57 _ _ hg5
  refine⟨_,rfl,g,CG,dx,_,rfl,hg7,T.cl,T.nY,by show 2<1000;decide,?_⟩
  have hdy7:upd H6 dy (.dK (yKV qs vs)) dy=some (.dK (yKV qs vs)):=a1_
  have dyg:dy≠g:=(a4_ (s6 _ _ hg5) hdy).symm
  have dyn:H5 dy=none:=s6.free hdy
  generalize upd H6 dy (.dK (yKV qs vs))=H7 at s7 s57 hg7 hdy7 ⊢
  have fin:∀{b o},H1 b=some o->b≠g->upd H7 g (.ins CG dx (gflds p dw dy)) b=some o:=fun e ne=>by
   rw[a7_ ne]
   exact s57 _ _ (up15 e ne)
  have tupf:∀b xs,H1 b=some (.tup xs)->upd H7 g (.ins CG dx (gflds p dw dy)) b=some (.tup xs):=fun b xs e=>fin e (az_ e hg1 (by intro z;cases z))
  have nH:∀{b},H1 b=none->H b=none:=fun e=>s1.free e
  refine k qs (g::dw::dy::(fpw++vs.filterMap fun v=>match v with | .ref a=>some a|_=>none)) _ (fun b o e ne=>fin (s1 _ _ e) ne) ⟨dx,dw,dy,vs,fpw,a1_,?_,?_,?_,?_,by simp,by simp,by simp,fun b hb=>by simp[hb],fun v hv a z=>?_⟩ Qq fun b hb=>?_
  ·exact W.keep (fun b hb o e=>fin (s1 _ _ e) (fun z=>gw (z▸hb))) fun b xs e=>tupf b xs (s1 _ _ e)
  ·rw[a7_ dwg]
   exact s57 _ _ (up5 hdw4 dwg)
  ·rw[a7_ dyg]
   exact hdy7
  ·exact bl_ wys fun v hv q h=>h.keep (fun a z u e=>fin e (fun zz=>by
    subst zz
    have:=vnew v hv _ z
    rw[hg] at this
    cases this)) fun b xs e=>tupf b xs e
  ·refine List.mem_cons_of_mem _ (List.mem_cons_of_mem _ (List.mem_cons_of_mem _ (List.mem_append_right _ (List.mem_filterMap.mpr ⟨v,hv,?_⟩))))
   rw[z]
  ·simp only[List.mem_cons,List.mem_append,List.mem_filterMap] at hb
   rcases hb with rfl|rfl|rfl|hb|⟨v,hv,e⟩
   ·exact .inl rfl
   ·exact .inr (.inr (nH (fr1 dwn)))
   ·exact .inr (.inr (nH (fr1 (s24.free (fr5 dyn)))))
   ·exact .inr (.inl hb)
   ·cases v with
    |ref a=>
     cases e
     exact .inr (.inr (vnew _ hv _ rfl))
    |_=>cases e
end
end Ev
set_option Elab.async false
set_option linter.all false
set_option maxRecDepth 100000
namespace L2
open PySem
theorem pass1{P:Program}{w:World}{X:Cx}:Passes (CX1 P w) X E0:=fun _ _ _ _ _ _ _ h=>by
 obtain⟨_,_,_,_,_,_,_,_,_,_,_,_,z⟩:=h
 exact z.elim
end L2
namespace Ev
open PySem L2
structure CalX (P:Program) (w:World) (K:PySem.W.Frag) (mg:Str->Option Value) (base:Heap) (C:Addr) (k:Nat) (m:Str) (ps:List Str) (sp:Sp):Prop where
 ex:∃f fd,FnOk P w K mg base (CX1 P w) k f fd ps sp/\Meth K C m f/\Binds K fd ps []
theorem jk_{X:Cx}{C:Addr}{k:Nat}{m:Str}{ps:List Str}{sp:Sp}{pos apos:Pos}{o e:Expr}{es:List Expr}{ta:TE}{t:TA}{pl:Sem Bool}(c:CalX X.prog X.w X.K X.mg X.base C k m ps sp)(cl:Cls X.K C)(hr:Room k X.A)(he:PE X o ta)(ha:PA X (e::es) t)
  (hst:starEach (e::es) X.env=(false,eval e X.env)::starEach es X.env:=by rfl) (hpl:(backTo pos (starEach es X.env)).any (·.1)=false:=by rfl)
  (ht:eval (.Call (.Attribute o m apos) (e::es) [] pos) X.env=(do
   let ov <- eval o X.env
   standAt apos.atName
   let (f,first) <- holding [ov] (getMethod ov m pl)
   callWith pos f first (backTo pos (starEach (e::es) X.env)) (backToKw pos (keywordEach [] X.env))):=by rfl) :
  PE X (.Call (.Attribute o m apos) (e::es) [] pos) (tMeth C m sp [] E0 ta t):=by
 obtain⟨f,fd,F,hm,b⟩:=c.ex
 exact gk_ he cl hm F hr b .nil pass1 ha hst hpl ht
theorem ef_{kvs:List (Key × V)}{ns:List Str}(h:kvs.map (·.1)=ns.map Sum.inr)(x:Str):(valV kvs (Sum.inr x)).isSome=decide (x∈ns):=by
 by_cases hx:x∈ns
 ·rw[decide_eq_true hx]
  refine dN_ ?_
  rw[h]
  exact List.mem_map.mpr ⟨x,hx,rfl⟩
 ·rw[decide_eq_false hx,aE_]
  ·rfl
  ·rw[h]
   intro m
   obtain⟨y,hy,e⟩:=List.mem_map.mp m
   cases e
   exact hx hy
theorem jz_{qs:List Pc}(nd:(qs.map (·.1)).Nodup){q:Pc}(hq:q∈qs):valV (wKV qs) (Sum.inr q.1)=some (.int q.2.1):=by
 obtain⟨j,hj,e⟩:=List.getElem_of_mem hq
 have:=ds_ (ps:=qs) (cs:=qs.map fun q=>V.int q.2.1) nd (by rw[List.length_map]) (j:=j) (q:=q) (c:=.int q.2.1) (by rw[List.getElem?_eq_getElem hj,e]) (by rw[List.getElem?_map,List.getElem?_eq_getElem hj,e];rfl)
 have e2:((qs.zip (qs.map fun q=>V.int q.2.1)).map fun q=>((Sum.inr q.1.1:Key),q.2))=wKV qs:=by
  unfold wKV
  rw[List.zip_map_right,List.map_map]
  have:qs.zip qs=qs.map fun q=>(q,q):=by
   clear nd hq this hj e j
   induction qs with
   |nil=>rfl
   |cons a l ih=>rw[List.zip_cons_cons,ih,List.map_cons]
  rw[this,List.map_map]
  rfl
 rwa [e2] at this
theorem jR_{qs:List Pc}{vs:List V}(nd:(qs.map (·.1)).Nodup){K:PySem.W.Frag}{H:Hp}(h:Paired (fun v (q:Pc)=>WyAt K H v q.2.2) vs qs){q:Pc}(hq:q∈qs):∃v∈vs,valV (yKV qs vs) (Sum.inr q.1)=some v/\WyAt K H v q.2.2:=by
 obtain⟨j,hj,e⟩:=List.getElem_of_mem hq
 have hl:=Paired.length h
 have hv:j<vs.length:=by omega
 have p:=ah_ h j hv hj
 rw[e] at p
 exact⟨vs[j],List.getElem_mem hv,ds_ nd (by omega) (by rw[List.getElem?_eq_getElem hj,e]) (List.getElem?_eq_getElem hv),p⟩
section
variable{P:Program}{w:World}{K:PySem.W.Frag}{mg:Str->Option Value}{base:Heap}
theorem scGHas:FnScope ["self","thing"] ["self","thing"] (defScope sGHas):=⟨rfl,rfl,rfl,by decide +kernel,rfl,by decide +kernel,by decide +kernel⟩
def spGHas(K:PySem.W.Frag)(CG CW:Addr):Sp:=fun vs H Q _=>∃(g p:Addr) (v:V) (x:Option Str) (hs:List (Str × Int)) (ts:List (Str × Str)) (qs:List Pc) (fp:List Addr),vs=[.ref g,v]/\GoodsAt K CG CW H g p hs ts qs fp/\StrV K H v x/\Q (.bl (inB (qs.map (·.1)) x)) H
theorem jb_{f CG CW:Addr}{fd:FuncData}(F:Fun K "has_piece" "Goods.has_piece" sGHas f fd)(T:TxtG K CG)(B:Bi mg):FnOk P w K mg base CX0 1 f fd ["self","thing"] (spGHas K CG CW):=by
 refine F.ok scGHas (fun vs H Q E h=>?_) (fun cdv A outer s H vs Q E hr h=>?_)
 ·obtain⟨g,p,v,x,hs,ts,qs,fp,rfl,_⟩:=h
  rfl
 ·obtain⟨g,p,v,x,hs,ts,qs,fp,rfl,G,sv,k⟩:=h
  have hu:=b1_ hr
  obtain⟨dx,dw,dy,vs,fpw,h1,h2,h3,h4,h5,m1,m2,m3,m4,m5⟩:=G.ex
  refine⟨_,a5_ (ad_ (bE_ (ac_ aK_ (by rfl) B.isi PyProof.Rows.Boot.«isinstance» (a0_ (pv 1) (a0_ (aT_ (v:=.ty "str") (by rfl) B.str PyProof.Rows.Boot.«str» rfl) a2_))) (cf_ (eN_ (d5_ hu (pv 1) (aP_ (pv 0) rfl)))))),?_⟩
  cases x with
  |some x=>
   cases (show v=.str x from sv)
   refine⟨_,rfl,_,_,_,_,rfl,.str x,rfl,_,rfl,iteT ?_⟩
   refine⟨_,rfl,_,rfl,g,CG,dx,_,_,rfl,h1,T.cl,T.nG,et_ _ _ _,dw,_,rfl,.k (k:=Sum.inr x) h3,?_⟩
   rw[ef_ (fm_ qs)]
   exact k
  |none=>
   obtain⟨t,ty,e⟩:=sv
   exact⟨_,rfl,_,_,_,_,rfl,ty,e,_,rfl,iteF k⟩
theorem scGNames:FnScope ["self"] ["self"] (defScope sGNames):=⟨rfl,rfl,rfl,by decide +kernel,rfl,by decide +kernel,by decide +kernel⟩
def spGNames(K:PySem.W.Frag)(CG CW:Addr):Sp:=fun vs H Q _=>∃(g p:Addr) (hs:List (Str × Int)) (ts:List (Str × Str)) (qs:List Pc) (fp:List Addr),vs=[.ref g]/\GoodsAt K CG CW H g p hs ts qs fp/\∀l,H l=none->Q (.ref l) (upd H l (.lst ((qs.map (·.1)).map V.str)))
theorem gR_{f CG CW:Addr}{fd:FuncData}(F:Fun K "names" "Goods.names" sGNames f fd)(T:TxtG K CG)(B:Bi mg):FnOk P w K mg base CX0 1 f fd ["self"] (spGNames K CG CW):=by
 refine F.ok scGNames (fun vs H Q E h=>?_) (fun cdv A outer s H vs Q E hr h=>?_)
 ·obtain⟨g,p,hs,ts,qs,fp,rfl,_⟩:=h
  rfl
 ·obtain⟨g,p,hs,ts,qs,fp,rfl,G,k⟩:=h
  obtain⟨dx,dw,dy,vs,fpw,h1,h2,h3,h4,h5,m1,m2,m3,m4,m5⟩:=G.ex
  refine⟨_,a5_ (ad_ (aB_ (c3_ rfl) (by rfl) B.list PyProof.Rows.Boot.«list» (a0_ (aP_ (pv 0) rfl) a2_))),?_⟩
  refine⟨_,rfl,g,CG,dx,_,_,rfl,h1,T.cl,T.nG,et_ _ _ _,dw,_,rfl,.inl h3,fun l hl=>?_⟩
  have e:((wKV qs).map fun kv=>kV kv.1)=(qs.map (·.1)).map V.str:=by
   unfold wKV
   rw[List.map_map,List.map_map]
   rfl
  rw[e]
  exact k l hl
structure Ref (K:PySem.W.Frag) (mg:Str->Option Value) (x:Str) (C:Addr):Prop where
 mg:mg x=some (.ref C)
 ex:PySem.W.excIn K C [.type "ValueError",.type "Exception",.type "BaseException",.type "object"] "ValueError.__new__"=true
theorem scGWeight:FnScope ["self","piece"] ["self","piece"] (defScope sGWeight):=⟨rfl,rfl,rfl,by decide +kernel,rfl,by decide +kernel,by decide +kernel⟩
def spGWeight(K:PySem.W.Frag)(CG CW CP:Addr):Sp:=fun vs H Q E=>∃(g p:Addr) (v:V) (x:Option Str) (hs:List (Str × Int)) (ts:List (Str × Str)) (qs:List Pc) (fp:List Addr),vs=[.ref g,v]/\GoodsAt K CG CW H g p hs ts qs fp/\(qs.map (·.1)).Nodup/\StrV K H v x /\
 ((∃q∈qs,x=some q.1/\Q (.int q.2.1) H)∨(inB (qs.map (·.1)) x=false/\E (.ref CP) none H))
theorem fC_{f CG CW CP:Addr}{fd:FuncData}(F:Fun K "weight" "Goods.weight" sGWeight f fd)(T:TxtG K CG)(R:Ref K mg "NoPiece" CP)(cH:CalM P w K mg base CG 1 "has_piece" ["self","thing"] (spGHas K CG CW)):FnOk P w K mg base (CX1 P w) 2 f fd ["self","piece"] (spGWeight K CG CW CP):=by
 refine F.okX scGWeight (fun vs H Q E h=>?_) (fun cdv A outer s H vs Q E hr h=>?_)
 ·obtain⟨g,p,v,x,hs,ts,qs,fp,rfl,_⟩:=h
  rfl
 ·obtain⟨g,p,v,x,hs,ts,qs,fp,rfl,G,nd,sv,k⟩:=h
  have hu:=b1_ hr
  obtain⟨dx,dw,dy,vs,fpw,h1,h2,h3,h4,h5,m1,m2,m3,m4,m5⟩:=id G.ex
  have hno:(gflds p dw dy).lookup ("has_piece":Str)=none:=be_ _ _ _ (by decide +kernel) (by decide +kernel) (by decide +kernel)
  refine⟨_,a3_ (ax_ (aC_ (aH_ (cl_ cH T.cl hr (pv 0) (a0_ (pv 1) a2_)))) (a5_ (eP_ rfl raises1 R.mg R.ex PySem.F.excBase_ValueError (by rfl) (a0_ cS_ a2_))) af_) (a5_ (ad_ (aJ_ hu (aP_ (pv 0) rfl) (pv 1) (fun _ _=>rfl)))),?_⟩
  refine⟨_,rfl,g,dx,_,rfl,h1,hno,_,rfl,g,p,v,x,hs,ts,qs,fp,rfl,G,sv,_,rfl,?_⟩
  rcases k with⟨q,hq,rfl,k⟩|⟨hb,k⟩
  ·cases (show v=.str q.1 from sv)
   rw[show inB (qs.map (·.1)) (some q.1)=true from decide_eq_true (List.mem_map.mpr ⟨q,hq,rfl⟩)]
   refine iteF ?_
   refine⟨_,rfl,g,CG,dx,_,_,rfl,h1,T.cl,T.nG,et_ _ _ _,_,rfl,dw,_,rfl,?_,k⟩
   rw[<- jz_ nd hq]
   exact .k (k:=Sum.inr q.1) h3
  ·rw[hb]
   exact iteT ⟨by show 1<=sizeLine;decide,k⟩
theorem scGWays:FnScope ["self","piece","ties"] ["self","piece"] (defScope sGWays):=⟨rfl,rfl,rfl,by decide +kernel,rfl,by decide +kernel,by decide +kernel⟩
def spGWays(K:PySem.W.Frag)(CG CW CP:Addr):Sp:=fun vs H Q E=>∃(g p:Addr) (v:V) (x:Option Str) (hs:List (Str × Int)) (ts:List (Str × Str)) (qs:List Pc) (fp:List Addr),vs=[.ref g,v]/\GoodsAt K CG CW H g p hs ts qs fp/\(qs.map (·.1)).Nodup/\StrV K H v x /\
 ((∃q∈qs,x=some q.1/\(∀ws,q.2.2=some ws->ws.length<=1000)/\∀v' H',Same H H'->WyAt K H' v' q.2.2->(∀a,v'=.ref a->H a=none)->Q v' H')∨(inB (qs.map (·.1)) x=false/\E (.ref CP) none H))
theorem hZ_{f CG CW CP:Addr}{fd:FuncData}(F:Fun K "ways" "Goods.ways" sGWays f fd)(T:TxtG K CG)(R:Ref K mg "NoPiece" CP)(cH:CalM P w K mg base CG 1 "has_piece" ["self","thing"] (spGHas K CG CW))(cA:Cal P w K mg base 1 "ties_anew" ["ties"] (spAnew K)):FnOk P w K mg base (CX1 P w) 2 f fd ["self","piece"] (spGWays K CG CW CP):=by
 refine F.okX scGWays (fun vs H Q E h=>?_) (fun cdv A outer s H vs Q E hr h=>?_)
 ·obtain⟨g,p,v,x,hs,ts,qs,fp,rfl,_⟩:=h
  rfl
 ·obtain⟨g,p,v,x,hs,ts,qs,fp,rfl,G,nd,sv,k⟩:=h
  have hu:=b1_ hr
  obtain⟨dx,dw,dy,vs,fpw,h1,h2,h3,h4,h5,m1,m2,m3,m4,m5⟩:=id G.ex
  have hno:(gflds p dw dy).lookup ("has_piece":Str)=none:=be_ _ _ _ (by decide +kernel) (by decide +kernel) (by decide +kernel)
  refine⟨_,a3_ (ax_ (aC_ (aH_ (cl_ cH T.cl hr (pv 0) (a0_ (pv 1) a2_)))) (a5_ (eP_ rfl raises1 R.mg R.ex PySem.F.excBase_ValueError (by rfl) (a0_ cS_ a2_))) af_)
   (a3_ (ab_ (i:=2) scGWays.nd rfl (Or.inl rfl) (aJ_ hu (aP_ (pv 0) rfl) (pv 1) (fun _ _=>rfl)))
   (a5_ (ad_ (fo_ (bC_ (cZ_ (pv 2))) fg_ (a9_ cA hr (a0_ (pv 2) a2_)))))),?_⟩
  refine⟨_,rfl,g,dx,_,rfl,h1,hno,_,rfl,g,p,v,x,hs,ts,qs,fp,rfl,G,sv,_,rfl,?_⟩
  rcases k with⟨q,hq,rfl,h1000,k⟩|⟨hb,k⟩
  ·cases (show v=.str q.1 from sv)
   rw[show inB (qs.map (·.1)) (some q.1)=true from decide_eq_true (List.mem_map.mpr ⟨q,hq,rfl⟩)]
   refine iteF ?_
   obtain⟨u,hu',eu,wy⟩:=jR_ nd h5 hq
   refine⟨_,rfl,g,CG,dx,_,_,rfl,h1,T.cl,T.nY,gD_ _ _ _,_,rfl,dy,u,rfl,?_,?_⟩
   ·rw[<- eu]
    exact .k (k:=Sum.inr q.1) h4
   ·refine⟨_,rfl,_,rfl,?_⟩
    cases e:q.2.2 with
    |none=>
     rw[e] at wy k
     cases (show u=.non from wy)
     exact iteT (k .non H (Same.refl H) rfl (fun a z=>by cases z))
    |some ws=>
     rw[e] at wy k
     obtain⟨a,ys,rfl,ha,tu⟩:=wy
     refine iteF ⟨_,rfl,a,ys,ws,rfl,ha,tu,h1000 ws e,fun l' zs H' sm hf hl' tz=>k (.ref l') H' sm ⟨l',zs,rfl,hl',tz⟩ (fun c z=>by cases z;exact hf)⟩
  ·rw[hb]
   exact iteT ⟨by show 1<=sizeLine;decide,k⟩
theorem scGFree:FnScope ["self"] ["self"] (defScope sGFree):=⟨rfl,rfl,rfl,by decide +kernel,rfl,by decide +kernel,by decide +kernel⟩
def spGFree(K:PySem.W.Frag)(CG CW:Addr):Sp:=fun vs H Q _=>∃(g p:Addr) (hs:List (Str × Int)) (ts:List (Str × Str)) (qs:List Pc) (fp:List Addr),vs=[.ref g]/\GoodsAt K CG CW H g p hs ts qs fp/\qs.length<=1000/\∀H',Same H H'->Q (.bl (qs.all fun q=>q.2.2.isNone)) H'
theorem hg_{f CG CW:Addr}{fd:FuncData}(F:Fun K "are_free" "Goods.are_free" sGFree f fd)(T:TxtG K CG)(B:Bi mg):FnOk P w K mg base CX0 1 f fd ["self"] (spGFree K CG CW):=by
 refine F.ok scGFree (fun vs H Q E h=>?_) (fun cdv A outer s H vs Q E hr h=>?_)
 ·obtain⟨g,p,hs,ts,qs,fp,rfl,_⟩:=h
  rfl
 ·obtain⟨g,p,hs,ts,qs,fp,rfl,G,h1000,k⟩:=h
  have sz:=sizeLine_eq
  obtain⟨dx,dw,dy,vs,fpw,h1,h2,h3,h4,h5,m1,m2,m3,m4,m5⟩:=G.ex
  have lv:=Paired.length h5
  refine⟨_,a5_ (ad_ (ac_ (fc_ rfl) (by rfl) B.all PyProof.Rows.Boot.«all» (a0_ (j8_ (aI_ ["ties"] 1 [] (iB_ (bR_ (aP_ (pv 0) rfl))) (fun fp s H=>a8_ (i:=0) (show (["ties"]:List Str).Nodup by decide +kernel) rfl (Or.inl rfl)) (fun fp s H=>au_)
   (fun fp s H=>eN_ (cZ_ (pv 0))))) a2_))),?_⟩
  refine⟨dy,_,h4,_,rfl,g,CG,dx,_,_,rfl,h1,T.cl,T.nY,gD_ _ _ _,dy,_,rfl,h4,fun v hv=>?_⟩
  have s1:Same H (upd H v (valuesV v dy)):=Same.new hv
  refine⟨v,dy,_,rfl,a1_,s1 _ _ h4,fun o D hD=>?_⟩
  have lk:(yKV qs vs).length=qs.length:=by
   unfold yKV
   rw[List.length_map,List.length_zip]
   omega
  let bs:List Bool:=qs.map fun q=>q.2.2.isNone
  have lb:bs.length=qs.length:=List.length_map _
  refine cz_ (own:=1) (fv:=[]) rfl gok1 qs.length (fun i out H'=>Same (upd (upd H v (valuesV v dy)) dy (.frz o (.dK (yKV qs vs)))) H'/\H' D=some (.lst out)/\out=(bs.take i).map V.bl) ⟨Same.new hD,a1_,rfl⟩ (fun out H' ⟨sm,hD',eo⟩=>?_) (fun i out H' hi ⟨sm,hD',eo⟩=>?_)
  ·have hf:=sm _ _ (show upd (upd H v (valuesV v dy)) dy (.frz o (.dK (yKV qs vs))) dy=some _ from a1_)
   have Dd:D≠dy:=az_ hD' hf (by intro z;cases z)
   rw[<- lb,List.take_length] at eo
   refine⟨⟨hf,by omega⟩,o,hf,D,bs,rfl,.of ?_,?_⟩
   ·rw[a7_ Dd,hD',eo]
   ·have:=k (upd H' dy (.dK (yKV qs vs))) (fun b u e=>by
     by_cases z:b=dy
     ·subst z
      rw[a1_,<- h4]
      exact e
     ·rw[a7_ z]
      exact sm _ _ (by rw[a7_ z];exact s1 _ _ e))
    show Q (.bl (bs.all id)) _
    rwa [show bs.all id=qs.all fun q=>q.2.2.isNone by show (qs.map fun q=>q.2.2.isNone).all id=_;rw[List.all_map];rfl]
  ·have hf:=sm _ _ (show upd (upd H v (valuesV v dy)) dy (.frz o (.dK (yKV qs vs))) dy=some _ from a1_)
   refine⟨⟨hf,by omega⟩,fun x H2 y=>?_⟩
   obtain⟨eH,kk,hk⟩:=y
   subst eH
   have ex:x=vs[i]'(by omega):=by
    unfold yKV at hk
    rw[List.getElem?_map,List.getElem?_eq_getElem (by rw[List.length_zip];omega),List.getElem_zip] at hk
    exact (Prod.mk.inj (Option.some.inj hk)).2.symm
   have wy:=ah_ h5 i (by omega) hi
   rw[<- ex] at wy
   have eb:decide (x=.non)=(qs[i]).2.2.isNone:=by
    cases e:(qs[i]).2.2 with
    |none=>
     rw[e] at wy
     cases (show x=.non from wy)
     rfl
    |some ws=>
     rw[e] at wy
     obtain⟨a,ys,e2,_⟩:=wy
     rw[e2]
     rfl
   refine⟨_,rfl,rfl,fun Nx hN=>yesT ?_⟩
   refine⟨_,rfl,out,hD',?_,?_⟩
   ·rw[eo,List.length_map,List.length_take]
    omega
   ·rw[eb]
    refine hN _ _ ⟨al_ sm hD,a1_,?_⟩
    rw[aQ_ _ (show bs[i]? = some (qs[i]).2.2.isNone by show (qs.map fun q=>q.2.2.isNone)[i]? = _;rw[List.getElem?_map,List.getElem?_eq_getElem hi];rfl),eo]
end
end Ev
set_option Elab.async false
set_option linter.all false
set_option maxRecDepth 100000
namespace L2
open PySem PySem.Spec PyProof.Rows PySem.W
theorem ee_{P:Program}{w:World}{k:Key}{key:Value}(h:(mixKind P w).is k key=true):RelV (kV k) key:=by
 have e2:keyIs k key=true:=h
 rcases ao_ e2 with⟨i,t,rfl,rfl⟩|⟨x,t,rfl,rfl⟩
 ·exact⟨t,rfl⟩
 ·exact⟨t,rfl⟩
def Itm(d:Addr)(o:Obj)(kvs:List (Key × V)):It:=⟨fun i H=>H d=some (.frz o (.dK kvs))/\i<kvs.length,fun i H y H'=>∃t k x,y=.ref t/\H t=none/\kvs[i]? = some (k,x)/\H'=upd H t (.tup [kV k,x]),fun i H=>H d=some (.frz o (.dK kvs))/\kvs.length<=i⟩
theorem fr_{P:Program}{w:World}{K:PySem.W.Frag}{elts:List Expr}{kk:Nat}{pos:Pos}(d it:Addr)(o:Obj)(kvs:List (Key × V)){es:Array DictEntry}{ep:Nat}(ho:o.data=.dict es ep):Turn P w K (.Tuple elts kk pos) (Itm d o kvs) [it] it (fun i h=>∃ok ov,IsItemIter h it d i kvs.length ep ok ov) where
 mem:=by simp
 obj:=fun i h st b hb=>by
  obtain rfl:b=it:=by simpa using hb
  obtain⟨ok,ov,q⟩:=st
  exact⟨_,q,fun v z=>by cases z⟩
 keep:=fun i h h' st k=>by
  obtain⟨ok,ov,q⟩:=st
  exact⟨ok,ov,k it (by simp) _ q⟩
 item:=by
  intro X hP hw hK hc i pins s σ H E I hf st hg
  subst hP hw hK
  obtain⟨hd,hi⟩:=hg
  obtain⟨vs,rel,dat⟩:=b2_ I hd ho
  obtain⟨⟨k,x⟩,hx⟩:∃p,kvs[i]? = some p:=⟨kvs[i],by simp[hi]⟩
  obtain⟨u,hu,ru⟩:=dM_ rel i hx
  obtain⟨ok,ov,st⟩:=st
  have itl:it<s.heap.objs.size:=Heap.lt_size st
  rw[rel.length] at st
  refine wpAny_pyNext_items_item st dat hu fun key h' hk out ht sz kp=>?_
  refine⟨_,rfl,wpAny_letOwnedTupleGo_items (s:={ s with heap:=h' }) out fun h2 st2 sb=>?_⟩
  have nT:s.heap.objs.size≠it:=Nat.ne_of_gt itl
  have I1:Inv X pins σ (upd H s.heap.objs.size (.tup [kV k,x])) { s with heap:=h2 }:=I.turnedN (t':=s.toks) (fp:=[it]) (its:=[key,u]) (fun b o hb q=>(sb.2 b (by simpa using hb)).trans (kp b o (by simpa using hb) q)) hf (Nat.le_refl _) (by show 2<=sizeLine;decide) (.cons (ee_ hk) (.cons ru .nil)) ⟨⟨_,(sb.2 _ nT).trans ht,rfl,_,rfl⟩,_,(sb.2 _ nT).trans ht,rfl⟩
  refine⟨.ref _,_,I1,rfl,⟨_,k,x,rfl,I.hok.fresh (Nat.le_refl _),hx,rfl⟩,⟨_,_,by rw[rel.length];exact st2⟩,fun b hb=>?_⟩
  have e:b=it:=by simpa using hb
  rw[a7_ (fun z=>nT (z.symm.trans e))]
  exact (hf b hb).1
 done:=by
  intro X hP hw hK hc i pins s σ H E I hf st hg
  subst hP hw hK
  obtain⟨hd,hi⟩:=hg
  obtain⟨vs,rel,dat⟩:=b2_ I hd ho
  obtain⟨f0,f1,f2,f3,f4,f5⟩:=hf it (by simp)
  obtain⟨ok,ov,st⟩:=st
  rw[rel.length] at st hi
  exact wpAny_pyNext_items_end (I.ok.hd hc) st dat (by simp;omega) fun h' eb=>⟨rfl,I.turned (t':=s.toks) (fun b o hb e=>eb b o hb e) f0 f1 f3 f4 f5⟩
 self:=fun A i s Q E st h=>by
  obtain⟨ok,ov,q⟩:=st
  exact kcp_self q h
def iItems(tv:TE):TI:=fun σ H R=>tv σ H fun x H1=>∃v d kvs,x=.ref v/\H1 v=some (itemsV v d)/\H1 d=some (.dK kvs)/\∀o,R (Itm d o kvs) (upd H1 d (.frz o (.dK kvs)))
theorem bP_{X:Cx}{elts:List Expr}{kk:Nat}{p2:Pos}{e:Expr}{tv:TE}(he:PE X e tv):PI X (.Tuple elts kk p2) e (iItems tv):=by
 intro pins s σ H R I h
 refine thn (he pins s σ H _ I h) fun u s1 ⟨x,H1,I1,r1,v,d,kvs,ex,hv,hd,q⟩=>?_
 subst ex
 cases r1
 obtain⟨iv,_,_⟩:=I1.hok v _ hv
 obtain⟨o,ho,I2⟩:=I1.freeze hd
 obtain⟨z,_,vs,rel,o',es,ep,ho',c',dt,r⟩:=ej_ I1.hok hd
 rw[ho] at ho'
 cases ho'
 refine wpAny_pyIter_items (knd:=mixKind X.prog X.w) (kvs:=vs) (ep:=ep) iv ⟨o,es,ho,c',dt,r⟩ ?_
 refine⟨s1.heap.objs.size,[s1.heap.objs.size],_,_,_,rfl,I2.kept (t':=s1.toks) fun b o e=>Heap.get?_push_of_some _ e,fr_ d _ o kvs dt,?_,fun b hb=>?_,q o⟩
 ·rw[rel.length]
  exact⟨.none,.none,Heap.get?_push_size _ rfl⟩
 ·obtain rfl:b=s1.heap.objs.size:=by simpa using hb
  exact I2.fpOk (Nat.le_refl _) (I2.hok.fresh (Nat.le_refl _))
theorem bQ_{d:Addr}{o:Obj}{kvs:List (Key × V)}{g:TG}{tb:TS}{D:Ends}{σ:St}{H:Hp}(Pv:Nat->St->Hp->Prop)(h0:Pv 0 σ H)(hl:∀i σ H,i<=kvs.length->Pv i σ H->H d=some (.frz o (.dK kvs)))
  (hs:∀i k x σ H,kvs[i]? = some (k,x)->Pv i σ H->∀t,H t=none->g (.ref t) σ (upd H t (.tup [kV k,x])) fun σ2 H2=>tb { D with nx:=Pv (i+1),ct:=Pv (i+1),bk:=D.nx } σ2 H2) (hd:∀σ H,Pv kvs.length σ H->D.nx σ H) :
  ∃W:Nat->Nat->St->Hp->Prop,(∃m,W 0 m σ H)/\∀i m σ H,W i m σ H->
   ((Itm d o kvs).stop i H/\D.nx σ H)∨((Itm d o kvs).go i H/\∃N:St->Hp->Prop,(∀σ' H',N σ' H'->∃m',m'<m/\W (i+1) m' σ' H')/\∀x H',(Itm d o kvs).yld i H x H'->g x σ H' fun σ2 H2=>tb { D with nx:=N,ct:=N,bk:=D.nx } σ2 H2):=by
 refine⟨fun i m σ H=>m=kvs.length - i/\i<=kvs.length/\Pv i σ H,⟨kvs.length,by simp,Nat.zero_le _,h0⟩,?_⟩
 rintro i m σ H ⟨rfl,hi,p⟩
 have q:=hl i σ H hi p
 by_cases hlt:i<kvs.length
 ·refine .inr ⟨⟨q,hlt⟩,Pv (i+1),fun σ' H' p'=>⟨kvs.length - (i+1),by omega,rfl,hlt,p'⟩,fun x H' y=>?_⟩
  obtain⟨t,k,x,rfl,ht,hx,rfl⟩:=y
  exact hs i k x σ H hx p t ht
 ·have e:i=kvs.length:=by omega
  subst e
  exact .inl ⟨⟨q,Nat.le_refl _⟩,hd σ H p⟩
def Itk(d:Addr)(o:Obj)(kvs:List (Key × V)):It:=⟨fun i H=>H d=some (.frz o (.dK kvs))/\i<kvs.length,fun i H y H'=>H'=H/\∃k x,kvs[i]? = some (k,x)/\y=kV k,fun i H=>H d=some (.frz o (.dK kvs))/\kvs.length<=i⟩
theorem h6_{P:Program}{w:World}{K:PySem.W.Frag}{tg:Expr}(d it:Addr)(o:Obj)(kvs:List (Key × V)){es:Array DictEntry}{ep:Nat}(ho:o.data=.dict es ep):Turn P w K tg (Itk d o kvs) [it] it (fun i h=>h.IsKeyIter it d i kvs.length ep) where
 mem:=by simp
 obj:=fun i h st b hb=>by
  obtain rfl:b=it:=by simpa using hb
  obtain⟨o,e,c,d⟩:=st
  exact⟨o,e,fun v z=>by rw[d] at z;cases z⟩
 keep:=fun i h h' st k=>st.at fun o e=>k it (by simp) o e
 item:=by
  intro X hP hw hK hc i pins s σ H E I hf st hg
  subst hP hw hK
  obtain⟨hd,hi⟩:=hg
  obtain⟨vs,rel,dat⟩:=b2_ I hd ho
  obtain⟨⟨k,x⟩,hx⟩:∃p,kvs[i]? = some p:=⟨kvs[i],by simp[hi]⟩
  obtain⟨u,hu,ru⟩:=dM_ rel i hx
  obtain⟨f0,f1,f2,f3,f4,f5⟩:=hf it (by simp)
  rw[rel.length] at st
  refine wpAny_pyNext_dict_item st dat hu fun key h' hk st' sb=>?_
  have I1:Inv X pins σ H { s with heap:=h' }:=I.turned (t':=s.toks) (fun b o hb e=>(sb.2 b hb).trans e) f0 f1 f3 f4 f5
  obtain⟨o',e,c,dd⟩:=id st'
  refine⟨key,rfl,fK_ (s:={ s with heap:=h' }) e c dd (by decide) ⟨kV k,H,I1,ee_ hk,⟨rfl,k,x,hx,rfl⟩,?_,fun b hb=>(hf b hb).1⟩⟩
  show h'.IsKeyIter it d (i+1) kvs.length ep
  rw[rel.length]
  exact st'
 done:=by
  intro X hP hw hK hc i pins s σ H E I hf st hg
  subst hP hw hK
  obtain⟨hd,hi⟩:=hg
  obtain⟨vs,rel,dat⟩:=b2_ I hd ho
  obtain⟨f0,f1,f2,f3,f4,f5⟩:=hf it (by simp)
  rw[rel.length] at st hi
  exact wpAny_pyNext_dict_end (I.ok.hd hc) st dat (by simp;omega) fun h' eb=>⟨rfl,I.turned (t':=s.toks) (fun b o hb e=>eb b o hb e) f0 f1 f3 f4 f5⟩
 self:=fun _ _ _ _ _ st h=>wpAny_pyIter_keyiter st h
def iKeys(tv:TE):TI:=fun σ H R=>tv σ H fun x H1=>∃d kvs,x=.ref d/\H1 d=some (.dK kvs)/\∀o,R (Itk d o kvs) (upd H1 d (.frz o (.dK kvs)))
theorem ek_{X:Cx}{tg e:Expr}{tv:TE}(he:PE X e tv):PI X tg e (iKeys tv):=by
 intro pins s σ H R I h
 refine thn (he pins s σ H _ I h) fun u s1 ⟨x,H1,I1,r1,d,kvs,ex,hd,q⟩=>?_
 subst ex
 cases r1
 obtain⟨o,ho,I2⟩:=I1.freeze hd
 obtain⟨z,hne,vs,rel,o',es,ep,ho',c',dt,r⟩:=ej_ I1.hok hd
 rw[ho] at ho'
 cases ho'
 refine wpAny_pyIter_dict (knd:=mixKind X.prog X.w) (kvs:=vs) (ep:=ep) hne ⟨o,es,ho,c',dt,r⟩ ?_
 refine⟨s1.heap.objs.size,[s1.heap.objs.size],_,_,_,rfl,I2.kept (t':=s1.toks) fun b o e=>Heap.get?_push_of_some _ e,h6_ d _ o kvs dt,?_,fun b hb=>?_,q o⟩
 ·rw[rel.length]
  exact⟨_,Heap.get?_push_size _ rfl,rfl,rfl⟩
 ·obtain rfl:b=s1.heap.objs.size:=by simpa using hb
  exact I2.fpOk (Nat.le_refl _) (I2.hok.fresh (Nat.le_refl _))
theorem gy_{d:Addr}{o:Obj}{kvs:List (Key × V)}{g:TG}{tc:TT}{te:TE}{own:Nat}{fv:List (Option V)}{dec:V->Hp->List (Option V)->Prop}{D:Addr}{H:Hp}{Q:VK}{σ0:St}(hσ:σ0=List.replicate own none++fv)(G:GOk g own fv dec)(Pv:Nat->List V->Hp->Prop)
  (h0:Pv 0 [] (upd H D (.lst []))) (hl:∀i out H',i<=kvs.length->Pv i out H'->H' d=some (.frz o (.dK kvs))) (hd:∀out H',Pv kvs.length out H'->Q (.ref D) H')
  (hgo:∀i k x out H',kvs[i]? = some (k,x)->Pv i out H'->∃o3,dec (kV k) H' o3/\o3.length=own/\∀Nx:Hp->Prop,(∀out' H2,Pv (i+1) out' H2->Nx H2)->
   tc (o3++fv) H' fun b H4=>if b=true then te (o3++fv) H4 fun y H5=>∃out2,H5 D=some (.lst out2)/\out2.length<sizeLine/\Nx (upd H5 D (.lst (out2++[y]))) else Nx H4) :
  CompW (Itk d o kvs) g tc te σ0 D H Q:=by
 refine cz_ hσ G kvs.length Pv h0 (fun out H' p=>⟨⟨hl _ _ _ (Nat.le_refl _) p,Nat.le_refl _⟩,hd out H' p⟩) fun i out H' hi p=>?_
 have q:=hl i out H' (Nat.le_of_lt hi) p
 refine⟨⟨q,hi⟩,fun x H2 y=>?_⟩
 obtain⟨e,k,v,hx,rfl⟩:=y
 subst e
 exact hgo i k v out _ hx p
def tThawS(t:TS):TS:=fun D σ H=>∃d kvs,H d=some (.dK kvs)/\t { nx:=fun σ1 H1=>∃o,H1 d=some (.frz o (.dK kvs))/\D.nx σ1 (upd H1 d (.dK kvs)),rt:=fun v H1=>∃o,H1 d=some (.frz o (.dK kvs))/\D.rt v (upd H1 d (.dK kvs)) } σ H
theorem dw_{X:Cx}{st:Stmt}{t:TS}(h:PS X st t):PS X st (tThawS t):=by
 intro pins s σ H D I q
 obtain⟨d,kvs,hd,q⟩:=q
 have nf:∀o u,X.H₀ d≠some (.frz o u):=fun o u z=>by
  have:=I.base.frzs _ _ _ z
  rw[hd] at this
  cases this
 refine thn (h pins s σ H _ I q) fun f s' p=>?_
 cases f with
 |next=>
  obtain⟨σ1,H1,I1,o,hf,q1⟩:=p
  exact⟨σ1,_,I1.thaw hf nf,q1⟩
 |brk=>
  obtain⟨σ1,H1,I1,q1⟩:=p
  exact False.elim q1
 |cont=>
  obtain⟨σ1,H1,I1,q1⟩:=p
  exact False.elim q1
 |ret u=>
  obtain⟨v,σ1,H1,I1,r,o,hf,q1⟩:=p
  exact⟨v,σ1,_,I1.thaw hf nf,r,q1⟩
theorem d8_:∀{ns:List Int} {its:List Value},Vals (ns.map V.int) its->∃xs:List (Int × Tok),its.toArray=intItems xs.toArray/\xs.map (·.1)=ns
 |[],_,.nil=>⟨[],by unfold intItems;simp,rfl⟩
 |n::ns,_,.cons ⟨t,e⟩ r=>by
  obtain⟨xs,h1,h2⟩:=d8_ r
  refine⟨(n,t)::xs,?_,by simp[h2]⟩
  subst e
  apply Array.ext'
  have h3:=congrArg Array.toList h1
  unfold intItems at h3 ⊢
  simp at h3 ⊢
  exact h3
theorem cQ_{xs:List (Int × Tok)}:∀n,n<=xs.length->preSum (numAt xs.toArray) n=((xs.map (·.1)).take n).sum
 |0,_=>by simp[preSum]
 |n+1,h=>by
  have ih:=cQ_ (xs:=xs) n (by omega)
  show preSum (numAt xs.toArray) n+numAt xs.toArray n=_
  rw[ih,List.take_add_one,List.sum_append]
  congr 1
  unfold numAt
  rw[List.getElem?_toArray,List.getElem?_map,List.getElem?_eq_getElem (by omega)]
  simp
def rSumI(K:PySem.W.Frag):List V->Hp->VK->Prop:=fun xs H Q=>∃(l:Addr) (ns:List Int),xs=[.ref l]/\SqL K H l (ns.map V.int)/\Q (.int ns.sum) H
theorem e3_{X:Cx}(hc:X.calm=true):CallR X (.builtin "sum") (rSumI X.K):=by
 intro pins s σ H xs us Q I r h
 obtain⟨l,ns,rfl,hl,q⟩:=h
 obtain⟨u,rfl,ru⟩:=vals1 r
 cases ru
 obtain⟨its,rv,p,hz⟩:=I.list hl
 obtain⟨zs,e1,e2⟩:=d8_ rv
 have il:=p.isList
 rw[e1] at il
 refine sum_intListG (I.ok.hd hc) il fun h' tk t' k=>?_
 refine⟨.int ns.sum,H,I.kept (t':=tk) k,⟨t',?_⟩,q⟩
 have:preSum (numAt zs.toArray) zs.toArray.size=ns.sum:=by
  rw[List.size_toArray,cQ_ _ (Nat.le_refl _),<- e2,List.take_of_length_le (by simp)]
 rw[this]
def rListI(K:PySem.W.Frag):List V->Hp->VK->Prop:=fun xs H Q=>∃v d kvs,xs=[.ref v]/\H v=some (itemsV v d)/\Rd H d (.dK kvs)/\∀l ys H',H l=none->Same H H'->H' l=some (.lst ys)->PairsAt K H' ys kvs->Q (.ref l) H'
theorem c2_{X:Cx}(hc:X.calm=true):CallR X (.type "list") (rListI X.K):=by
 intro pins s σ H xs us Q I r h
 obtain⟨v,d,kvs,rfl,hv,hd,q⟩:=h
 obtain⟨u,rfl,ru⟩:=vals1 r
 cases ru
 obtain⟨z,hdn,vs,rel,dd⟩:=bo_ I.hok hd
 obtain⟨ep,dat⟩:=dd.dictAt
 obtain⟨iv,_,_⟩:=I.hok v _ hv
 have hl:=rel.length
 refine kdx_call (knd:=mixKind X.prog X.w) (kvs:=vs) (ep:=ep) (I.ok.hd hc) iv dat (by omega) fun h' tk acc c as k hL la G ea=>?_
 have up:∀b,b∈as->s.heap.objs.size<b:=G.above
 have at1:∀(j:Nat) b p,as[j]? = some b->kvs[j]? = some p->∃its,Vals [kV p.1,p.2] its/\IsTup h' b its.toArray/\∃o,h'.get? b=some o/\o.dict=none:=fun j b p hj hp=>by
  obtain⟨key,kk,x,e1,e2,e3⟩:=G.pairs j b hj
  obtain⟨u,hu,ru⟩:=dM_ rel j (k:=p.1) (x:=p.2) hp
  rw[e1] at hu
  have hu:=Option.some.inj hu
  have g1:kk=p.1:=congrArg Prod.fst hu
  have g2:x=u:=congrArg Prod.snd hu
  refine⟨[key,x],.cons ?_ (.cons (by rw[g2];exact ru) .nil),⟨_,e3,rfl,_,rfl⟩,_,e3,rfl⟩
  rw[<- g1]
  exact ee_ e2
 have look:∀{as:List Addr} {kvs:List (Key × V)},as.Pairwise (· < ·)->∀(j:Nat) b p,as[j]? = some b->kvs[j]? = some p->(as.zip kvs).lookup b=some p:=fun {as}=>by
  induction as with
  |nil=>intro kvs _ j b p e;simp at e
  |cons a as ih=>
   intro kvs pw j b p e e'
   cases kvs with
   |nil=>simp at e'
   |cons q kvs=>
    obtain⟨p1,p2⟩:=List.pairwise_cons.mp pw
    show ((a,q)::as.zip kvs).lookup b=some p
    cases j with
    |zero=>
     have e:a=b:=by simpa using e
     have e':q=p:=by simpa using e'
     subst e
     subst e'
     rw[List.lookup_cons_self]
    |succ j=>
     have e:as[j]? = some b:=by simpa using e
     have e':kvs[j]? = some p:=by simpa using e'
     have lt:=p1 b (List.mem_of_getElem? e)
     rw[List.lookup_cons,show (b == a)=false by simp only[beq_eq_false_iff_ne];exact Nat.ne_of_gt lt]
     exact ih p2 j b p e e'
 have lk:as.length=kvs.length:=by omega
 let lo:=s.heap.objs.size
 let H1:Hp:=fun b=>if b=lo then some (.lst (as.map V.ref)) else if b∈as then ((as.zip kvs).lookup b).map fun p=>HO.tup [kV p.1,p.2] else H b
 have h1lo:H1 lo=some (.lst (as.map V.ref)):=if_pos rfl
 have h1in:∀(j:Nat) b p,as[j]? = some b->kvs[j]? = some p->H1 b=some (.tup [kV p.1,p.2]):=fun j b p e e'=>by
  have m:=List.mem_of_getElem? e
  show (if b=lo then _ else if b∈as then _ else _)=_
  rw[if_neg (Nat.ne_of_gt (up b m)),if_pos m,look G.rise j b p e e']
  rfl
 have h1out:∀b,b<lo->H1 b=H b:=fun b hb=>by
  show (if b=lo then _ else if b∈as then _ else _)=_
  rw[if_neg (Nat.ne_of_lt hb),if_neg (fun m=>absurd (up b m) (by show ¬lo<b;omega))]
 have old:∀{b u},H b=some u->H1 b=some u:=fun {b u} e=>by rw[h1out b (I.hok.lt e)];exact e
 have I1:Inv X pins σ H1 { s with heap:=h',toks:=tk }:=by
  refine I.step (g':=s.gens) (d':=s.drawn) (ch:=[]) (fun b hb=>by simp at hb) (fun b o _ _ _ e _=>k b o e) (fun b o _ _ _ e _=>⟨o.slots,k b o e⟩) (fun b o _ e n=>?_)
   (fun b o _ e=>⟨o,k b o e⟩) (fun b ys e=>old e) (fun b o u e=>old e) (fun b ps e=>⟨#[],by rw[Array.append_empty];exact old e⟩) (fun m hm=>?_) (fun b u e=>?_) I.bare
  ·rw[h1out b (Heap.lt_size e)]
   exact n
  ·obtain⟨o,es,ep,ho,r⟩:=hm
   exact⟨o,es,ep,k _ o ho,r⟩
  ·by_cases e0:b=lo
   ·subst e0
    rw[h1lo] at e
    cases e
    refine⟨by rw[List.length_map];omega,acc.toList,c,?_,by rw[Array.toArray_toList];exact hL⟩
    rw[ea]
    have gen:∀as:List Addr,Vals (as.map V.ref) (as.map Value.ref):=fun as=>by
     induction as with
     |nil=>exact .nil
     |cons a as ih=>exact .cons rfl ih
    exact gen as
   ·by_cases m:b∈as
    ·obtain⟨j,hj⟩:=List.mem_iff_getElem?.mp m
     have jl:j<kvs.length:=by
      have:=(List.getElem?_eq_some_iff.mp hj).1
      omega
     have e':=h1in j b kvs[j] hj (List.getElem?_eq_getElem jl)
     rw[e] at e'
     cases e'
     obtain⟨its,r,t⟩:=at1 j b _ hj (List.getElem?_eq_getElem jl)
     exact⟨by show 2<=sizeLine;decide,its,r,t⟩
    ·have e1:H1 b=H b:=by
      show (if b=lo then _ else if b∈as then _ else _)=_
      rw[if_neg e0,if_neg m]
     rw[e1] at e
     exact (I.hok b u e).stay (fun c v _ q=>k c v q) (fun _ q=>old q) fun _ _ q=>old q
 refine⟨.ref lo,H1,I1,rfl,q lo (as.map V.ref) H1 (I.hok.fresh (Nat.le_refl _)) (fun b o e=>old e) h1lo ?_⟩
 have gen:∀(as':List Addr) (kvs':List (Key × V)),as'.length=kvs'.length->(∀(j:Nat) b p,as'[j]? = some b->kvs'[j]? = some p->H1 b=some (.tup [kV p.1,p.2]))->PairsAt X.K H1 (as'.map V.ref) kvs':=fun as'=>by
  induction as' with
  |nil=>
   intro kvs' hl _
   cases kvs' with
   |nil=>exact .nil
   |cons _ _=>cases hl
  |cons a as' ih=>
   intro kvs' hl h
   cases kvs' with
   |nil=>cases hl
   |cons p kvs'=>exact .cons ⟨a,rfl,h 0 a p rfl rfl⟩ (ih kvs' (by simpa using hl) fun j b p e e'=>h (j+1) b p (by simpa using e) (by simpa using e'))
 exact gen as kvs lk h1in
end L2
set_option Elab.async false
set_option linter.all false
set_option maxRecDepth 100000
namespace Ev
open PySem L2
structure Fz (d:Addr) (o:Obj) (kvs:List (Key × V)) (H H':Hp):Prop where
 at_:H' d=some (.frz o (.dK kvs))
 sm:∀b u,b≠d->H b=some u->H' b=some u
section
variable{d:Addr}{o:Obj}{kvs:List (Key × V)}{H H' H2:Hp}
theorem Fz.start:Fz d o kvs H (upd H d (.frz o (.dK kvs))):=⟨a1_,fun b u ne e=>by rw[a7_ ne];exact e⟩
theorem Fz.step(f:Fz d o kvs H H')(s:Same H' H2):Fz d o kvs H H2:=⟨s _ _ f.at_,fun b u ne e=>s _ _ (f.sm b u ne e)⟩
theorem Fz.thaw(f:Fz d o kvs H H')(hd:H d=some (.dK kvs)):Same H (upd H' d (.dK kvs)):=fun b u e=>by
 by_cases z:b=d
 ·subst z
  rw[hd] at e
  cases e
  exact a1_
 ·rw[a7_ z]
  exact f.sm b u z e
theorem Fz.goods{K:PySem.W.Frag}{CG CW g p:Addr}{hs:List (Str × Int)}{ts:List (Str × Str)}{qs:List Pc}{fp:List Addr}(f:Fz d o kvs H H')(hd:H d=some (.dK kvs))(G:GoodsAt K CG CW H g p hs ts qs fp)(nd:d∉fp):GoodsAt K CG CW H' g p hs ts qs fp:=
 G.keep (fun b hb u e=>f.sm b u (fun z=>nd (z▸hb)) e) fun b xs e=>f.sm b _ (az_ e hd (by intro z;cases z)) e
end
def mKV(ns:List Str)(g:Str->V):List (Key × V):=ns.map fun n=>(Sum.inr n,g n)
theorem cp_(ns:List Str)(g:Str->V):(mKV ns g).map (·.1)=ns.map Sum.inr:=by
 unfold mKV
 rw[List.map_map]
 rfl
theorem aL_(ns:List Str)(g:Str->V):(mKV ns g).length=ns.length:=List.length_map _
theorem bu_{ns:List Str}{g:Str->V}{n:Str}(h:n∈ns):valV (mKV ns g) (Sum.inr n)=some (g n):=by
 induction ns with
 |nil=>cases h
 |cons m ns ih=>
  by_cases e:m=n
  ·subst e
   exact bi_ rfl
  ·have:valV (mKV (m::ns) g) (Sum.inr n)=valV (mKV ns g) (Sum.inr n):=bn_ fun z=>e (Sum.inr.inj z)
   rw[this]
   rcases List.mem_cons.mp h with z|z
   ·exact absurd z.symm e
   ·exact ih z
theorem cR_{ns:List Str}{g k:Str->V}(h:∀n∈ns,g n=k n):mKV ns g=mKV ns k:=List.map_congr_left fun n hn=>by rw[h n hn]
theorem jd_{ns:List Str}{g:Str->V}{n:Str}{v:V}(h:n∈ns):putK (mKV ns g) (Sum.inr n) v=mKV ns fun m=>if m=n then v else g m:=by
 unfold putK
 rw[if_pos]
 ·unfold mKV
  rw[List.map_map]
  refine List.map_congr_left fun m _=>?_
  by_cases e:m=n
  ·subst e
   simp
  ·have:¬((Sum.inr m:Key)=Sum.inr n):=fun z=>e (Sum.inr.inj z)
   simp[e]
 ·refine List.any_eq_true.mpr ⟨(Sum.inr n,g n),List.mem_map.mpr ⟨n,h,rfl⟩,by simp⟩
theorem er_{ns:List Str}{g:Str->V}{n:Str}{v:V}(h:n∉ns):putK (mKV ns g) (Sum.inr n) v=mKV (ns++[n]) fun m=>if m=n then v else g m:=by
 rw[bB_ _ (aE_ (by
  rw[cp_]
  intro m
  obtain⟨x,hx,e⟩:=List.mem_map.mp m
  exact h (Sum.inr.inj e▸hx)))]
 unfold mKV
 rw[List.map_append]
 congr 1
 ·refine List.map_congr_left fun m hm=>?_
  have e:¬m=n:=fun z=>h (z▸hm)
  simp[e]
 ·simp
theorem cd_{ns:List Str}{g:Str->V}{i:Nat}{k:Key}{x:V}(h:(mKV ns g)[i]? = some (k,x)):∃n,ns[i]? = some n/\k=Sum.inr n/\x=g n:=by
 unfold mKV at h
 rw[List.getElem?_map] at h
 cases e:ns[i]? with
 |none=>rw[e] at h;cases h
 |some n=>
  rw[e] at h
  have h:=Option.some.inj h
  exact⟨n,rfl,(congrArg Prod.fst h).symm,(congrArg Prod.snd h).symm⟩
theorem do_{ns:List Str}(nd:ns.Nodup){i:Nat}{n:Str}(h:ns[i]? = some n):n∉ns.take i:=by
 have q:=bc_ (g:=id) (ts:=ns) (by rw[List.map_id];exact nd) h
 rwa [List.map_id] at q
theorem aW_{ns:List Str}{i:Nat}{n:Str}(h:ns[i]? = some n):ns.take (i+1)=ns.take i++[n]:=by
 rw[List.take_add_one,h]
 rfl
abbrev stF(ns:List Str)(f:Str->Str):List (Key × V):=mKV ns fun n=>.str (f n)
def wOf(q:Pc):Str × Int:=(q.1,q.2.1)
def ld(f:Str->Str)(ws:List (Str × Int))(h:Str):Int:=((ws.filter fun x=>decide (f x.1=h)).map (·.2)).sum
theorem iW_(f:Str->Str)(ws:List (Str × Int))(x:Str × Int)(h:Str):ld f (ws++[x]) h=if h=f x.1 then ld f ws h+x.2 else ld f ws h:=by
 unfold ld
 rw[List.filter_append]
 by_cases e:f x.1=h
 ·rw[if_pos e.symm,List.map_append,List.sum_append]
  simp[e]
 ·rw[if_neg fun z=>e z.symm]
  simp[e]
theorem fi_{a b:List Int}(p:a.Perm b):a.sum=b.sum:=by
 induction p with
 |nil=>rfl
 |cons x _ ih=>simp[ih]
 |swap x y l=>simp only[List.sum_cons];omega
 |trans _ _ h1 h2=>exact h1.trans h2
theorem fY_(f:Str->Str){a b:List (Str × Int)}(p:a.Perm b)(h:Str):ld f a h=ld f b h:=fi_ ((p.filter _).map _)
theorem gA_:∀{l:List Int},(∀x∈l,0<=x)->0<=l.sum
 |[],_=>by simp
 |x::l,h=>by
  rw[List.sum_cons]
  have:=h x List.mem_cons_self
  have:=gA_ (l:=l) fun y hy=>h y (List.mem_cons_of_mem _ hy)
  omega
theorem id_{f:Str->Str}{ws:List (Str × Int)}{h:Str}(p:∀x∈ws,0<=x.2):0<=ld f ws h:=gA_ fun x hx=>by
 obtain⟨y,hy,rfl⟩:=List.mem_map.mp hx
 exact p y (List.mem_filter.mp hy).1
theorem Qs.nd{ps qs:List Pc}(Q:Qs ps qs)(nd:(ps.map (·.1)).Nodup):(qs.map (·.1)).Nodup:=by
 rw[Q.nms]
 exact (ar_ _).nodup_iff.mpr nd
theorem Qs.len{ps qs:List Pc}(Q:Qs ps qs):qs.length=ps.length:=by
 have:=congrArg List.length Q.nms
 rw[List.length_map,(ar_ _).length_eq,List.length_map] at this
 exact this
theorem dK_{α:Type}{ps:List (Str × α)}(nd:(ps.map (·.1)).Nodup){a b:Str × α}(ha:a∈ps)(hb:b∈ps)(e:a.1=b.1):a=b:=by
 induction ps with
 |nil=>cases ha
 |cons p ps ih=>
  rw[List.map_cons,List.nodup_cons] at nd
  rcases List.mem_cons.mp ha with za|ha
  ·rcases List.mem_cons.mp hb with zb|hb
   ·rw[za,zb]
   ·rw[za] at e
    exact absurd (show p.1∈ps.map (·.1) from List.mem_map.mpr ⟨b,hb,e.symm⟩) nd.1
  ·rcases List.mem_cons.mp hb with zb|hb
   ·rw[zb] at e
    exact absurd (show p.1∈ps.map (·.1) from List.mem_map.mpr ⟨a,ha,e⟩) nd.1
   ·exact ih nd.2 ha hb
theorem Qs.ws{ps qs:List Pc}(Q:Qs ps qs)(nd:(ps.map (·.1)).Nodup):(qs.map wOf).Perm (ps.map wOf):=by
 have nw:∀{l:List Pc},(l.map (·.1)).Nodup->(l.map wOf).Nodup:=fun {l} h=>by
  have e:(l.map (·.1))=(l.map wOf).map (·.1):=by rw[List.map_map];rfl
  rw[e] at h
  exact (List.pairwise_map.mp h).imp fun n z=>n (by rw[z])
 refine (List.perm_ext_iff_of_nodup (nw (Q.nd nd)) (nw nd)).mpr fun a=>⟨fun h=>?_,fun h=>?_⟩
 ·obtain⟨q,hq,rfl⟩:=List.mem_map.mp h
  obtain⟨p,hp,rfl⟩:=Q.mem q hq
  exact List.mem_map.mpr ⟨p,hp,rfl⟩
 ·obtain⟨p,hp,rfl⟩:=List.mem_map.mp h
  have m:p.1∈qs.map (·.1):=by
   rw[Q.nms]
   exact (ar_ _).mem_iff.mpr (List.mem_map.mpr ⟨p,hp,rfl⟩)
  obtain⟨q,hq,e⟩:=List.mem_map.mp m
  obtain⟨p',hp',e'⟩:=Q.mem q hq
  have:p'=p:=dK_ nd hp' hp (by rw[e'] at e;exact e)
  refine List.mem_map.mpr ⟨q,hq,?_⟩
  rw[e',this]
  rfl
def strOf(hs:List (Str × Int))(n:Str):Int:=((hs.find? fun h=>decide (h.1=n)).map (·.2)).getD 0
theorem b7_{hs:List (Str × Int)}{n:Str}(h:n∈hs.map (·.1)):(n,strOf hs n)∈hs:=by
 unfold strOf
 obtain⟨x,hx,e⟩:=List.mem_map.mp h
 cases q:hs.find? fun h=>decide (h.1=n) with
 |none=>
  have:=List.find?_eq_none.mp q x hx
  simp[e] at this
 |some y=>
  have m:=List.mem_of_find?_eq_some q
  have:=List.find?_some q
  have e2:y.1=n:=by simpa using this
  show (n,y.2)∈hs
  rw[<- e2]
  exact m
theorem f4_{hs:List (Str × Int)}(nd:(hs.map (·.1)).Nodup){n:Str}{s:Int}(h:(n,s)∈hs):strOf hs n=s:=by
 have m:=b7_ (List.mem_map.mpr ⟨_,h,rfl⟩:n∈hs.map (·.1))
 exact congrArg Prod.snd (dK_ nd m h rfl)
def fr(a b:Int):Int × Int:=(a / (Int.gcd a b:Int),b / (Int.gcd a b:Int))
theorem hP_{a b:Int}(ha:0<=a)(h:0<b):Int.gcd b (a % b)=Int.gcd a b:=by
 obtain⟨m,rfl⟩:=Int.eq_ofNat_of_zero_le ha
 obtain⟨n,rfl⟩:=Int.eq_ofNat_of_zero_le (Int.le_of_lt h)
 rw[<- Int.natCast_emod]
 show Nat.gcd n (m % n)=Nat.gcd m n
 rw[Nat.gcd_comm n,<- Nat.gcd_rec,Nat.gcd_comm]
section
variable{P:Program}{w:World}{K:PySem.W.Frag}{mg:Str->Option Value}{base:Heap}
theorem scGd:FnScope ["one","other","rest","divisor","left"] ["one","other"] (defScope sGd):=⟨rfl,rfl,rfl,by decide +kernel,rfl,by decide +kernel,by decide +kernel⟩
def spGd:Sp:=fun vs H Q _=>∃a b:Int,vs=[.int a,.int b]/\0<=a/\0<b/\Q (.int (Int.gcd a b)) H
theorem k1_{f:Addr}{fd:FuncData}(F:Fun K "greatest_divisor" "greatest_divisor" sGd f fd):FnOk P w K mg base CX0 1 f fd ["one","other"] spGd:=by
 refine F.ok scGd (fun vs H Q E h=>?_) (fun cdv A outer s H vs Q E hr h=>?_)
 ·obtain⟨a,b,rfl,_⟩:=h
  rfl
 ·obtain⟨a,b,rfl,ha,hb,k⟩:=h
  refine' ⟨_,a3_ ?s1 (a3_ ?s2 (a3_ ?s3 ?s4)),?kk⟩
  case s1=>exact ab_ (i:=2) scGd.nd rfl (Or.inl rfl) (pv 0)
  case s2=>exact ab_ (i:=3) scGd.nd rfl (Or.inl rfl) (pv 1)
  case s3=>exact hi_ PassesOwn.never (ap_ cV_ (pv 2) a6_ (nomark _)) (a3_ (ab_ (i:=4) scGd.nd rfl (Or.inl rfl) (ai_ bG_ (pv 3) (pv 2))) (a3_ (ab_ (i:=3) scGd.nd rfl (Or.inl rfl) (pv 2)) (a5_ (ab_ (i:=2) scGd.nd rfl (Or.inl rfl) (pv 4)))))
  case s4=>exact a5_ (ad_ (pv 3))
  case' kk=>skip
  refine⟨_,rfl,_,rfl,?_⟩
  refine hf_ (fun σ H'=>H'=H/\∃(r d:Int) (v4:Option V),σ=[some (.int a),some (.int b),some (.int r),some (.int d),v4]/\0<=r/\0<d/\Int.gcd r d=Int.gcd a b) (fun σ _=>match σ with | [_,_,some (.int r),_,_]=>r.toNat|_=>0) ⟨rfl,a,b,none,rfl,ha,hb,rfl⟩ ?_ ?_
  ·rintro σ H' ⟨rfl,r,d,v4,rfl,hr0,hd,e⟩
   refine⟨_,rfl,rfl,_,rfl,?_⟩
   refine ite2 (fun c=>?_) (fun c=>?_)
   ·have hr1:0<r:=by
     have:r≠0:=by
      intro z
      subst z
      simp at c
     omega
    refine⟨_,rfl,_,rfl,_,_,rfl,rfl,hr1,_,rfl,_,rfl,?_⟩
    have h1:=Int.emod_nonneg d (Int.ne_of_gt hr1)
    have h2:=Int.emod_lt_of_pos d hr1
    refine⟨⟨rfl,_,_,_,rfl,h1,hr1,?_⟩,?_⟩
    ·rw[<- e,Int.gcd_comm (d % r) r,hP_ (Int.le_of_lt hd) hr1,Int.gcd_comm]
    ·show (d % r).toNat<r.toNat
     omega
   ·have hr1:r=0:=by simpa using c
    subst hr1
    refine⟨_,rfl,?_⟩
    have e2:(Int.gcd a b:Int)=d:=by
     rw[<- e,Int.gcd_zero_left]
     omega
    rw[<- e2]
    exact k
  ·intro σ H' Q1 Q2 hq h
   obtain⟨x,e,h⟩:=h
   exact⟨x,e,h.1,h.2.choose,h.2.choose_spec.1,hq _ _ h.2.choose_spec.2⟩
end
end Ev
set_option Elab.async false
set_option linter.all false
set_option maxRecDepth 100000
namespace Ev
open PySem L2
theorem jS_{a b:Int}(hb:0<b)(hb2:b<=1000):0<(Int.gcd a b:Int)/\(Int.gcd a b:Int)<1073741824:=by
 have h1:0<Int.gcd a b:=Int.gcd_pos_of_ne_zero_right a (by omega)
 have h2:(Int.gcd a b:Int) ∣ b:=Int.gcd_dvd_right a b
 have h3:=Int.le_of_dvd hb h2
 omega
section
variable{P:Program}{w:World}{K:PySem.W.Frag}{mg:Str->Option Value}{base:Heap}
theorem scFrac:FnScope ["top","below","divisor"] ["top","below"] (defScope sFrac):=⟨rfl,rfl,rfl,by decide +kernel,rfl,by decide +kernel,by decide +kernel⟩
def spFrac:Sp:=fun vs H Q _=>∃a b:Int,vs=[.int a,.int b]/\0<=a/\0<b/\b<=1000/\∀t,H t=none->Q (.ref t) (upd H t (.tup [.int (fr a b).1,.int (fr a b).2]))
theorem in_{f:Addr}{fd:FuncData}(F:Fun K "fraction_of" "fraction_of" sFrac f fd)(cG:Cal P w K mg base 1 "greatest_divisor" ["one","other"] spGd):FnOk P w K mg base CX0 2 f fd ["top","below"] spFrac:=by
 refine F.ok scFrac (fun vs H Q E h=>?_) (fun cdv A outer s H vs Q E hr h=>?_)
 ·obtain⟨a,b,rfl,_⟩:=h
  rfl
 ·obtain⟨a,b,rfl,ha,hb,hb2,k⟩:=h
  have g:=jS_ (a:=a) hb hb2
  refine⟨_,a3_ (ab_ (i:=2) scFrac.nd rfl (Or.inl rfl) (a9_ cG hr (a0_ (pv 0) (a0_ (pv 1) a2_)))) (a5_ (ad_ (aO_ (a0_ (ai_ bf_ (pv 0) (pv 2)) (a0_ (ai_ bf_ (pv 1) (pv 2)) a2_))))),?_⟩
  refine⟨_,rfl,_,rfl,a,b,rfl,ha,hb,?_⟩
  exact⟨_,rfl,_,rfl,_,_,rfl,rfl,g,_,rfl,_,rfl,_,_,rfl,rfl,g,by show 2<=sizeLine;decide,k⟩
structure StandOk (hs:List (Str × Int)) (qs:List Pc) (ns:List Str) (f:Str->Str):Prop where
 perm:ns.Perm (qs.map (·.1))
 at_:∀n∈ns,f n∈hs.map (·.1)
theorem scCStand:FnScope ["goods","stand","piece","hand","names"] ["goods","stand"] (defScope sCStand):=⟨rfl,rfl,rfl,by decide +kernel,rfl,by decide +kernel,by decide +kernel⟩
def spCStand(K:PySem.W.Frag)(CG CW:Addr):Sp:=fun vs H Q _=>∃(g p d:Addr) (hs:List (Str × Int)) (ts:List (Str × Str)) (qs:List Pc) (fp:List Addr) (ns:List Str) (f:Str->Str),vs=[.ref g,.ref d]/\GoodsAt K CG CW H g p hs ts qs fp/\d∉fp/\H d=some (.dK (stF ns f))/\StandOk hs qs ns f/\(qs.map (·.1)).Nodup/\qs.length<64 /\
 ∀d' H',Same H H'->H d'=none->H' d'=some (.dK (stF (qs.map (·.1)) f))->Q (.ref d') H'
theorem gu_{f CG CW:Addr}{fd:FuncData}(F:Fun K "checked_stand" "checked_stand" sCStand f fd)(B:Bi mg)(T:TxtG K CG)(TW:Txt K mg CW)(cH:CalM P w K mg base CG 1 "has_piece" ["self","thing"] (spGHas K CG CW))(cW:CalM P w K mg base CW 1 "has_hand" ["self","thing"] (spHas K CW))(cN:CalM P w K mg base CG 1 "names" ["self"] (spGNames K CG CW)) :
  FnOk P w K mg base CX0 2 f fd ["goods","stand"] (spCStand K CG CW):=by
 refine F.ok scCStand (fun vs H Q E h=>?_) (fun cdv A outer s H vs Q E hr h=>?_)
 ·obtain⟨g,p,d,hs,ts,qs,fp,ns,f,rfl,_⟩:=h
  rfl
 ·obtain⟨g,p,d,hs,ts,qs,fp,ns,f,rfl,G,dfp,hd,so,nd,h64,k⟩:=h
  have hu:=b1_ hr
  have sz:=sizeLine_eq
  refine' ⟨_,?r0,?kk⟩
  case' r0=>refine' a3_ ?s1 ?r1
  case s1=>exact ax_ (aC_ (aH_ (ac_ aK_ (by rfl) B.isi PyProof.Rows.Boot.«isinstance» (a0_ (pv 1) (a0_ (aT_ (v:=.ty "dict") (by rfl) B.dict PyProof.Rows.Boot.«dict» rfl) a2_))))) ae_ af_
  case' r1=>refine' a3_ ?s2 ?r2
  case' s2=>refine' dw_ (aM_ PassesOwn.never rfl ?i2 ?g2 ?b2)
  case i2=>exact bP_ (aZ_ (pv 1))
  case g2=>exact bH_ rfl (aa_ (a8_ (i:=2) scCStand.nd rfl (Or.inl rfl)) (aa_ (a8_ (i:=3) scCStand.nd rfl (Or.inl rfl)) aF_))
  case b2=>exact a3_ (ax_ (aC_ (aH_ (cl_ cH T.cl hr (pv 0) (a0_ (pv 2) a2_)))) ae_ af_) (a5_ (ax_ (aC_ (aH_ (cl_ cW TW.cl hr (aP_ (pv 0) rfl) (a0_ (pv 3) a2_)))) ae_ af_))
  case' r2=>refine' a3_ ?s3 ?r3
  case s3=>exact ab_ (i:=4) scCStand.nd rfl (Or.inl rfl) (bV_ cN T.cl hr (pv 0))
  case' r3=>refine' a3_ ?s4 (a5_ ?s5)
  case s4=>exact ax_ (ap_ cV_ (ac_ gq_ (by rfl) B.len PySem.boot_len (a0_ (pv 1) a2_)) (ac_ an_ (by rfl) B.len PySem.boot_len (a0_ (pv 4) a2_)) (nomark _)) ae_ af_
  case s5=>exact ad_ (aB_ (aS_ rfl) (by rfl) B.dict PyProof.Rows.Boot.«dict» (a0_ (aI_ ["piece","stand"] 1 [1] (aj_ (pv 4)) (fun fp s H=>a8_ (i:=0) (show (["piece","stand"]:List Str).Nodup by decide +kernel) rfl (Or.inl rfl)) (fun fp s H=>au_) (fun fp s H=>aO_ (a0_ (pv 0) (a0_ (aJ_ hu (pv 1) (pv 0) (fun _ _=>rfl)) a2_)))) a2_))
  case' kk=>skip
  have lns:ns.length=qs.length:=by rw[so.perm.length_eq,List.length_map]
  refine⟨_,rfl,_,_,_,_,rfl,.dK hd,rfl,_,rfl,iteF ?_⟩
  refine⟨d,_,hd,?_⟩
  refine⟨_,rfl,d,_,rfl,hd,fun v hv=>?_⟩
  have s1:=Same.new (o:=itemsV v d) hv
  have hv1:upd H v (itemsV v d) v=some (itemsV v d):=a1_
  have G1:=G.same s1
  have hd1:=s1 _ _ hd
  generalize upd H v (itemsV v d)=H1 at s1 hv1 G1 hd1 ⊢
  refine⟨v,d,_,rfl,hv1,hd1,fun o=>?_⟩
  refine bQ_ (fun i σ H'=>∃(v2 v3:Option V),σ=[some (.ref g),some (.ref d),v2,v3,none]/\Fz d o (stF ns f) H1 H') ⟨none,none,rfl,Fz.start⟩ (fun i σ H' _ ⟨_,_,_,z⟩=>z.at_) ?_ ?_
  ·rintro i ky x σ H2 hx ⟨v2,v3,rfl,fz⟩ t ht
   obtain⟨n,hn,rfl,rfl⟩:=cd_ hx
   have nm:=List.mem_of_getElem? hn
   have s2:=Same.new (o:=.tup [.str n,.str (f n)]) ht
   have fz2:=fz.step s2
   have e2:upd H2 t (.tup [.str n,.str (f n)]) t=some (.tup [.str n,.str (f n)]):=a1_
   show gTup _ _ _ _ _ (upd H2 t (.tup [.str n,.str (f n)])) _
   generalize upd H2 t (.tup [.str n,.str (f n)])=H3 at s2 fz2 e2 ⊢
   refine⟨t,_,rfl,.of e2,rfl,_,_,rfl,_,_,rfl,rfl,?_⟩
   have G3:=fz2.goods hd1 G1 dfp
   obtain⟨dx,dw,dy,vs,fpw,h1,h2,h3,h4,h5,m1,m2,m3,m4,m5⟩:=id G3.ex
   obtain⟨dxw,d1,l2,d3,zs0,as,ef,w1,_⟩:=id h2.ex
   have hno:(gflds p dw dy).lookup ("has_piece":Str)=none:=be_ _ _ _ (by decide +kernel) (by decide +kernel) (by decide +kernel)
   have hnw:(flds d1 l2 d3).lookup ("has_hand":Str)=none:=b5_ _ _ _ (by decide +kernel) (by decide +kernel) (by decide +kernel)
   refine⟨_,rfl,g,dx,_,rfl,h1,hno,_,rfl,g,p,.str n,some n,hs,ts,qs,fp,rfl,G3,rfl,_,rfl,?_⟩
   rw[show inB (qs.map (·.1)) (some n)=true from decide_eq_true (so.perm.mem_iff.mp nm)]
   refine iteF ?_
   refine⟨_,rfl,g,CG,dx,_,_,rfl,h1,T.cl,T.nW,bm_ _ _ _,p,dxw,_,rfl,w1,hnw,_,rfl,p,f n,hs,ts,fpw,rfl,h2,_,rfl,?_⟩
   rw[decide_eq_true (so.at_ n nm)]
   exact iteF ⟨_,_,rfl,fz2⟩
  rintro σ H2 ⟨v2,v3,rfl,fz⟩
  refine⟨o,fz.at_,?_⟩
  have s2:=s1.trans (fz.thaw hd1)
  have hd2:upd H2 d (.dK (stF ns f)) d=some (.dK (stF ns f)):=a1_
  generalize upd H2 d (.dK (stF ns f))=H3 at s2 hd2 ⊢
  have G3:=G.same s2
  obtain⟨dx,dw,dy,vs,fpw,h1,h2,h3,h4,h5,m1,m2,m3,m4,m5⟩:=id G3.ex
  refine⟨_,rfl,g,dx,_,rfl,h1,be_ _ _ _ (by decide +kernel) (by decide +kernel) (by decide +kernel),g,p,hs,ts,qs,fp,rfl,G3,fun ln hln=>?_⟩
  have s3:=Same.new (o:=.lst ((qs.map (·.1)).map V.str)) hln
  have e3:upd H3 ln (.lst ((qs.map (·.1)).map V.str)) ln=some (.lst ((qs.map (·.1)).map V.str)):=a1_
  have hd3:=s3 _ _ hd2
  generalize upd H3 ln (.lst ((qs.map (·.1)).map V.str))=H4 at s3 e3 hd3 ⊢
  refine⟨_,rfl,d,_,rfl,hd3,_,rfl,ln,_,rfl,.inl (.of e3),rfl,_,rfl,?_⟩
  rw[aL_,List.length_map,List.length_map,lns]
  simp only[bne_self_eq_false,decide_true,Bool.not_true]
  refine iteF ?_
  have s04:=s2.trans s3
  refine⟨_,rfl,ln,rfl,⟨_,.of e3⟩,fun D hD=>?_⟩
  refine aq_ (own:=1) (fv:=[some (.ref d)]) (xs:=(qs.map (·.1)).map V.str) rfl gok1 (fun i out H'=>Same H4 H'/\H' D=some (.lst out)/\PairsAt K H' out (stF ((qs.map (·.1)).take i) f)) ⟨Same.new hD,a1_,.nil⟩ (fun i out H' _ ⟨sm,_,_⟩=>.of (sm _ _ e3)) (fun out H5 ⟨sm,hD5,pa⟩=>?_) (fun i y out H' hy ⟨sm,hD',pa⟩=>?_)
  ·rw[List.length_map,List.take_length] at pa
   refine⟨D,out,_,rfl,hD5,pa,by rw[aL_,List.length_map];omega,fun d' hd'=>?_⟩
   have ndk:((stF (qs.map (·.1)) f).map (·.1)).Nodup:=by
    rw[cp_,List.nodup_iff_pairwise_ne,List.pairwise_map]
    exact nd.imp fun n e=>n (Sum.inr.inj e)
   rw[b3_ ndk]
   exact k d' _ ((s04.trans sm).trans (Same.new hd')) (s04.free (sm.free hd')) a1_
  ·obtain⟨n,hn,rfl⟩:=av_ hy
   have hi:i<(qs.map (·.1)).length:=(List.getElem?_eq_some_iff.mp hn).1
   rw[List.length_map] at hi
   have nm:n∈ns:=so.perm.mem_iff.mpr (List.mem_of_getElem? hn)
   refine⟨_,rfl,rfl,fun Nx hN=>yesT ?_⟩
   refine⟨_,rfl,_,rfl,_,rfl,d,.str (f n),rfl,?_,by show 2<=sizeLine;decide,fun t ht=>?_⟩
   ·rw[<- bu_ (g:=fun n=>V.str (f n)) nm]
    exact .k (k:=Sum.inr n) (sm _ _ hd3)
   have s5:=Same.new (o:=.tup [.str n,.str (f n)]) ht
   have lo:=Paired.length pa
   rw[aL_,List.length_take,List.length_map] at lo
   refine⟨out,s5 _ _ hD',by omega,hN _ _ ⟨al_ (sm.trans s5) hD,a1_,?_⟩⟩
   have ht5:upd H' t (.tup [.str n,.str (f n)]) t=some (.tup [.str n,.str (f n)]):=a1_
   have pD:∀{b:Addr} {ys:List V},upd H' t (.tup [.str n,.str (f n)]) b=some (.tup ys)->b≠D:=fun hb=>az_ hb (s5 _ _ hD') (by intro z;cases z)
   rw[aW_ hn]
   show PairsAt K _ _ (((qs.map (·.1)).take i++[n]).map _)
   rw[List.map_append]
   exact as_ (Paired.mapP pa fun y kv ⟨b,z,hb⟩=>⟨b,z,by rw[a7_ (pD (s5 _ _ hb))];exact s5 _ _ hb⟩) (.cons ⟨t,rfl,by rw[a7_ (pD ht5)];exact ht5⟩ .nil)
end
end Ev
set_option Elab.async false
set_option linter.all false
set_option maxRecDepth 100000
namespace Ev
open PySem L2
theorem WebAt.has{K:PySem.W.Frag}{C:Addr}{H:Hp}{p:Addr}{hs:List (Str × Int)}{ts:List (Str × Str)}{fp:List Addr}(W:WebAt K C H p hs ts fp){b:Addr}(hb:b∈fp):∃o,H b=some o:=by
 obtain⟨dx,d1,l2,d3,zs,as,rfl,h1,h2,h3,h4,h5,h6,h7⟩:=W.ex
 simp only[List.mem_cons] at hb
 rcases hb with rfl|rfl|rfl|rfl|hb
 ·exact⟨_,h1⟩
 ·exact⟨_,h2⟩
 ·exact⟨_,h3⟩
 ·exact⟨_,h5⟩
 ·obtain⟨i,hi,e⟩:=List.getElem_of_mem hb
  exact⟨_,h7 i ((nmsOf hs)[i]'(by omega)) b (List.getElem?_eq_getElem (by omega)) (by rw[<- e];exact List.getElem?_eq_getElem hi)⟩
theorem GoodsAt.slim{K:PySem.W.Frag}{CG CW:Addr}{H:Hp}{g p:Addr}{hs:List (Str × Int)}{ts:List (Str × Str)}{qs:List Pc}{fp:List Addr}(G:GoodsAt K CG CW H g p hs ts qs fp):∃fp',GoodsAt K CG CW H g p hs ts qs fp'/\∀b∈fp',∃o,H b=some o:=by
 obtain⟨dx,dw,dy,vs,fpw,h1,h2,h3,h4,h5,m1,m2,m3,m4,m5⟩:=G.ex
 refine⟨g::dw::dy::(fpw++vs.filterMap fun v=>match v with | .ref a=>some a|_=>none),⟨dx,dw,dy,vs,fpw,h1,h2,h3,h4,h5,by simp,by simp,by simp,fun b hb=>by simp[hb],fun v hv a z=>?_⟩,fun b hb=>?_⟩
 ·have:a∈vs.filterMap fun v=>match v with | .ref a=>some a|_=>none:=List.mem_filterMap.mpr ⟨v,hv,by rw[z]⟩
  simp only[List.mem_cons,List.mem_append]
  exact .inr (.inr (.inr (.inr this)))
 ·simp only[List.mem_cons,List.mem_append] at hb
  rcases hb with rfl|rfl|rfl|hb|hb
  ·exact⟨_,h1⟩
  ·exact⟨_,h3⟩
  ·exact⟨_,h4⟩
  ·exact h2.has hb
  ·obtain⟨v,hv,e⟩:=List.mem_filterMap.mp hb
   obtain⟨i,hi,ev⟩:=List.getElem_of_mem hv
   have le:=Paired.length h5
   have w:=ah_ h5 i hi (by omega)
   rw[ev] at w
   cases o:(qs[i]'(by omega)).2.2 with
   |none=>
    rw[o] at w
    rw[show v=.non from w] at e
    cases e
   |some ws=>
    rw[o] at w
    obtain⟨a,ys,ea,ha,_⟩:=w
    rw[ea] at e
    cases e
    exact⟨_,ha⟩
section
variable{d d2:Addr}{o:Obj}{kvs:List (Key × V)}{H H' H1:Hp}{u:HO}
theorem Fz.start'(s:Same H H1):Fz d o kvs H (upd H1 d (.frz o (.dK kvs))):=⟨a1_,fun b u ne e=>by rw[a7_ ne];exact s _ _ e⟩
theorem Fz.put(f:Fz d o kvs H H')(hn:H d2=none)(ne:d2≠d):Fz d o kvs H (upd H' d2 u):=⟨by rw[a7_ ne.symm];exact f.at_,fun b u nb e=>by rw[a7_ (a4_ e hn)];exact f.sm b u nb e⟩
end
def HtOk(H:Hp)(ns:List Str)(g:Str->V)(F:Str->Int × Int):Prop:=∀h∈ns,∃t,g h=.ref t/\H t=some (.tup [.int (F h).1,.int (F h).2])
theorem HtOk.same{H H':Hp}{ns:List Str}{g:Str->V}{F:Str->Int × Int}(h:HtOk H ns g F)(s:Same H H'):HtOk H' ns g F:=fun x hx=>by
 obtain⟨t,e,ht⟩:=h x hx
 exact⟨t,e,s _ _ ht⟩
section
variable{P:Program}{w:World}{K:PySem.W.Frag}{mg:Str->Option Value}{base:Heap}
theorem scLoadsAt:FnScope ["goods","placed","hand","found","piece"] ["goods","placed"] (defScope sLoadsAt):=⟨rfl,rfl,rfl,by decide +kernel,rfl,by decide +kernel,by decide +kernel⟩
structure Placed (K:PySem.W.Frag) (CG CW:Addr) (H:Hp) (g p d:Addr) (hs:List (Str × Int)) (ts:List (Str × Str)) (qs:List Pc) (fp:List Addr) (f:Str->Str):Prop where
 G:GoodsAt K CG CW H g p hs ts qs fp
 Gd:Good hs ts
 dfp:d∉fp
 hd:H d=some (.dK (stF (qs.map (·.1)) f))
 at_:∀n∈qs.map (·.1),f n∈hs.map (·.1)
 nd:(qs.map (·.1)).Nodup
 h64:qs.length<64
abbrev ldV(hs:List (Str × Int))(qs:List Pc)(f:Str->Str):List (Key × V):=mKV (nmsOf hs) fun h=>.int (ld f (qs.map wOf) h)
def spLoadsAt(K:PySem.W.Frag)(CG CW:Addr):Sp:=fun vs H Q _=>∃(g p d:Addr) (hs:List (Str × Int)) (ts:List (Str × Str)) (qs:List Pc) (fp:List Addr) (f:Str->Str),vs=[.ref g,.ref d]/\Placed K CG CW H g p d hs ts qs fp f /\
 ∀d' H',Same H H'->H d'=none->H' d'=some (.dK (ldV hs qs f))->Q (.ref d') H'
theorem fx_{f CG CW CP:Addr}{fd:FuncData}(F:Fun K "loads_at" "loads_at" sLoadsAt f fd)(B:Bi mg)(T:TxtG K CG)(TW:Txt K mg CW)(cH:CalM P w K mg base CW 1 "hands" ["self"] (spHands K CW))(cW:CalX P w K mg base CG 2 "weight" ["self","piece"] (spGWeight K CG CW CP)) :
  FnOk P w K mg base CX0 3 f fd ["goods","placed"] (spLoadsAt K CG CW):=by
 refine F.ok scLoadsAt (fun vs H Q E h=>?_) (fun cdv A outer s H vs Q E hr h=>?_)
 ·obtain⟨g,p,d,hs,ts,qs,fp,f,rfl,_⟩:=h
  rfl
 ·obtain⟨g,p,d,hs,ts,qs,fp,f,rfl,Pl,k⟩:=h
  have hu:=b1_ hr
  have sz:=sizeLine_eq
  have hr1:Room 1 _:=hr.mono (by decide)
  refine' ⟨_,?r0,?kk⟩
  case' r0=>refine' a3_ ?s1 ?r1
  case s1=>exact ab_ (i:=3) scLoadsAt.nd rfl (Or.inl rfl) (aB_ (aS_ rfl) (by rfl) B.dict PyProof.Rows.Boot.«dict» (a0_ (aI_ ["hand"] 1 [] (aj_ (bV_ cH TW.cl hr1 (aP_ (pv 0) rfl))) (fun fp s H=>a8_ (i:=0) (show (["hand"]:List Str).Nodup by decide +kernel) rfl (Or.inl rfl)) (fun fp s H=>au_) (fun fp s H=>aO_ (a0_ (pv 0) (a0_ a6_ a2_)))) a2_))
  case' r1=>refine' a3_ ?s2 ?r2
  case' s2=>refine' dw_ (aM_ PassesOwn.never rfl ?i2 ?g2 (a5_ ?b2))
  case i2=>exact bP_ (aZ_ (pv 1))
  case g2=>exact bH_ rfl (aa_ (a8_ (i:=4) scLoadsAt.nd rfl (Or.inl rfl)) (aa_ (a8_ (i:=2) scLoadsAt.nd rfl (Or.inl rfl)) aF_))
  case b2=>exact bt_ hu (pv 3) (pv 2) (ai_ aU_ (aJ_ hu (pv 3) (pv 2) (fun _ _=>rfl)) (jk_ cW T.cl hr (pv 0) (a0_ (pv 4) a2_))) rfl
  case r2=>exact a5_ (ad_ (pv 3))
  case' kk=>skip
  have nl:=Pl.Gd.nlen
  have h8:=Pl.Gd.h8
  obtain⟨dx,dw,dy,vs,fpw,h1,h2,h3,h4,h5,m1,m2,m3,m4,m5⟩:=id Pl.G.ex
  obtain⟨dxw,d1,l2,d3,zs0,as,ef,w1,_⟩:=id h2.ex
  have hnw:(flds d1 l2 d3).lookup ("hands":Str)=none:=b5_ _ _ _ (by decide +kernel) (by decide +kernel) (by decide +kernel)
  refine⟨_,rfl,g,CG,dx,_,_,rfl,h1,T.cl,T.nW,bm_ _ _ _,p,dxw,_,rfl,w1,hnw,p,hs,ts,fpw,rfl,h2,fun lh hlh=>?_⟩
  have s1:=Same.new (o:=.lst ((nmsOf hs).map V.str)) hlh
  have e1:upd H lh (.lst ((nmsOf hs).map V.str)) lh=some (.lst ((nmsOf hs).map V.str)):=a1_
  generalize upd H lh (.lst ((nmsOf hs).map V.str))=H1 at s1 e1 ⊢
  refine⟨lh,rfl,⟨_,.of e1⟩,fun D hD=>?_⟩
  refine aq_ (own:=1) (fv:=[]) (xs:=(nmsOf hs).map V.str) rfl gok1 (fun i out H'=>Same H1 H'/\H' D=some (.lst out)/\PairsAt K H' out (mKV ((nmsOf hs).take i) fun _=>.int 0)) ⟨Same.new hD,a1_,.nil⟩ (fun i out H' _ ⟨sm,_,_⟩=>.of (sm _ _ e1)) (fun out H5 ⟨sm,hD5,pa⟩=>?_) (fun i y out H' hy ⟨sm,hD',pa⟩=>?_)
  rotate_left 1
  ·obtain⟨n,hn,rfl⟩:=av_ hy
   have hi:i<(nmsOf hs).length:=(List.getElem?_eq_some_iff.mp hn).1
   refine⟨_,rfl,rfl,fun Nx hN=>yesT ?_⟩
   refine⟨_,rfl,by show 2<=sizeLine;decide,fun t ht=>?_⟩
   have s5:=Same.new (o:=.tup [.str n,.int 0]) ht
   have lo:=Paired.length pa
   rw[aL_,List.length_take] at lo
   refine⟨out,s5 _ _ hD',by omega,hN _ _ ⟨al_ (sm.trans s5) hD,a1_,?_⟩⟩
   have ht5:upd H' t (.tup [.str n,.int 0]) t=some (.tup [.str n,.int 0]):=a1_
   have pD:∀{b:Addr} {ys:List V},upd H' t (.tup [.str n,.int 0]) b=some (.tup ys)->b≠D:=fun hb=>az_ hb (s5 _ _ hD') (by intro z;cases z)
   rw[aW_ hn]
   show PairsAt K _ _ (((nmsOf hs).take i++[n]).map _)
   rw[List.map_append]
   exact as_ (Paired.mapP pa fun y kv ⟨b,z,hb⟩=>⟨b,z,by rw[a7_ (pD (s5 _ _ hb))];exact s5 _ _ hb⟩) (.cons ⟨t,rfl,by rw[a7_ (pD ht5)];exact ht5⟩ .nil)
  rw[List.length_map,List.take_length] at pa
  refine⟨D,out,_,rfl,hD5,pa,by rw[aL_];omega,fun d2 hd2=>?_⟩
  have ndk:((mKV (nmsOf hs) fun _=>V.int 0).map (·.1)).Nodup:=by
   rw[cp_,List.nodup_iff_pairwise_ne,List.pairwise_map]
   exact Pl.Gd.nnd.imp fun n e=>n (Sum.inr.inj e)
  rw[b3_ ndk]
  have s2:=(s1.trans sm).trans (Same.new (o:=.dK (mKV (nmsOf hs) fun _=>V.int 0)) hd2)
  have e2:upd H5 d2 (.dK (mKV (nmsOf hs) fun _=>V.int 0)) d2=some (.dK (mKV (nmsOf hs) fun _=>V.int 0)):=a1_
  have n2:H d2=none:=s1.free (sm.free hd2)
  show tSeq _ _ _ _ (upd H5 d2 (.dK (mKV (nmsOf hs) fun _=>V.int 0)))
  generalize upd H5 d2 (.dK (mKV (nmsOf hs) fun _=>V.int 0))=H6 at s2 e2 ⊢
  have d2d:d2≠d:=(a4_ Pl.hd n2).symm
  refine⟨d,_,s2 _ _ Pl.hd,?_⟩
  refine⟨_,rfl,d,_,rfl,s2 _ _ Pl.hd,fun v hv=>?_⟩
  have s3:=Same.new (o:=itemsV v d) hv
  have hv1:upd H6 v (itemsV v d) v=some (itemsV v d):=a1_
  have e3:=s3 _ _ e2
  have s03:=s2.trans s3
  generalize upd H6 v (itemsV v d)=H7 at s3 hv1 e3 s03 ⊢
  refine⟨v,d,_,rfl,hv1,s03 _ _ Pl.hd,fun o=>?_⟩
  refine bQ_ (fun i σ H'=>∃(v2 v4:Option V),σ=[some (.ref g),some (.ref d),v2,some (.ref d2),v4]/\Fz d o (stF (qs.map (·.1)) f) H H'/\H' d2=some (.dK (mKV (nmsOf hs) fun h=>.int (ld f ((qs.take i).map wOf) h)))) ⟨none,none,rfl,Fz.start' s03,by rw[a7_ d2d];exact e3⟩ (fun i σ H' _ ⟨_,_,_,z,_⟩=>z.at_) ?_ ?_
  ·rintro i ky x σ H8 hx ⟨v2,v4,rfl,fz,e8⟩ t ht
   obtain⟨n,hn,rfl,rfl⟩:=cd_ hx
   have hi:i<qs.length:=by
    have:=(List.getElem?_eq_some_iff.mp hn).1
    rwa [List.length_map] at this
   have hq:qs[i]? = some (qs[i]'hi):=List.getElem?_eq_getElem hi
   have en:n=(qs[i]'hi).1:=by
    rw[List.getElem?_map,hq] at hn
    exact (Option.some.inj hn).symm
   have fm:f n∈nmsOf hs:=(ak_ hs).mem_iff.mpr (Pl.at_ n (List.mem_of_getElem? hn))
   generalize qs[i]'hi=q at hq en
   have s8:=Same.new (o:=.tup [.str n,.str (f n)]) ht
   have fz2:=fz.step s8
   have e9:=s8 _ _ e8
   have et:upd H8 t (.tup [.str n,.str (f n)]) t=some (.tup [.str n,.str (f n)]):=a1_
   show gTup _ _ _ _ _ (upd H8 t (.tup [.str n,.str (f n)])) _
   generalize upd H8 t (.tup [.str n,.str (f n)])=H9 at s8 fz2 e9 et ⊢
   refine⟨t,_,rfl,.of et,rfl,_,_,rfl,_,_,rfl,rfl,?_⟩
   have G9:=fz2.goods Pl.hd Pl.G Pl.dfp
   obtain⟨dx,dw,dy,vs,fpw,h1,h2,h3,h4,h5,m1,m2,m3,m4,m5⟩:=id G9.ex
   have hno:(gflds p dw dy).lookup ("weight":Str)=none:=be_ _ _ _ (by decide +kernel) (by decide +kernel) (by decide +kernel)
   refine⟨_,rfl,_,rfl,d2,.int (ld f ((qs.take i).map wOf) (f n)),rfl,?_,_,rfl,g,dx,_,rfl,h1,hno,_,rfl,g,p,.str n,some n,hs,ts,qs,fp,rfl,G9,Pl.nd,rfl,.inl ⟨q,List.mem_of_getElem? hq,congrArg some en,?_⟩⟩
   ·rw[<- bu_ (g:=fun h=>V.int (ld f ((qs.take i).map wOf) h)) fm]
    exact .k (k:=Sum.inr (f n)) e9
   refine⟨_,_,rfl,rfl,_,rfl,_,rfl,d2,_,rfl,.k (k:=Sum.inr (f n)) e9 (by rw[aL_];omega),?_⟩
   refine⟨_,_,rfl,fz2.put n2 d2d,?_⟩
   rw[a1_,jd_ fm]
   congr 2
   refine cR_ fun m _=>?_
   have e5:(qs.take (i+1)).map wOf=(qs.take i).map wOf++[wOf q]:=by
    rw[List.take_add_one,hq,List.map_append]
    rfl
   rw[e5,iW_]
   show (if m=f n then V.int (ld f ((qs.take i).map wOf) (f n)+q.2.1) else V.int (ld f ((qs.take i).map wOf) m))=V.int (if m=f q.1 then _ else _)
   rw[<- en]
   by_cases z:m=f n
   ·rw[if_pos z,if_pos z,z]
    rfl
   ·rw[if_neg z,if_neg z]
  rintro σ H8 ⟨v2,v4,rfl,fz,e8⟩
  refine⟨o,fz.at_,?_⟩
  rw[aL_,List.length_map,List.take_length] at e8
  exact⟨_,rfl,k d2 _ (fz.thaw Pl.hd) n2 (by rw[a7_ d2d];exact e8)⟩
theorem scHeightsAt:FnScope ["goods","placed","found","hand","load"] ["goods","placed"] (defScope sHeightsAt):=⟨rfl,rfl,rfl,by decide +kernel,rfl,by decide +kernel,by decide +kernel⟩
abbrev htF(hs:List (Str × Int))(qs:List Pc)(f:Str->Str):Str->Int × Int:=fun h=>fr (ld f (qs.map wOf) h) (strOf hs h)
def spHeightsAt(K:PySem.W.Frag)(CG CW:Addr):Sp:=fun vs H Q _=>∃(g p d:Addr) (hs:List (Str × Int)) (ts:List (Str × Str)) (qs:List Pc) (fp:List Addr) (f:Str->Str),vs=[.ref g,.ref d]/\Placed K CG CW H g p d hs ts qs fp f/\(∀q∈qs,0<=q.2.1) /\
 ∀d' gg H',Same H H'->H d'=none->H' d'=some (.dK (mKV (nmsOf hs) gg))->HtOk H' (nmsOf hs) gg (htF hs qs f)->Q (.ref d') H'
theorem ea_{f CG CW:Addr}{fd:FuncData}(F:Fun K "heights_at" "heights_at" sHeightsAt f fd)(T:TxtG K CG)(TW:Txt K mg CW)(cL:Cal P w K mg base 3 "loads_at" ["goods","placed"] (spLoadsAt K CG CW))(cF:Cal P w K mg base 2 "fraction_of" ["top","below"] spFrac)(cS:CalM P w K mg base CW 2 "strength" ["self","hand"] (spStrength K CW)) :
  FnOk P w K mg base CX0 4 f fd ["goods","placed"] (spHeightsAt K CG CW):=by
 refine F.ok scHeightsAt (fun vs H Q E h=>?_) (fun cdv A outer s H vs Q E hr h=>?_)
 ·obtain⟨g,p,d,hs,ts,qs,fp,f,rfl,_⟩:=h
  rfl
 ·obtain⟨g,p,d,hs,ts,qs,fp,f,rfl,Pl,wp,k⟩:=h
  have hu:=b1_ hr
  have sz:=sizeLine_eq
  have hr2:Room 2 _:=hr.mono (by decide)
  refine' ⟨_,?r0,?kk⟩
  case' r0=>refine' a3_ ?s1 ?r1
  case s1=>exact ab_ (i:=2) scHeightsAt.nd rfl (Or.inl rfl) bA_
  case' r1=>refine' a3_ ?s2 ?r2
  case' s2=>refine' aM_ PassesOwn.never rfl ?i2 ?g2 (a5_ ?b2)
  case i2=>exact bP_ (aZ_ (a9_ cL hr (a0_ (pv 0) (a0_ (pv 1) a2_))))
  case g2=>exact bH_ rfl (aa_ (a8_ (i:=3) scHeightsAt.nd rfl (Or.inl rfl)) (aa_ (a8_ (i:=4) scHeightsAt.nd rfl (Or.inl rfl)) aF_))
  case b2=>exact bt_ hu (pv 2) (pv 3) (a9_ cF hr2 (a0_ (pv 4) (a0_ (cl_ cS TW.cl hr2 (aP_ (pv 0) rfl) (a0_ (pv 3) a2_)) a2_))) rfl
  case r2=>exact a5_ (ad_ (pv 2))
  case' kk=>skip
  have nl:=Pl.Gd.nlen
  have h8:=Pl.Gd.h8
  intro d2 hd2
  have s1:=Same.new (o:=.dK []) hd2
  have e1:upd H d2 (.dK []) d2=some (.dK []):=a1_
  show tSeq _ _ _ _ (upd H d2 (.dK []))
  generalize upd H d2 (.dK [])=H1 at s1 e1 ⊢
  have Pl1:Placed K CG CW H1 g p d hs ts qs fp f:=⟨Pl.G.same s1,Pl.Gd,Pl.dfp,s1 _ _ Pl.hd,Pl.at_,Pl.nd,Pl.h64⟩
  refine⟨_,rfl,_,rfl,g,p,d,hs,ts,qs,fp,f,rfl,Pl1,fun dl H2 s2 hdl e2=>?_⟩
  refine⟨dl,_,rfl,e2,fun v hv=>?_⟩
  have s3:=Same.new (o:=itemsV v dl) hv
  have hv1:upd H2 v (itemsV v dl) v=some (itemsV v dl):=a1_
  have e3:=s3 _ _ e2
  have s13:=s2.trans s3
  generalize upd H2 v (itemsV v dl)=H3 at s3 hv1 e3 s13 ⊢
  have ndl:H dl=none:=s1.free hdl
  have d2l:d2≠dl:=a4_ e1 hdl
  refine⟨v,dl,_,rfl,hv1,e3,fun o=>?_⟩
  refine bQ_ (fun i σ H'=>∃(v3 v4:Option V) (gg:Str->V),σ=[some (.ref g),some (.ref d),some (.ref d2),v3,v4]/\Same H H'/\H' dl=some (.frz o (.dK (ldV hs qs f)))/\H' d2=some (.dK (mKV ((nmsOf hs).take i) gg))/\HtOk H' ((nmsOf hs).take i) gg (htF hs qs f)) ⟨none,none,fun _=>.non,rfl,al_ (s1.trans s13) ndl,a1_,by rw[a7_ d2l];exact s13 _ _ e1,fun x hx=>by simp at hx⟩ (fun i σ H' _ ⟨_,_,_,_,_,z,_⟩=>z) ?_ ?_
  ·rintro i ky x σ H8 hx ⟨v3,v4,gg,rfl,s8,f8,e8,ho⟩ t ht
   obtain⟨n,hn,rfl,rfl⟩:=cd_ hx
   have hi:i<(nmsOf hs).length:=(List.getElem?_eq_some_iff.mp hn).1
   have nm:n∈hs.map (·.1):=(ak_ hs).mem_iff.mp (List.mem_of_getElem? hn)
   have sm:=b7_ nm
   have sg:=Pl.Gd.hok _ sm
   have ss:=Same.new (o:=.tup [.str n,.int (ld f (qs.map wOf) n)]) ht
   have s9:=s8.trans ss
   have e9:=ss _ _ e8
   have f9:=ss _ _ f8
   have ho9:=ho.same ss
   have et:upd H8 t (.tup [.str n,.int (ld f (qs.map wOf) n)]) t=some (.tup [.str n,.int (ld f (qs.map wOf) n)]):=a1_
   show gTup _ _ _ _ _ (upd H8 t (.tup [.str n,.int (ld f (qs.map wOf) n)])) _
   generalize upd H8 t (.tup [.str n,.int (ld f (qs.map wOf) n)])=H9 at ss s9 e9 f9 ho9 et ⊢
   refine⟨t,_,rfl,.of et,rfl,_,_,rfl,_,_,rfl,rfl,?_⟩
   have G9:=Pl.G.same s9
   obtain⟨dx,dw,dy,vs,fpw,h1,h2,h3,h4,h5,m1,m2,m3,m4,m5⟩:=id G9.ex
   obtain⟨dxw,d1,l2,d3,zs0,as,ef,w1,_⟩:=id h2.ex
   have hnw:(flds d1 l2 d3).lookup ("strength":Str)=none:=b5_ _ _ _ (by decide +kernel) (by decide +kernel) (by decide +kernel)
   refine⟨_,rfl,_,rfl,g,CG,dx,_,_,rfl,h1,T.cl,T.nW,bm_ _ _ _,p,dxw,_,rfl,w1,hnw,_,rfl,p,n,strOf hs n,hs,ts,fpw,rfl,h2,Pl.Gd.hnd,sm,?_⟩
   refine⟨_,_,rfl,id_ (fun y hy=>?_),by have:=sg.2.1;omega,sg.2.2,fun t2 ht2=>?_⟩
   ·obtain⟨q,hq,rfl⟩:=List.mem_map.mp hy
    exact wp q hq
   have s10:=Same.new (o:=.tup [.int (fr (ld f (qs.map wOf) n) (strOf hs n)).1,.int (fr (ld f (qs.map wOf) n) (strOf hs n)).2]) ht2
   have et2:upd H9 t2 (.tup [.int (fr (ld f (qs.map wOf) n) (strOf hs n)).1,.int (fr (ld f (qs.map wOf) n) (strOf hs n)).2]) t2=some (.tup [.int (htF hs qs f n).1,.int (htF hs qs f n).2]):=a1_
   generalize upd H9 t2 (.tup [.int (fr (ld f (qs.map wOf) n) (strOf hs n)).1,.int (fr (ld f (qs.map wOf) n) (strOf hs n)).2])=H10 at s10 et2 ⊢
   have e10:=s10 _ _ e9
   refine⟨_,rfl,_,rfl,d2,_,rfl,.k (k:=Sum.inr n) e10 (by rw[aL_,List.length_take];omega),?_⟩
   refine⟨_,_,fun m=>if m=n then .ref t2 else gg m,rfl,al_ (s9.trans s10) hd2,by rw[a7_ d2l.symm];exact s10 _ _ f9,?_,?_⟩
   ·rw[a1_,aW_ hn,er_ (do_ Pl.Gd.nnd hn)]
   ·have keep:∀{b xs},H10 b=some (.tup xs)->upd H10 d2 (.dK (putK (mKV ((nmsOf hs).take i) gg) (Sum.inr n) (.ref t2))) b=some (.tup xs):=fun e=>by
     rw[a7_ (az_ e e10 (by intro z;cases z))]
     exact e
    intro m hm
    rw[aW_ hn] at hm
    by_cases z:m=n
    ·subst z
     exact⟨t2,if_pos rfl,keep et2⟩
    ·rcases List.mem_append.mp hm with hm|hm
     ·obtain⟨t3,e3,ht3⟩:=ho9 m hm
      exact⟨t3,(if_neg z).trans e3,keep (s10 _ _ ht3)⟩
     ·exact absurd (by simpa using hm) z
  rintro σ H8 ⟨v3,v4,gg,rfl,s8,f8,e8,ho⟩
  rw[aL_,List.take_length] at e8 ho
  exact⟨_,rfl,k d2 gg H8 s8 hd2 e8 ho⟩
end
end Ev
set_option Elab.async false
set_option linter.all false
set_option maxRecDepth 100000
namespace Ev
open PySem L2
theorem jh_{H:Hp}{l d:Addr}{u:HO}(h:stt H l)(ne:d≠l):stt (upd H d u) l:=by
 rcases h with⟨n,e⟩|⟨n,m,c,e⟩
 ·exact .inl ⟨n,by rw[a7_ ne.symm];exact e⟩
 ·exact .inr ⟨n,m,c,by rw[a7_ ne.symm];exact e⟩
structure Std (K:PySem.W.Frag) (CG CW:Addr) (H:Hp) (g p d:Addr) (hs:List (Str × Int)) (ts:List (Str × Str)) (qs:List Pc) (fp:List Addr) (ns:List Str) (f:Str->Str):Prop where
 G:GoodsAt K CG CW H g p hs ts qs fp
 Gd:Good hs ts
 dfp:d∉fp
 hd:H d=some (.dK (stF ns f))
 ok:StandOk hs qs ns f
 nd:(qs.map (·.1)).Nodup
 h64:qs.length<64
 wp:∀q∈qs,0<=q.2.1
theorem Std.same{K:PySem.W.Frag}{CG CW:Addr}{H H':Hp}{g p d:Addr}{hs:List (Str × Int)}{ts:List (Str × Str)}{qs:List Pc}{fp:List Addr}{ns:List Str}{f:Str->Str}(S:Std K CG CW H g p d hs ts qs fp ns f)(s:Same H H'):Std K CG CW H' g p d hs ts qs fp ns f:=⟨S.G.same s,S.Gd,S.dfp,s _ _ S.hd,S.ok,S.nd,S.h64,S.wp⟩
theorem Std.placed{K:PySem.W.Frag}{CG CW:Addr}{H H':Hp}{g p d d':Addr}{hs:List (Str × Int)}{ts:List (Str × Str)}{qs:List Pc}{fp:List Addr}{ns:List Str}{f:Str->Str}(S:Std K CG CW H g p d hs ts qs fp ns f)(s:Same H H')(hn:H d'=none)(hd:H' d'=some (.dK (stF (qs.map (·.1)) f))):∃fp',Placed K CG CW H' g p d' hs ts qs fp' f:=by
 obtain⟨fp',G',has⟩:=S.G.slim
 refine⟨fp',G'.same s,S.Gd,fun m=>?_,hd,fun n hn=>S.ok.at_ n (S.ok.perm.mem_iff.mpr hn),S.nd,S.h64⟩
 obtain⟨o,e⟩:=has d' m
 rw[hn] at e
 cases e
section
variable{P:Program}{w:World}{K:PySem.W.Frag}{mg:Str->Option Value}{base:Heap}
theorem scLoads:FnScope ["goods","stand"] ["goods","stand"] (defScope sLoads):=⟨rfl,rfl,rfl,by decide +kernel,rfl,by decide +kernel,by decide +kernel⟩
def spLoads(K:PySem.W.Frag)(CG CW:Addr):Sp:=fun vs H Q _=>∃(g p d:Addr) (hs:List (Str × Int)) (ts:List (Str × Str)) (qs:List Pc) (fp:List Addr) (ns:List Str) (f:Str->Str),vs=[.ref g,.ref d]/\Std K CG CW H g p d hs ts qs fp ns f /\
 ∀d' H',Same H H'->H d'=none->H' d'=some (.dK (ldV hs qs f))->Q (.ref d') H'
theorem hF_{f CG CW:Addr}{fd:FuncData}(F:Fun K "loads" "loads" sLoads f fd)(cC:Cal P w K mg base 2 "checked_stand" ["goods","stand"] (spCStand K CG CW))(cL:Cal P w K mg base 3 "loads_at" ["goods","placed"] (spLoadsAt K CG CW)):FnOk P w K mg base CX0 4 f fd ["goods","stand"] (spLoads K CG CW):=by
 refine F.ok scLoads (fun vs H Q E h=>?_) (fun cdv A outer s H vs Q E hr h=>?_)
 ·obtain⟨g,p,d,hs,ts,qs,fp,ns,f,rfl,_⟩:=h
  rfl
 ·obtain⟨g,p,d,hs,ts,qs,fp,ns,f,rfl,S,k⟩:=h
  refine⟨_,a5_ (ad_ (a9_ cL hr (a0_ (pv 0) (a0_ (a9_ cC (hr.mono (by decide)) (a0_ (pv 0) (a0_ (pv 1) a2_))) a2_)))),?_⟩
  refine⟨_,rfl,_,rfl,_,rfl,g,p,d,hs,ts,qs,fp,ns,f,rfl,S.G,S.dfp,S.hd,S.ok,S.nd,S.h64,fun d1 H1 s1 n1 e1=>?_⟩
  obtain⟨fp',Pl⟩:=S.placed s1 n1 e1
  exact⟨g,p,d1,hs,ts,qs,fp',f,rfl,Pl,fun d2 H2 s2 n2 e2=>k d2 H2 (s1.trans s2) (s1.free n2) e2⟩
theorem scHeights:FnScope ["goods","stand"] ["goods","stand"] (defScope sHeights):=⟨rfl,rfl,rfl,by decide +kernel,rfl,by decide +kernel,by decide +kernel⟩
def spHeights(K:PySem.W.Frag)(CG CW:Addr):Sp:=fun vs H Q _=>∃(g p d:Addr) (hs:List (Str × Int)) (ts:List (Str × Str)) (qs:List Pc) (fp:List Addr) (ns:List Str) (f:Str->Str),vs=[.ref g,.ref d]/\Std K CG CW H g p d hs ts qs fp ns f /\
 ∀d' gg H',Same H H'->H d'=none->H' d'=some (.dK (mKV (nmsOf hs) gg))->HtOk H' (nmsOf hs) gg (htF hs qs f)->Q (.ref d') H'
theorem fu_{f CG CW:Addr}{fd:FuncData}(F:Fun K "heights" "heights" sHeights f fd)(cC:Cal P w K mg base 2 "checked_stand" ["goods","stand"] (spCStand K CG CW))(cL:Cal P w K mg base 4 "heights_at" ["goods","placed"] (spHeightsAt K CG CW)):FnOk P w K mg base CX0 5 f fd ["goods","stand"] (spHeights K CG CW):=by
 refine F.ok scHeights (fun vs H Q E h=>?_) (fun cdv A outer s H vs Q E hr h=>?_)
 ·obtain⟨g,p,d,hs,ts,qs,fp,ns,f,rfl,_⟩:=h
  rfl
 ·obtain⟨g,p,d,hs,ts,qs,fp,ns,f,rfl,S,k⟩:=h
  refine⟨_,a5_ (ad_ (a9_ cL hr (a0_ (pv 0) (a0_ (a9_ cC (hr.mono (by decide)) (a0_ (pv 0) (a0_ (pv 1) a2_))) a2_)))),?_⟩
  refine⟨_,rfl,_,rfl,_,rfl,g,p,d,hs,ts,qs,fp,ns,f,rfl,S.G,S.dfp,S.hd,S.ok,S.nd,S.h64,fun d1 H1 s1 n1 e1=>?_⟩
  obtain⟨fp',Pl⟩:=S.placed s1 n1 e1
  exact⟨g,p,d1,hs,ts,qs,fp',f,rfl,Pl,S.wp,fun d2 gg H2 s2 n2 e2 ho=>k d2 gg H2 (s1.trans s2) (s1.free n2) e2 ho⟩
theorem scPiecesAt:FnScope ["goods","stand","hand","placed"] ["goods","stand","hand"] (defScope sPiecesAt):=⟨rfl,rfl,rfl,by decide +kernel,rfl,by decide +kernel,by decide +kernel⟩
def spPiecesAt(K:PySem.W.Frag)(CG CW:Addr):Sp:=fun vs H Q _=>∃(g p d:Addr) (hs:List (Str × Int)) (ts:List (Str × Str)) (qs:List Pc) (fp:List Addr) (ns:List Str) (f:Str->Str) (h:Str),vs=[.ref g,.ref d,.str h]/\Std K CG CW H g p d hs ts qs fp ns f/\h∈hs.map (·.1) /\
 ∀l H',Same H H'->H l=none->H' l=some (.lst (((qs.map (·.1)).filter fun n=>decide (f n=h)).map V.str))->Q (.ref l) H'
theorem en_{f CG CW:Addr}{fd:FuncData}(F:Fun K "pieces_at" "pieces_at" sPiecesAt f fd)(T:TxtG K CG)(TW:Txt K mg CW)(cC:Cal P w K mg base 2 "checked_stand" ["goods","stand"] (spCStand K CG CW))(cW:CalM P w K mg base CW 1 "has_hand" ["self","thing"] (spHas K CW)):FnOk P w K mg base CX0 3 f fd ["goods","stand","hand"] (spPiecesAt K CG CW):=by
 refine F.ok scPiecesAt (fun vs H Q E h=>?_) (fun cdv A outer s H vs Q E hr h=>?_)
 ·obtain⟨g,p,d,hs,ts,qs,fp,ns,f,h,rfl,_⟩:=h
  rfl
 ·obtain⟨g,p,d,hs,ts,qs,fp,ns,f,h,rfl,S,hm,k⟩:=h
  have hu:=b1_ hr
  have sz:=sizeLine_eq
  have h64:=S.h64
  refine' ⟨_,?r0,?kk⟩
  case' r0=>refine' a3_ ?s1 (a3_ ?s2 (a5_ ?s3))
  case s1=>exact ab_ (i:=3) scPiecesAt.nd rfl (Or.inr rfl) (a9_ cC hr (a0_ (pv 0) (a0_ (pv 1) a2_)))
  case s2=>exact ax_ (aC_ (aH_ (cl_ cW TW.cl (hr.mono (by decide)) (aP_ (pv 0) rfl) (a0_ (pv 2) a2_)))) ae_ af_
  case s3=>exact ad_ (aI_ ["piece","hand","placed"] 1 [2,3] (ek_ (pv 3)) (fun fp s H=>a8_ (i:=0) (show (["piece","hand","placed"]:List Str).Nodup by decide +kernel) rfl (Or.inl rfl)) (fun fp s H=>ep_ (ap_ fy_ (aJ_ hu (pv 2) (pv 0) (fun _ _=>rfl)) (pv 1) (nomark _))) (fun fp s H=>pv 0))
  case' kk=>skip
  refine⟨_,rfl,_,rfl,g,p,d,hs,ts,qs,fp,ns,f,rfl,S.G,S.dfp,S.hd,S.ok,S.nd,S.h64,fun d1 H1 s1 n1 e1=>?_⟩
  have G1:=S.G.same s1
  obtain⟨dx,dw,dy,vs,fpw,h1,h2,h3,h4,h5,m1,m2,m3,m4,m5⟩:=id G1.ex
  obtain⟨dxw,d1',l2,d3,zs0,as,ef,w1,_⟩:=id h2.ex
  have hnw:(flds d1' l2 d3).lookup ("has_hand":Str)=none:=b5_ _ _ _ (by decide +kernel) (by decide +kernel) (by decide +kernel)
  refine⟨_,rfl,g,CG,dx,_,_,rfl,h1,T.cl,T.nW,bm_ _ _ _,p,dxw,_,rfl,w1,hnw,_,rfl,p,h,hs,ts,fpw,rfl,h2,_,rfl,?_⟩
  rw[decide_eq_true hm]
  refine iteF ?_
  refine⟨_,rfl,d1,_,rfl,e1,fun o D hD=>?_⟩
  have sf:Same H (upd H1 d1 (.frz o (.dK (stF (qs.map (·.1)) f)))):=al_ s1 n1
  have ef2:upd H1 d1 (.frz o (.dK (stF (qs.map (·.1)) f))) d1=some (.frz o (.dK (stF (qs.map (·.1)) f))):=a1_
  generalize upd H1 d1 (.frz o (.dK (stF (qs.map (·.1)) f)))=H2 at sf ef2 hD ⊢
  refine gy_ (own:=1) (fv:=[some (.str h),some (.ref d1)]) rfl gok1 (fun i out H'=>Same H2 H'/\H' D=some (.lst out)/\out=(((qs.map (·.1)).take i).filter fun n=>decide (f n=h)).map V.str) ⟨Same.new hD,a1_,rfl⟩ (fun i out H' _ ⟨sm,_,_⟩=>sm _ _ ef2) (fun out H5 ⟨sm,hD5,eo⟩=>?_) (fun i ky x out H' hx ⟨sm,hD',eo⟩=>?_)
  ·rw[aL_,List.take_length] at eo
   rw[eo] at hD5
   exact k D H5 (sf.trans sm) (sf.free hD) hD5
  ·obtain⟨n,hn,rfl,rfl⟩:=cd_ hx
   have nm:=List.mem_of_getElem? hn
   refine⟨_,rfl,rfl,fun Nx hN=>?_⟩
   refine⟨_,rfl,_,rfl,d1,.str (f n),rfl,?_,_,rfl,rfl,_,rfl,?_⟩
   ·rw[<- bu_ (g:=fun n=>V.str (f n)) nm]
    exact .inl ⟨_,Sum.inr n,.inr ⟨o,sm _ _ ef2⟩,rfl,rfl⟩
   have lo:out.length<=64:=by
    rw[eo,List.length_map]
    have:=List.length_filter_le (fun n=>decide (f n=h)) ((qs.map (·.1)).take i)
    rw[List.length_take,List.length_map] at this
    omega
   refine ite2 (fun c=>?_) (fun c=>?_)
   ·have c:f n=h:=by simpa using c
    refine⟨_,rfl,out,hD',by omega,hN _ _ ⟨al_ sm hD,a1_,?_⟩⟩
    rw[aW_ hn,List.filter_append,List.map_append,eo]
    simp[c]
    rfl
   ·have c:¬f n=h:=by simpa using c
    refine hN out _ ⟨sm,hD',?_⟩
    rw[aW_ hn,List.filter_append,List.map_append,eo]
    simp[c]
theorem scStand:FnScope ["_law_state","_law_pieces_here","_law_hands","_law_stand_here","_law_piece"] ["_law_state","_law_pieces_here","_law_hands"] (defScope sStand):=⟨rfl,rfl,rfl,by decide +kernel,rfl,by decide +kernel,by decide +kernel⟩
def spStand(K:PySem.W.Frag):Sp:=fun vs H Q _=>∃(l lp lh:Addr) (yp yh:List V) (ps:List Pc) (hs:List (Str × Int)),vs=[.ref l,.ref lp,.ref lh]/\stt H l/\H lp=some (.lst yp)/\lp≠l/\PcsAt K H yp ps/\H lh=some (.lst yh)/\lh≠l/\TupsAt K H yh (hs.map kH)/\0<hs.length/\hs.length<=8/\ps.length<=30/\(ps.map (·.1)).Nodup /\
 ∀d f H',But l H H'->stt H' l->H d=none->H' d=some (.dK (stF (ps.map (·.1)) f))->(∀n∈ps.map (·.1),f n∈hs.map (·.1))->Q (.ref d) H'
theorem he_{f:Addr}{fd:FuncData}(F:Fun K "_law_stand" "_law_stand" sStand f fd)(B:Bi mg)(cD:Cal P w K mg base 1 "_law_digit" ["_law_state","_law_base"] spDigit):FnOk P w K mg base CX0 2 f fd ["_law_state","_law_pieces_here","_law_hands"] (spStand K):=by
 refine F.ok scStand (fun vs H Q E h=>?_) (fun cdv A outer s H vs Q E hr h=>?_)
 ·obtain⟨l,lp,lh,yp,yh,ps,hs,rfl,_⟩:=h
  rfl
 ·obtain⟨l,lp,lh,yp,yh,ps,hs,rfl,st,hlp,lpl,pc,hlh,lhl,th,h0,h8,h30,nd,k⟩:=h
  have hu:=b1_ hr
  have sz:=sizeLine_eq
  refine' ⟨_,?r0,?kk⟩
  case' r0=>refine' a3_ ?s1 (a3_ ?s2 (a5_ ?s3))
  case s1=>exact ab_ (i:=3) scStand.nd rfl (Or.inl rfl) bA_
  case s2=>exact aM_ PassesOwn.never rfl (aj_ (pv 1)) (a8_ (i:=4) scStand.nd rfl (Or.inl rfl)) (a5_ (bt_ hu (pv 3) (aA_ aG_ (pv 4) a6_ (fun _ _=>rfl)) (aA_ aG_ (aA_ aN_ (pv 2) (a9_ cD hr (a0_ (pv 0) (a0_ (ac_ an_ (by rfl) B.len PySem.boot_len (a0_ (pv 2) a2_)) a2_))) (fun _ _=>rfl)) a6_ (fun _ _=>rfl)) rfl))
  case s3=>exact ad_ (pv 3)
  case' kk=>skip
  have lyp:=Paired.length pc
  have lyh:=Paired.length th
  rw[List.length_map] at lyh
  intro d hd
  have s1:=Same.new (o:=.dK []) hd
  have dl:d≠l:=by
   obtain⟨xs,e⟩:=st.some
   exact (a4_ e hd).symm
  have b1:But l H (upd H d (.dK [])):=But.of s1
  have e1:upd H d (.dK []) d=some (.dK []):=a1_
  have st1:=st.same s1
  show tSeq _ _ _ _ (upd H d (.dK []))
  generalize upd H d (.dK [])=H1 at b1 e1 st1 s1 ⊢
  obtain⟨xs0,hl0⟩:=st.some
  have lpd:lp≠d:=a4_ hlp hd
  refine⟨_,rfl,lp,rfl,⟨_,.of (s1 _ _ hlp)⟩,aR_ (K:=K) (a:=lp) (xs:=yp) (fun i σ H'=>∃(v4:Option V) (f:Str->Str),σ=[some (.ref l),some (.ref lp),some (.ref lh),some (.ref d),v4]/\But l H H'/\stt H' l/\H' d=some (.dK (stF ((ps.map (·.1)).take i) f))/\∀n∈(ps.map (·.1)).take i,f n∈hs.map (·.1)) ⟨none,fun n=>n,rfl,b1,st1,e1,fun n hn=>by simp at hn⟩ (fun i σ H' _ ⟨_,_,_,b,_⟩=>.of (b _ _ hlp lpl)) ?_ ?_⟩
  ·rintro i y σ H2 hy ⟨v4,f,rfl,b2,st2,e2,fm⟩
   have hi:i<yp.length:=(List.getElem?_eq_some_iff.mp hy).1
   have hip:i<ps.length:=by omega
   obtain⟨t,v,et,ht,_⟩:=ah_ pc i hi hip
   rw[(List.getElem?_eq_some_iff.mp hy).2] at et
   subst et
   have hn:(ps.map (·.1))[i]? = some (ps[i]'hip).1:=by rw[List.getElem?_map,List.getElem?_eq_getElem hip];rfl
   generalize ps[i]'hip=q at ht hn
   have tl:t≠l:=az_ ht hl0 (by intro z;cases z)
   refine⟨_,rfl,_,rfl,_,rfl,lh,_,rfl,.inl (.of (b2 _ _ hlh lhl)),l,(yh.length:Int),rfl,by omega,by omega,st2,fun j H3 j0 j1 b3 st3=>?_⟩
   obtain⟨j,rfl⟩:=Int.eq_ofNat_of_zero_le j0
   have b13:=b2.trans b3
   have hj:j<yh.length:=by omega
   have hyj:yh[j]? = some (yh[j]'hj):=List.getElem?_eq_getElem hj
   obtain⟨h,hh,a,ea,ha⟩:=aD_ th hyj
   have al:a≠l:=az_ ha hl0 (by intro z;cases z)
   have ha3:=hpH (b13 _ _ ha al)
   have ht3:=b13 _ _ ht tl
   have e3:=b3 _ _ e2 dl
   refine⟨lh,_,_,.ref a,rfl,rfl,.of (b13 _ _ hlh lhl),by rw[atI_nat (by omega) (by omega),Int.toNat_natCast,hyj,ea],a,_,0,_,rfl,rfl,.of ha3,rfl,?_⟩
   refine⟨_,rfl,_,rfl,t,_,0,_,rfl,rfl,.of ht3,rfl,d,_,rfl,.k (k:=Sum.inr q.1) e3 (by rw[aL_,List.length_take,List.length_map];omega),?_⟩
   refine⟨_,fun m=>if m=q.1 then h.1 else f m,rfl,fun b o e nb=>?_,?_,?_,?_⟩
   ·rw[a7_ (a4_ e hd)]
    exact b13 _ _ e nb
   ·exact jh_ st3 dl
   ·rw[a1_,aW_ hn,er_ (do_ nd hn)]
    congr 2
    refine cR_ fun m _=>?_
    by_cases z:m=q.1
    ·simp[z]
    ·simp[z]
   ·intro m hm
    rw[aW_ hn] at hm
    show (if m=q.1 then h.1 else f m)∈_
    by_cases z:m=q.1
    ·rw[if_pos z]
     exact List.mem_map.mpr ⟨h,List.mem_of_getElem? hh,rfl⟩
    ·rw[if_neg z]
     rcases List.mem_append.mp hm with hm|hm
     ·exact fm m hm
     ·exact absurd (by simpa using hm) z
  ·rintro σ H2 ⟨v4,f,rfl,b2,st2,e2,fm⟩
   rw[lyp,<- List.length_map (f:=fun q:Pc=>q.1),List.take_length] at e2 fm
   exact⟨_,rfl,k d f H2 b2 st2 hd e2 fm⟩
end
end Ev
set_option Elab.async false
set_option linter.all false
set_option maxRecDepth 100000
namespace Ev
open PySem L2
section
variable{a b:Addr}{H H1 H2:Hp}{u:HO}
end
theorem fh_{K:PySem.W.Frag}{H:Hp}{L:Str->Int}:∀{ns:List Str} {ys:List V},PairsAt K H ys (mKV ns fun n=>.int (L n))->Paired (r2 K rS rZ H) ys (ns.map fun n=>(n,L n))
 |[],_,.nil=>.nil
 |_::_,_,.cons ⟨a,e,ha⟩ r=>.cons ⟨a,_,_,e,.of ha,rfl,rfl⟩ (fh_ r)
theorem h2_{K:PySem.W.Frag}{H:Hp}{F:Str->Int × Int}{gg:Str->V}:∀{ns:List Str} {ys:List V},PairsAt K H ys (mKV ns gg)->HtOk H ns gg F->Paired (r2 K rS (r2 K rZ rZ) H) ys (ns.map fun n=>(n,F n))
 |[],_,.nil,_=>.nil
 |n::_,_,.cons ⟨a,e,ha⟩ r,h=>by
  obtain⟨t,et,ht⟩:=h n List.mem_cons_self
  exact .cons ⟨a,_,_,e,.of ha,rfl,⟨t,_,_,et,.of ht,rfl,rfl⟩⟩ (h2_ r fun x hx=>h x (List.mem_cons_of_mem _ hx))
theorem ca_{K:PySem.W.Frag}{H H':Hp}{ys:List V}{kvs:List (Key × V)}(h:PairsAt K H ys kvs)(s:Same H H'):PairsAt K H' ys kvs:=Paired.mapP h fun _ _ ⟨a,e,q⟩=>⟨a,e,s _ _ q⟩
end Ev
set_option Elab.async false
set_option linter.all false
set_option maxRecDepth 100000
namespace Ev
open PySem L2
theorem seqG{t u:TS}{D:Ends}{σ:St}{H:Hp}(R:St->Hp->Prop)(later:∀σ H,R σ H->u D σ H)(now:∀N:St->Hp->Prop,(∀σ H,R σ H->N σ H)->t { D with nx:=N } σ H):tSeq t u D σ H:=now (u D) later
theorem setG{i:Nat}{v:V}{σ:St}{H:Hp}{N:St->Hp->Prop}(h:N (σ.set i (some v)) H):gName i v σ H N:=h
structure CalC (P:Program) (w:World) (K:PySem.W.Frag) (mg:Str->Option Value) (base:Heap) (C:Addr) (k:Nat) (x:Str) (ps:List Str) (sp:Sp):Prop where
 ex:∃f fd,FnOk P w K mg base CX0 k f fd ps sp/\Mk K C f/\mg x=some (.ref C)/\Binds K fd ps []
theorem dY_{X:Cx}{C:Addr}{k:Nat}{x:Str}{ps:List Str}{sp:Sp}{p pos:Pos}{e:Expr}{es:List Expr}{t:TA}(c:CalC X.prog X.w X.K X.mg X.base C k x ps sp)(hr:Room (k+1) X.A)(ha:PA X (e::es) t)(hg:Gl X x:=by rfl)(hdb:(x == ("__debug__":Str))=false:=by decide)
  (he:starEach (e::es) X.env=(false,eval e X.env)::starEach es X.env:=by rfl) (hpl:(backTo pos (starEach es X.env)).any (·.1)=false:=by rfl):PE X (.Call (.Name x p) (e::es) [] pos) (tMake C sp [] E0 t):=by
 obtain⟨f,fd,F,M,m,b⟩:=c.ex
 exact iI_ M F hr hg m b .nil pass0 ha hdb he hpl
structure Lay (K:PySem.W.Frag) (CG CW:Addr) (H:Hp) (lh lp g p:Addr) (yh yp:List V) (hs:List (Str × Int)) (ts:List (Str × Str)) (ps qs:List Pc) (fp:List Addr):Prop where
 hh:H lh=some (.lst yh)
 th:TupsAt K H yh (hs.map kH)
 hp:H lp=some (.lst yp)
 pc:PcsAt K H yp ps
 G:GoodsAt K CG CW H g p hs ts qs fp
structure Sure (hs:List (Str × Int)) (ts:List (Str × Str)) (ps qs:List Pc):Prop where
 Gd:Good hs ts
 gp:∀q∈ps,GoodP ts q
 nd:(ps.map (·.1)).Nodup
 h30:ps.length<=30
 Q:Qs ps qs
end Ev
set_option Elab.async false
set_option linter.all false
set_option maxRecDepth 100000
namespace L2
open PySem PySem.Spec PyProof.Rows PySem.W
theorem fF_{d:Addr}{o:Obj}{kvs:List (Key × V)}{g:TG}{tc:TT}{te:TE}{own:Nat}{fv:List (Option V)}{dec:V->Hp->List (Option V)->Prop}{D:Addr}{H:Hp}{Q:VK}{σ0:St}(hσ:σ0=List.replicate own none++fv)(G:GOk g own fv dec)(Pv:Nat->List V->Hp->Prop)
  (h0:Pv 0 [] (upd H D (.lst []))) (hl:∀i out H',i<=kvs.length->Pv i out H'->H' d=some (.frz o (.dK kvs))) (hd:∀out H',Pv kvs.length out H'->Q (.ref D) H')
  (hgo:∀i k x out H',kvs[i]? = some (k,x)->Pv i out H'->∀t,H' t=none->∃o3,dec (.ref t) (upd H' t (.tup [kV k,x])) o3/\o3.length=own/\∀Nx:Hp->Prop,(∀out' H2,Pv (i+1) out' H2->Nx H2)->
   tc (o3++fv) (upd H' t (.tup [kV k,x])) fun b H4=>if b=true then te (o3++fv) H4 fun y H5=>∃out2,H5 D=some (.lst out2)/\out2.length<sizeLine/\Nx (upd H5 D (.lst (out2++[y]))) else Nx H4) :
  CompW (Itm d o kvs) g tc te σ0 D H Q:=by
 refine cz_ hσ G kvs.length Pv h0 (fun out H' p=>⟨⟨hl _ _ _ (Nat.le_refl _) p,Nat.le_refl _⟩,hd out H' p⟩) fun i out H' hi p=>?_
 have q:=hl i out H' (Nat.le_of_lt hi) p
 refine⟨⟨q,hi⟩,fun x H2 y=>?_⟩
 obtain⟨t,k,v,rfl,ht,hx,rfl⟩:=y
 exact hgo i k v out H' hx p t ht
section
variable{X:Cx}
end
end L2
namespace Ev
open PySem L2
def lcmI(a n:Int):Int:=a / (Int.gcd a n:Int) * n
theorem iU_{a n:Int}(ha:0<a)(hn:0<n):lcmI a n=(Int.lcm a n:Int):=by
 obtain⟨p,rfl⟩:=Int.eq_ofNat_of_zero_le (Int.le_of_lt ha)
 obtain⟨q,rfl⟩:=Int.eq_ofNat_of_zero_le (Int.le_of_lt hn)
 show ((p:Int) / ((Nat.gcd p q:Nat):Int)) * (q:Int)=((Nat.lcm p q:Nat):Int)
 rw[<- Int.natCast_ediv,<- Int.natCast_mul,Nat.div_mul_right_comm (Nat.gcd_dvd_left p q)]
 rfl
def lcmL(ns:List Int):Int:=ns.foldl lcmI 1
theorem cr_:∀(ns:List Int) (a:Int),0<a->(∀n∈ns,0<n)->0<ns.foldl lcmI a/\∀x:Int,0<=x->(ns.foldl lcmI a ∣ x ↔ a ∣ x/\∀n∈ns,n ∣ x)
 |[],a,ha,_=>⟨ha,fun x _=>by simp⟩
 |n::ns,a,ha,h=>by
  have hn:=h n List.mem_cons_self
  have e:=iU_ ha hn
  have p:0<lcmI a n:=by
   rw[e]
   have:=Nat.lcm_pos (m:=a.natAbs) (n:=n.natAbs) (by omega) (by omega)
   have:0<Int.lcm a n:=this
   omega
  obtain⟨h1,h2⟩:=cr_ ns (lcmI a n) p fun m hm=>h m (List.mem_cons_of_mem _ hm)
  refine⟨h1,fun x hx=>(h2 x hx).trans ?_⟩
  obtain⟨z,rfl⟩:=Int.eq_ofNat_of_zero_le hx
  rw[e,Int.natCast_dvd_natCast,Int.lcm_dvd_iff]
  constructor
  ·rintro⟨⟨q1,q2⟩,q3⟩
   exact⟨q1,fun m hm=>by
    rcases List.mem_cons.mp hm with rfl|hm
    ·exact q2
    ·exact q3 m hm⟩
  ·rintro⟨q1,q2⟩
   exact⟨⟨q1,q2 n List.mem_cons_self⟩,fun m hm=>q2 m (List.mem_cons_of_mem _ hm)⟩
theorem dq_{ns:List Int}(h:∀n∈ns,0<n):0<lcmL ns:=(cr_ ns 1 (by decide) h).1
theorem i0_{ns:List Int}(h:∀n∈ns,0<n){n:Int}(hn:n∈ns):n ∣ lcmL ns:=
 (((cr_ ns 1 (by decide) h).2 _ (Int.le_of_lt (dq_ h))).mp (Int.dvd_refl _)).2 n hn
theorem dk_(f:Str->Str)(x:Str × Int)(ws:List (Str × Int))(h:Str):ld f (x::ws) h=(if f x.1=h then x.2 else 0)+ld f ws h:=by
 unfold ld
 by_cases e:f x.1=h
 ·simp[e]
 ·simp[e]
theorem iq_{ns:List Str}(F G:Str->Int):(ns.map fun h=>F h+G h).sum=(ns.map F).sum+(ns.map G).sum:=by
 induction ns with
 |nil=>rfl
 |cons n ns ih=>
  simp only[List.map_cons,List.sum_cons,ih]
  omega
theorem hm_{ns:List Str}{a:Str}(h:a∉ns)(x:Int):(ns.map fun h=>if h=a then x else 0).sum=0:=by
 induction ns with
 |nil=>rfl
 |cons n ns ih=>
  rw[List.mem_cons] at h
  simp only[List.map_cons,List.sum_cons]
  rw[ih fun z=>h (.inr z),if_neg fun z=>h (.inl z.symm)]
  rfl
theorem iy_{ns:List Str}{a:Str}(nd:ns.Nodup)(h:a∈ns)(x:Int):(ns.map fun h=>if h=a then x else 0).sum=x:=by
 induction ns with
 |nil=>cases h
 |cons n ns ih=>
  obtain⟨n1,n2⟩:=List.nodup_cons.mp nd
  simp only[List.map_cons,List.sum_cons]
  by_cases z:n=a
  ·subst z
   rw[if_pos rfl,hm_ n1]
   omega
  ·rw[if_neg z,ih n2 (by rcases List.mem_cons.mp h with q|q;exact absurd q.symm z;exact q)]
   omega
def sumF(ns:List Str)(L c:Str->Int):Int:=(ns.map fun h=>L h * (L h * c h)).sum
end Ev
set_option Elab.async false
set_option linter.all false
set_option maxRecDepth 100000
namespace Ev
open PySem L2
theorem jm_{f:Str->Str}{h:Str}:∀{ws:List (Str × Int)},(∀x∈ws,0<=x.2/\x.2<=1000000000)->ld f ws h<=1000000000 * ws.length
 |[],_=>by
  unfold ld
  simp
 |x::ws,p=>by
  have h1:=p x List.mem_cons_self
  have h2:=jm_ (f:=f) (h:=h) (ws:=ws) fun y hy=>p y (List.mem_cons_of_mem _ hy)
  rw[dk_,List.length_cons]
  by_cases z:f x.1=h
  ·rw[if_pos z]
   omega
  ·rw[if_neg z]
   omega
def mulOf(hs:List (Str × Int)):Int:=lcmL ((nmsOf hs).map (strOf hs))
theorem bF_{hs:List (Str × Int)}{ts:List (Str × Str)}(G:Good hs ts){n:Str}(h:n∈nmsOf hs):1<=strOf hs n/\strOf hs n<=1000:=(G.hok _ (b7_ ((ak_ hs).mem_iff.mp h))).2
section
variable{P:Program}{w:World}{K:PySem.W.Frag}{mg:Str->Option Value}{base:Heap}
theorem scLM:FnScope ["numbers","found","number"] ["numbers"] (defScope sLM):=⟨rfl,rfl,rfl,by decide +kernel,rfl,by decide +kernel,by decide +kernel⟩
def spLM(K:PySem.W.Frag):Sp:=fun vs H Q _=>∃(l:Addr) (ns:List Int),vs=[.ref l]/\SqL K H l (ns.map V.int)/\(∀n∈ns,1<=n/\n<=1000)/\Q (.int (lcmL ns)) H
theorem hD_{ns:List Int}{i:Nat}{n:Int}(h:ns[i]? = some n):lcmL (ns.take (i+1))=lcmI (lcmL (ns.take i)) n:=by
 unfold lcmL
 rw[List.take_add_one,h,List.foldl_append]
 rfl
theorem ew_{ns:List Int}{i:Nat}{y:V}(h:(ns.map V.int)[i]? = some y):∃n,ns[i]? = some n/\y=.int n:=by
 rw[List.getElem?_map] at h
 cases e:ns[i]? with
 |none=>rw[e] at h;cases h
 |some n=>rw[e] at h;exact⟨n,rfl,(Option.some.inj h).symm⟩
theorem k3_{f:Addr}{fd:FuncData}(F:Fun K "least_multiple" "least_multiple" sLM f fd)(cG:Cal P w K mg base 1 "greatest_divisor" ["one","other"] spGd):FnOk P w K mg base CX0 2 f fd ["numbers"] (spLM K):=by
 refine F.ok scLM (fun vs H Q E h=>?_) (fun cdv A outer s H vs Q E hr h=>?_)
 ·obtain⟨l,ns,rfl,_⟩:=h
  rfl
 ·obtain⟨l,ns,rfl,hl,b,k⟩:=h
  refine' ⟨_,a3_ ?s1 (a3_ ?s2 (a5_ ?s3)),?kk⟩
  case s1=>exact ab_ (i:=1) scLM.nd rfl (Or.inl rfl) a6_
  case s2=>exact aM_ PassesOwn.never rfl (aj_ (pv 0)) (a8_ (i:=2) scLM.nd rfl (Or.inl rfl)) (a5_ (ab_ (i:=1) scLM.nd rfl (Or.inl rfl) (ai_ b8_ (ai_ bf_ (pv 1) (a9_ cG hr (a0_ (pv 1) (a0_ (pv 2) a2_)))) (pv 2))))
  case s3=>exact ad_ (pv 1)
  case' kk=>skip
  refine⟨_,rfl,l,rfl,⟨_,hl⟩,aR_ (K:=K) (a:=l) (xs:=ns.map V.int) (fun i σ H'=>H'=H/\∃(v2:Option V),σ=[some (.ref l),some (.int (lcmL (ns.take i))),v2]) ⟨rfl,none,rfl⟩ (fun i σ H' _ ⟨e,_⟩=>by rw[e];exact hl) ?_ ?_⟩
  ·rintro i y σ H' hy ⟨rfl,v2,rfl⟩
   obtain⟨n,hn,rfl⟩:=ew_ hy
   have bn:=b n (List.mem_of_getElem? hn)
   have p:=dq_ (ns:=ns.take i) fun m hm=>by
    have:=b m (List.take_subset _ _ hm)
    omega
   refine⟨_,rfl,_,rfl,_,rfl,_,_,rfl,Int.le_of_lt p,by omega,_,_,rfl,rfl,jS_ (by omega) bn.2,_,rfl,_,_,rfl,rfl,.inr ⟨by omega,by omega⟩,rfl,some (.int n),?_⟩
   rw[hD_ hn]
   rfl
  ·rintro σ H' ⟨rfl,v2,rfl⟩
   refine⟨_,rfl,?_⟩
   rw[List.length_map,List.take_length]
   exact k
theorem scMult:FnScope ["web"] ["web"] (defScope sMult):=⟨rfl,rfl,rfl,by decide +kernel,rfl,by decide +kernel,by decide +kernel⟩
def spMult(K:PySem.W.Frag)(C:Addr):Sp:=fun vs H Q _=>∃(p:Addr) (hs:List (Str × Int)) (ts:List (Str × Str)) (fp:List Addr),vs=[.ref p]/\WebAt K C H p hs ts fp/\Good hs ts/\∀H',Same H H'->Q (.int (mulOf hs)) H'
theorem iX_{f CW:Addr}{fd:FuncData}(F:Fun K "multiple_of_strengths" "multiple_of_strengths" sMult f fd)(TW:Txt K mg CW)(cL:Cal P w K mg base 2 "least_multiple" ["numbers"] (spLM K))(cH:CalM P w K mg base CW 1 "hands" ["self"] (spHands K CW))(cS:CalM P w K mg base CW 2 "strength" ["self","hand"] (spStrength K CW)):FnOk P w K mg base CX0 3 f fd ["web"] (spMult K CW):=by
 refine F.ok scMult (fun vs H Q E h=>?_) (fun cdv A outer s H vs Q E hr h=>?_)
 ·obtain⟨p,hs,ts,fp,rfl,_⟩:=h
  rfl
 ·obtain⟨p,hs,ts,fp,rfl,W,G,k⟩:=h
  have sz:=sizeLine_eq
  have nl:=G.nlen
  have h8:=G.h8
  refine' ⟨_,a5_ (ad_ (a9_ cL hr (a0_ (aI_ ["hand","web"] 1 [0] (aj_ (bV_ cH TW.cl (hr.mono (by decide)) (pv 0))) (fun fp s H=>a8_ (i:=0) (show (["hand","web"]:List Str).Nodup by decide +kernel) rfl (Or.inl rfl)) (fun fp s H=>au_) (fun fp s H=>?e1)) a2_))),?kk⟩
  case e1=>exact cl_ cS TW.cl hr (pv 1) (a0_ (pv 0) a2_)
  case' kk=>skip
  obtain⟨dxw,d1,l2,d3,zs0,as,ef,w1,_⟩:=id W.ex
  refine⟨_,rfl,p,dxw,_,rfl,w1,b5_ _ _ _ (by decide +kernel) (by decide +kernel) (by decide +kernel),p,hs,ts,fp,rfl,W,fun lh hlh=>?_⟩
  have s1:=Same.new (o:=.lst ((nmsOf hs).map V.str)) hlh
  have e1:upd H lh (.lst ((nmsOf hs).map V.str)) lh=some (.lst ((nmsOf hs).map V.str)):=a1_
  generalize upd H lh (.lst ((nmsOf hs).map V.str))=H1 at s1 e1 ⊢
  refine⟨lh,rfl,⟨_,.of e1⟩,fun D hD=>?_⟩
  refine aq_ (own:=1) (fv:=[some (.ref p)]) (xs:=(nmsOf hs).map V.str) rfl gok1 (fun i out H'=>Same H1 H'/\H' D=some (.lst out)/\out=(((nmsOf hs).take i).map (strOf hs)).map V.int) ⟨Same.new hD,a1_,rfl⟩ (fun i out H' _ ⟨sm,_,_⟩=>.of (sm _ _ e1)) (fun out H5 ⟨sm,hD5,eo⟩=>?_) (fun i y out H' hy ⟨sm,hD',eo⟩=>?_)
  ·rw[List.length_map,List.take_length] at eo
   rw[eo] at hD5
   refine⟨D,_,rfl,.of hD5,fun n hn=>?_,k H5 (s1.trans sm)⟩
   obtain⟨m,hm,rfl⟩:=List.mem_map.mp hn
   exact bF_ G hm
  ·obtain⟨n,hn,rfl⟩:=av_ hy
   have hi:i<(nmsOf hs).length:=(List.getElem?_eq_some_iff.mp hn).1
   refine⟨_,rfl,rfl,fun Nx hN=>yesT ?_⟩
   have W':=(W.same s1).same sm
   obtain⟨dxw,d1,l2,d3,zs0,as,ef,w1,_⟩:=id W'.ex
   refine⟨_,rfl,p,dxw,_,rfl,w1,b5_ _ _ _ (by decide +kernel) (by decide +kernel) (by decide +kernel),_,rfl,p,n,strOf hs n,hs,ts,fp,rfl,W',G.hnd,b7_ ((ak_ hs).mem_iff.mp (List.mem_of_getElem? hn)),?_⟩
   refine⟨out,hD',by rw[eo,List.length_map,List.length_map,List.length_take];omega,hN _ _ ⟨al_ sm hD,a1_,?_⟩⟩
   rw[aW_ hn,List.map_append,List.map_append,eo]
   rfl
theorem scLevels:FnScope ["goods","placed","multiple","found","hand","load"] ["goods","placed"] (defScope sLevels):=⟨rfl,rfl,rfl,by decide +kernel,rfl,by decide +kernel,by decide +kernel⟩
def lvF(hs:List (Str × Int))(qs:List Pc)(f:Str->Str)(h:Str):Int:=ld f (qs.map wOf) h * (mulOf hs / strOf hs h)
def spLevels(K:PySem.W.Frag)(CG CW:Addr):Sp:=fun vs H Q _=>∃(g p d:Addr) (hs:List (Str × Int)) (ts:List (Str × Str)) (qs:List Pc) (fp:List Addr) (f:Str->Str),vs=[.ref g,.ref d]/\Placed K CG CW H g p d hs ts qs fp f/\(∀q∈qs,0<=q.2.1/\q.2.1<=1000000000) /\
 ∀d' H',Same H H'->H d'=none->H' d'=some (.dK (mKV (nmsOf hs) fun h=>.int (lvF hs qs f h)))->Q (.ref d') H'
theorem hJ_{qs:List Pc}(wp:∀q∈qs,0<=q.2.1/\q.2.1<=1000000000)(h64:qs.length<64)(f:Str->Str)(h:Str):0<=ld f (qs.map wOf) h/\ld f (qs.map wOf) h<=64000000000:=by
 have p:∀x∈qs.map wOf,0<=x.2/\x.2<=1000000000:=fun x hx=>by
  obtain⟨q,hq,rfl⟩:=List.mem_map.mp hx
  exact wp q hq
 have h1:=jm_ (f:=f) (h:=h) p
 rw[List.length_map] at h1
 exact⟨id_ fun x hx=>(p x hx).1,by omega⟩
theorem h9_{f CG CW:Addr}{fd:FuncData}(F:Fun K "levels_at" "levels_at" sLevels f fd)(T:TxtG K CG)(TW:Txt K mg CW)(cL:Cal P w K mg base 3 "loads_at" ["goods","placed"] (spLoadsAt K CG CW))(cM:Cal P w K mg base 3 "multiple_of_strengths" ["web"] (spMult K CW))(cS:CalM P w K mg base CW 2 "strength" ["self","hand"] (spStrength K CW)) :
  FnOk P w K mg base CX0 4 f fd ["goods","placed"] (spLevels K CG CW):=by
 refine F.ok scLevels (fun vs H Q E h=>?_) (fun cdv A outer s H vs Q E hr h=>?_)
 ·obtain⟨g,p,d,hs,ts,qs,fp,f,rfl,_⟩:=h
  rfl
 ·obtain⟨g,p,d,hs,ts,qs,fp,f,rfl,Pl,wp,k⟩:=h
  have hu:=b1_ hr
  have sz:=sizeLine_eq
  have hr2:Room 2 _:=hr.mono (by decide)
  refine' ⟨_,?r0,?kk⟩
  case' r0=>refine' a3_ ?s0 (a3_ ?s1 (a3_ ?s2 ?r2))
  case s0=>exact ab_ (i:=2) scLevels.nd rfl (Or.inl rfl) (a9_ cM hr (a0_ (aP_ (pv 0) rfl) a2_))
  case s1=>exact ab_ (i:=3) scLevels.nd rfl (Or.inl rfl) bA_
  case' s2=>refine' aM_ PassesOwn.never rfl ?i2 ?g2 (a5_ ?b2)
  case i2=>exact bP_ (aZ_ (a9_ cL hr (a0_ (pv 0) (a0_ (pv 1) a2_))))
  case g2=>exact bH_ rfl (aa_ (a8_ (i:=4) scLevels.nd rfl (Or.inl rfl)) (aa_ (a8_ (i:=5) scLevels.nd rfl (Or.inl rfl)) aF_))
  case b2=>exact bt_ hu (pv 3) (pv 4) (ai_ b8_ (pv 5) (ai_ bf_ (pv 2) (cl_ cS TW.cl hr2 (aP_ (pv 0) rfl) (a0_ (pv 4) a2_)))) rfl
  case r2=>exact a5_ (ad_ (pv 3))
  case' kk=>skip
  have nl:=Pl.Gd.nlen
  have h8:=Pl.Gd.h8
  obtain⟨dx,dw,dy,vs,fpw,h1,h2,_⟩:=id Pl.G.ex
  refine⟨_,rfl,g,CG,dx,_,_,rfl,h1,T.cl,T.nW,bm_ _ _ _,p,hs,ts,fpw,rfl,h2,Pl.Gd,fun H0 s0=>?_⟩
  intro d2 hd2
  have s1:=s0.trans (Same.new (o:=.dK []) hd2)
  have e1:upd H0 d2 (.dK []) d2=some (.dK []):=a1_
  have n2:H d2=none:=s0.free hd2
  show tSeq _ _ _ _ (upd H0 d2 (.dK []))
  generalize upd H0 d2 (.dK [])=H1 at s1 e1 ⊢
  have Pl1:Placed K CG CW H1 g p d hs ts qs fp f:=⟨Pl.G.same s1,Pl.Gd,Pl.dfp,s1 _ _ Pl.hd,Pl.at_,Pl.nd,Pl.h64⟩
  refine⟨_,rfl,_,rfl,g,p,d,hs,ts,qs,fp,f,rfl,Pl1,fun dl H2 s2 hdl e2=>?_⟩
  refine⟨dl,_,rfl,e2,fun v hv=>?_⟩
  have s3:=Same.new (o:=itemsV v dl) hv
  have hv1:upd H2 v (itemsV v dl) v=some (itemsV v dl):=a1_
  have e3:=s3 _ _ e2
  have s13:=s2.trans s3
  generalize upd H2 v (itemsV v dl)=H3 at s3 hv1 e3 s13 ⊢
  have ndl:H dl=none:=s1.free hdl
  have d2l:d2≠dl:=a4_ e1 hdl
  refine⟨v,dl,_,rfl,hv1,e3,fun o=>?_⟩
  refine bQ_ (fun i σ H'=>∃(v4 v5:Option V),σ=[some (.ref g),some (.ref d),some (.int (mulOf hs)),some (.ref d2),v4,v5]/\Same H H'/\H' dl=some (.frz o (.dK (ldV hs qs f)))/\H' d2=some (.dK (mKV ((nmsOf hs).take i) fun h=>.int (lvF hs qs f h)))) ⟨none,none,rfl,al_ (s1.trans s13) ndl,a1_,by rw[a7_ d2l];exact s13 _ _ e1⟩ (fun i σ H' _ ⟨_,_,_,_,z,_⟩=>z) ?_ ?_
  ·rintro i ky x σ H8 hx ⟨v4,v5,rfl,s8,f8,e8⟩ t ht
   obtain⟨n,hn,rfl,rfl⟩:=cd_ hx
   have hi:i<(nmsOf hs).length:=(List.getElem?_eq_some_iff.mp hn).1
   have nm:n∈hs.map (·.1):=(ak_ hs).mem_iff.mp (List.mem_of_getElem? hn)
   have sm:=b7_ nm
   have sg:=bF_ Pl.Gd (List.mem_of_getElem? hn)
   have lo:=hJ_ wp Pl.h64 f n
   have ss:=Same.new (o:=.tup [.str n,.int (ld f (qs.map wOf) n)]) ht
   have s9:=s8.trans ss
   have e9:=ss _ _ e8
   have f9:=ss _ _ f8
   have et:upd H8 t (.tup [.str n,.int (ld f (qs.map wOf) n)]) t=some (.tup [.str n,.int (ld f (qs.map wOf) n)]):=a1_
   show gTup _ _ _ _ _ (upd H8 t (.tup [.str n,.int (ld f (qs.map wOf) n)])) _
   generalize upd H8 t (.tup [.str n,.int (ld f (qs.map wOf) n)])=H9 at ss s9 e9 f9 et ⊢
   refine⟨t,_,rfl,.of et,rfl,_,_,rfl,_,_,rfl,rfl,?_⟩
   have G9:=Pl.G.same s9
   obtain⟨dx,dw,dy,vs,fpw,h1,h2,h3,h4,h5,m1,m2,m3,m4,m5⟩:=id G9.ex
   obtain⟨dxw,d1,l2,d3,zs0,as,ef,w1,_⟩:=id h2.ex
   have hnw:(flds d1 l2 d3).lookup ("strength":Str)=none:=b5_ _ _ _ (by decide +kernel) (by decide +kernel) (by decide +kernel)
   refine⟨_,rfl,_,rfl,_,rfl,g,CG,dx,_,_,rfl,h1,T.cl,T.nW,bm_ _ _ _,p,dxw,_,rfl,w1,hnw,_,rfl,p,n,strOf hs n,hs,ts,fpw,rfl,h2,Pl.Gd.hnd,sm,?_⟩
   refine⟨_,_,rfl,rfl,⟨by omega,by omega⟩,_,_,rfl,rfl,.inl ⟨by omega,by omega⟩,_,rfl,_,rfl,d2,_,rfl,.k (k:=Sum.inr n) e9 (by rw[aL_,List.length_take];omega),?_⟩
   refine⟨_,_,rfl,al_ s9 n2,by rw[a7_ d2l.symm];exact f9,?_⟩
   rw[a1_,aW_ hn,er_ (do_ Pl.Gd.nnd hn)]
   congr 2
   refine cR_ fun m _=>?_
   by_cases z:m=n
   ·subst z
    simp[lvF]
   ·simp[z]
  rintro σ H8 ⟨v4,v5,rfl,s8,f8,e8⟩
  rw[aL_,List.take_length] at e8
  exact⟨_,rfl,k d2 H8 s8 n2 e8⟩
theorem scSumAt:FnScope ["goods","placed","levels"] ["goods","placed"] (defScope sSumAt):=⟨rfl,rfl,rfl,by decide +kernel,rfl,by decide +kernel,by decide +kernel⟩
def smF(hs:List (Str × Int))(qs:List Pc)(f:Str->Str):Int:=sumF (nmsOf hs) (ld f (qs.map wOf)) fun h=>mulOf hs / strOf hs h
def spSumAt(K:PySem.W.Frag)(CG CW:Addr):Sp:=fun vs H Q _=>∃(g p d:Addr) (hs:List (Str × Int)) (ts:List (Str × Str)) (qs:List Pc) (fp:List Addr) (f:Str->Str),vs=[.ref g,.ref d]/\Placed K CG CW H g p d hs ts qs fp f/\(∀q∈qs,0<=q.2.1/\q.2.1<=1000000000)/\∀H',Same H H'->Q (.int (smF hs qs f)) H'
theorem hy_{f CG CW:Addr}{fd:FuncData}(F:Fun K "sum_at" "sum_at" sSumAt f fd)(mSum:mg "sum"=none)(cL:Cal P w K mg base 3 "loads_at" ["goods","placed"] (spLoadsAt K CG CW))(cV:Cal P w K mg base 4 "levels_at" ["goods","placed"] (spLevels K CG CW)):FnOk P w K mg base CX0 5 f fd ["goods","placed"] (spSumAt K CG CW):=by
 refine F.ok scSumAt (fun vs H Q E h=>?_) (fun cdv A outer s H vs Q E hr h=>?_)
 ·obtain⟨g,p,d,hs,ts,qs,fp,f,rfl,_⟩:=h
  rfl
 ·obtain⟨g,p,d,hs,ts,qs,fp,f,rfl,Pl,wp,k⟩:=h
  have hu:=b1_ hr
  have sz:=sizeLine_eq
  have nl:=Pl.Gd.nlen
  have h8:=Pl.Gd.h8
  refine' ⟨_,a3_ ?s1 (a5_ ?s2),?kk⟩
  case s1=>exact ab_ (i:=2) scSumAt.nd rfl (Or.inr rfl) (a9_ cV hr (a0_ (pv 0) (a0_ (pv 1) a2_)))
  case' s2=>refine' ad_ (ac_ (e3_ rfl) (by rfl) mSum PyProof.Rows.boot_sum (a0_ (aI_ ["hand","load","levels"] 2 [2] (bP_ (aZ_ (a9_ cL (hr.mono (by decide)) (a0_ (pv 0) (a0_ (pv 1) a2_))))) (fun fp s H=>?g1) (fun fp s H=>au_) (fun fp s H=>?e1)) a2_))
  case g1=>exact b9_ (n:=2) (aa_ (a8_ (i:=0) (show (["hand","load","levels"]:List Str).Nodup by decide +kernel) rfl (Or.inl rfl)) (aa_ (a8_ (i:=1) (show (["hand","load","levels"]:List Str).Nodup by decide +kernel) rfl (Or.inl rfl)) aF_))
  case e1=>exact ai_ b8_ (pv 1) (aJ_ hu (pv 2) (pv 0) (fun _ _=>rfl))
  case' kk=>skip
  refine⟨_,rfl,_,rfl,g,p,d,hs,ts,qs,fp,f,rfl,Pl,wp,fun dv H1 s1 n1 e1=>?_⟩
  have Pl1:Placed K CG CW H1 g p d hs ts qs fp f:=⟨Pl.G.same s1,Pl.Gd,Pl.dfp,s1 _ _ Pl.hd,Pl.at_,Pl.nd,Pl.h64⟩
  refine⟨_,rfl,_,rfl,g,p,d,hs,ts,qs,fp,f,rfl,Pl1,fun dl H2 s2 n2 e2=>?_⟩
  refine⟨dl,_,rfl,e2,fun v hv=>?_⟩
  have s3:=Same.new (o:=itemsV v dl) hv
  have hv1:upd H2 v (itemsV v dl) v=some (itemsV v dl):=a1_
  have e3:=s3 _ _ e2
  have s13:=s2.trans s3
  generalize upd H2 v (itemsV v dl)=H3 at s3 hv1 e3 s13 ⊢
  refine⟨v,dl,_,rfl,hv1,e3,fun o D hD=>?_⟩
  have dvl:dv≠dl:=a4_ e1 n2
  have sf:Same H1 (upd H3 dl (.frz o (.dK (ldV hs qs f)))):=al_ s13 n2
  have ef:upd H3 dl (.frz o (.dK (ldV hs qs f))) dl=some (.frz o (.dK (ldV hs qs f))):=a1_
  generalize upd H3 dl (.frz o (.dK (ldV hs qs f)))=H4 at sf ef hD ⊢
  refine fF_ (own:=2) (fv:=[some (.ref dv)]) rfl gok2 (fun i out H'=>Same H4 H'/\H' D=some (.lst out)/\out=(((nmsOf hs).take i).map fun h=>ld f (qs.map wOf) h * lvF hs qs f h).map V.int) ⟨Same.new hD,a1_,rfl⟩ (fun i out H' _ ⟨sm,_,_⟩=>sm _ _ ef) (fun out H5 ⟨sm,hD5,eo⟩=>?_) (fun i ky x out H' hx ⟨sm,hD',eo⟩ t ht=>?_)
  ·rw[aL_,List.take_length] at eo
   rw[eo] at hD5
   exact⟨D,_,rfl,.of hD5,k H5 (s1.trans (sf.trans sm))⟩
  ·obtain⟨n,hn,rfl,rfl⟩:=cd_ hx
   have hi:i<(nmsOf hs).length:=(List.getElem?_eq_some_iff.mp hn).1
   have nm:=List.mem_of_getElem? hn
   have lo:=hJ_ wp Pl.h64 f n
   have ss:=Same.new (o:=.tup [.str n,.int (ld f (qs.map wOf) n)]) ht
   have et:upd H' t (.tup [.str n,.int (ld f (qs.map wOf) n)]) t=some (.tup [.str n,.int (ld f (qs.map wOf) n)]):=a1_
   refine⟨[some (.str n),some (.int (ld f (qs.map wOf) n))],⟨t,_,_,rfl,.of et,rfl⟩,rfl,fun Nx hN=>yesT ?_⟩
   have s4:=(sf.trans sm).trans ss
   have sD:=ss _ _ hD'
   have s5:=sm.trans ss
   show tOp _ _ _ _ (upd H' t (.tup [.str n,.int (ld f (qs.map wOf) n)])) _
   generalize upd H' t (.tup [.str n,.int (ld f (qs.map wOf) n)])=H6 at s4 sD s5 ⊢
   refine⟨_,rfl,_,rfl,_,rfl,dv,.int (lvF hs qs f n),rfl,?_,_,_,rfl,rfl,.inl ⟨by omega,by omega⟩,out,sD,by rw[eo,List.length_map,List.length_map,List.length_take];omega,hN _ _ ⟨al_ s5 hD,a1_,?_⟩⟩
   ·rw[<- bu_ (g:=fun h=>V.int (lvF hs qs f h)) nm]
    exact .k (k:=Sum.inr n) (s4 _ _ e1)
   ·rw[aW_ hn,List.map_append,List.map_append,eo]
    rfl
theorem scSumOf:FnScope ["goods","stand"] ["goods","stand"] (defScope sSumOf):=⟨rfl,rfl,rfl,by decide +kernel,rfl,by decide +kernel,by decide +kernel⟩
def spSumOf(K:PySem.W.Frag)(CG CW:Addr):Sp:=fun vs H Q _=>∃(g p d:Addr) (hs:List (Str × Int)) (ts:List (Str × Str)) (qs:List Pc) (fp:List Addr) (ns:List Str) (f:Str->Str),vs=[.ref g,.ref d]/\Std K CG CW H g p d hs ts qs fp ns f/\(∀q∈qs,0<=q.2.1/\q.2.1<=1000000000)/\∀H',Same H H'->Q (.int (smF hs qs f)) H'
theorem hX_{f CG CW:Addr}{fd:FuncData}(F:Fun K "sum_of" "sum_of" sSumOf f fd)(cC:Cal P w K mg base 2 "checked_stand" ["goods","stand"] (spCStand K CG CW))(cL:Cal P w K mg base 5 "sum_at" ["goods","placed"] (spSumAt K CG CW)):FnOk P w K mg base CX0 6 f fd ["goods","stand"] (spSumOf K CG CW):=by
 refine F.ok scSumOf (fun vs H Q E h=>?_) (fun cdv A outer s H vs Q E hr h=>?_)
 ·obtain⟨g,p,d,hs,ts,qs,fp,ns,f,rfl,_⟩:=h
  rfl
 ·obtain⟨g,p,d,hs,ts,qs,fp,ns,f,rfl,S,wp,k⟩:=h
  refine⟨_,a5_ (ad_ (a9_ cL hr (a0_ (pv 0) (a0_ (a9_ cC (hr.mono (by decide)) (a0_ (pv 0) (a0_ (pv 1) a2_))) a2_)))),?_⟩
  refine⟨_,rfl,_,rfl,_,rfl,g,p,d,hs,ts,qs,fp,ns,f,rfl,S.G,S.dfp,S.hd,S.ok,S.nd,S.h64,fun d1 H1 s1 n1 e1=>?_⟩
  obtain⟨fp',Pl⟩:=S.placed s1 n1 e1
  exact⟨g,p,d1,hs,ts,qs,fp',f,rfl,Pl,wp,fun H2 s2=>k H2 (s1.trans s2)⟩
end
end Ev
set_option Elab.async false
set_option linter.all false
set_option maxRecDepth 100000
namespace L2
open PySem PySem.Spec PyProof.Rows PySem.W
theorem eH_{d:Addr}{o:Obj}{kvs:List (Key × V)}{g:TG}{tb:TS}{D:Ends}{σ:St}{H:Hp}(Pv:Nat->St->Hp->Prop)(h0:Pv 0 σ H)(hl:∀i σ H,i<=kvs.length->Pv i σ H->H d=some (.frz o (.dK kvs)))
  (hs:∀i k x σ H,kvs[i]? = some (k,x)->Pv i σ H->g (kV k) σ H fun σ2 H2=>tb { D with nx:=Pv (i+1),ct:=Pv (i+1),bk:=D.nx } σ2 H2) (hd:∀σ H,Pv kvs.length σ H->D.nx σ H) :
  ∃W:Nat->Nat->St->Hp->Prop,(∃m,W 0 m σ H)/\∀i m σ H,W i m σ H->
   ((Itk d o kvs).stop i H/\D.nx σ H)∨((Itk d o kvs).go i H/\∃N:St->Hp->Prop,(∀σ' H',N σ' H'->∃m',m'<m/\W (i+1) m' σ' H')/\∀x H',(Itk d o kvs).yld i H x H'->g x σ H' fun σ2 H2=>tb { D with nx:=N,ct:=N,bk:=D.nx } σ2 H2):=by
 refine⟨fun i m σ H=>m=kvs.length - i/\i<=kvs.length/\Pv i σ H,⟨kvs.length,by simp,Nat.zero_le _,h0⟩,?_⟩
 rintro i m σ H ⟨rfl,hi,p⟩
 have q:=hl i σ H hi p
 by_cases hlt:i<kvs.length
 ·refine .inr ⟨⟨q,hlt⟩,Pv (i+1),fun σ' H' p'=>⟨kvs.length - (i+1),by omega,rfl,hlt,p'⟩,fun x H' y=>?_⟩
  obtain⟨rfl,k,v,hx,rfl⟩:=y
  exact hs i k v σ _ hx p
 ·have e:i=kvs.length:=by omega
  subst e
  exact .inl ⟨⟨q,Nat.le_refl _⟩,hd σ H p⟩
section
variable{prog:Program}{w:World}{A:Around}
theorem c7_{d it:Addr}{vs:List (Key × Value)}{ep:Nat}(hh:A.handled=none)(hne:d≠it):Walks prog w A it [it,d] [it] vs.length (fun i v=>∃k,vs[i]? = some (k,v)) (fun i h=>h.IsValIter it d i vs.length ep/\h.DictAt (mixKind prog w) d vs ep) where
 sub:=fun b hb=>by simp at hb;simp[hb]
 frame:=fun i h h' st k=>⟨st.1.at fun o e=>k it (by simp) o e,by
  obtain⟨o,es,ho,r⟩:=st.2
  exact⟨o,es,k d (by simp) o ho,r⟩⟩
 item:=by
  intro i s Q E hi st h
  obtain⟨⟨k,v⟩,hx⟩:∃p,vs[i]? = some p:=⟨vs[i],by simp[hi]⟩
  refine wpAny_pyNext_values_item st.1 st.2 hx fun h' st' sb=>?_
  refine h v h' s.toks ⟨k,hx⟩ ⟨st',?_⟩ fun b o hb e=>(sb.2 b (by simpa using hb)).trans e
  obtain⟨o,es,ho,r⟩:=st.2
  exact⟨o,es,(sb.2 d hne).trans ho,r⟩
 done:=by
  intro s Q E st h
  exact wpAny_pyNext_values_end hh st.1 st.2 (by simp) fun h' eb=>h h' s.toks fun b o hb e=>eb b o (by simpa using hb) e
 self:=fun _ _ _ _ st h=>wpAny_pyIter_valiter st.1 h
end
theorem cA_{ns:List (Key × Int)}{vs:List (Key × Value)}(r:KV (ns.map fun x=>(x.1,V.int x.2)) vs){i:Nat}{k:Key}{v:Value}(h:vs[i]? = some (k,v)):∃n t,(ns.map (·.2))[i]? = some n/\v=.int n t:=by
 have hl:=r.length
 rw[List.length_map] at hl
 have hi:i<ns.length:=by
  have:=(List.getElem?_eq_some_iff.mp h).1
  omega
 obtain⟨u,hu,ru⟩:=dM_ r i (k:=(ns[i]'hi).1) (x:=V.int (ns[i]'hi).2) (by rw[List.getElem?_map,List.getElem?_eq_getElem hi];rfl)
 rw[h] at hu
 have e:=congrArg Prod.snd (Option.some.inj hu)
 obtain⟨t,rfl⟩:=(show ∃t,u=Value.int (ns[i]'hi).2 t from ru)
 exact⟨_,t,by rw[List.getElem?_map,List.getElem?_eq_getElem hi];rfl,e⟩
def rMaxV:List V->Hp->VK->Prop:=fun xs H Q=>∃(v d:Addr) (ns:List (Key × Int)),xs=[.ref v]/\H v=some (valuesV v d)/\Rd H d (.dK (ns.map fun x=>(x.1,V.int x.2)))/\0<ns.length/\∀m,m∈ns.map (·.2)->(∀a∈ns.map (·.2),a<=m)->Q (.int m) H
def rMinV:List V->Hp->VK->Prop:=fun xs H Q=>∃(v d:Addr) (ns:List (Key × Int)),xs=[.ref v]/\H v=some (valuesV v d)/\Rd H d (.dK (ns.map fun x=>(x.1,V.int x.2)))/\0<ns.length/\∀m,m∈ns.map (·.2)->(∀a∈ns.map (·.2),m<=a)->Q (.int m) H
theorem gY_{X:Cx}(hc:X.calm=true):CallR X (.builtin "max") rMaxV:=by
 intro pins s σ H xs us Q I r h
 obtain⟨v,d,ns,rfl,hv,hd,h0,q⟩:=h
 obtain⟨u,rfl,ru⟩:=vals1 r
 cases ru
 obtain⟨z,hne,vs,rel,dd⟩:=bo_ I.hok hd
 obtain⟨ep,dat⟩:=dd.dictAt
 obtain⟨iv,_,_⟩:=I.hok v _ hv
 have hl:=rel.length
 rw[List.length_map] at hl
 have dlt:d<s.heap.objs.size:=by
  obtain⟨o,es,ho,_⟩:=dat
  exact Heap.lt_size ho
 refine call_max_walk (wpAny_pyIter_values (knd:=mixKind X.prog X.w) (kvs:=vs) (ep:=ep) iv dat ?_)
 refine⟨s.heap.objs.size,[s.heap.objs.size,d],[s.heap.objs.size],vs.length,fun i v=>∃k,vs[i]? = some (k,v),_,_,rfl,c7_ (ep:=ep) (I.ok.hd hc) (Nat.ne_of_lt dlt),⟨⟨_,Heap.get?_push_size _ rfl,rfl,rfl⟩,?_⟩,fun b hb=>?_,by omega,CmpOf.ints_gt (fun i=>((ns.map (·.2))[i]?).getD 0) (fun i v ⟨k,hv⟩=>?_),fun v' h' tk hP k=>?_⟩
 ·obtain⟨o,es,ho,r⟩:=dat
  exact⟨o,es,Heap.get?_push_of_some _ ho,r⟩
 ·have hb:b=s.heap.objs.size∨b=d:=by simpa using hb
  show b<(s.heap.objs.push _).size
  rw[Array.size_push]
  rcases hb with e|e
  ·rw[e]
   exact Nat.lt_succ_self _
  ·rw[e]
   exact Nat.lt_succ_of_lt dlt
 ·obtain⟨n,t,e1,e2⟩:=cA_ rel hv
  refine⟨t,?_⟩
  rw[e1]
  exact e2
 ·obtain⟨k',hv'⟩:=hP
  obtain⟨n,t,e1,rfl⟩:=cA_ rel hv'
  obtain⟨b1,b2⟩:=argBest_gt (fun i=>((ns.map (·.2))[i]?).getD 0) (vs.length - 1)
  rw[e1] at b2
  refine⟨.int n,H,I.kept (t':=tk) (fun b o e=>k b o (fun m=>?_) (Heap.get?_push_of_some _ e)),⟨t,rfl⟩,q n (List.mem_of_getElem? e1) fun a ha=>?_⟩
  ·have m:b=s.heap.objs.size:=by simpa using m
   exact absurd m (Nat.ne_of_lt (Heap.lt_size e))
  ·obtain⟨j,hj,ej⟩:=List.getElem_of_mem ha
   have:=b2 j (by rw[List.length_map] at hj;omega)
   rw[List.getElem?_eq_getElem hj,ej] at this
   exact this
theorem gc_{X:Cx}(hc:X.calm=true):CallR X (.builtin "min") rMinV:=by
 intro pins s σ H xs us Q I r h
 obtain⟨v,d,ns,rfl,hv,hd,h0,q⟩:=h
 obtain⟨u,rfl,ru⟩:=vals1 r
 cases ru
 obtain⟨z,hne,vs,rel,dd⟩:=bo_ I.hok hd
 obtain⟨ep,dat⟩:=dd.dictAt
 obtain⟨iv,_,_⟩:=I.hok v _ hv
 have hl:=rel.length
 rw[List.length_map] at hl
 have dlt:d<s.heap.objs.size:=by
  obtain⟨o,es,ho,_⟩:=dat
  exact Heap.lt_size ho
 refine call_min_walk (wpAny_pyIter_values (knd:=mixKind X.prog X.w) (kvs:=vs) (ep:=ep) iv dat ?_)
 refine⟨s.heap.objs.size,[s.heap.objs.size,d],[s.heap.objs.size],vs.length,fun i v=>∃k,vs[i]? = some (k,v),_,_,rfl,c7_ (ep:=ep) (I.ok.hd hc) (Nat.ne_of_lt dlt),⟨⟨_,Heap.get?_push_size _ rfl,rfl,rfl⟩,?_⟩,fun b hb=>?_,by omega,CmpOf.ints_lt (fun i=>((ns.map (·.2))[i]?).getD 0) (fun i v ⟨k,hv⟩=>?_),fun v' h' tk hP k=>?_⟩
 ·obtain⟨o,es,ho,r⟩:=dat
  exact⟨o,es,Heap.get?_push_of_some _ ho,r⟩
 ·have hb:b=s.heap.objs.size∨b=d:=by simpa using hb
  show b<(s.heap.objs.push _).size
  rw[Array.size_push]
  rcases hb with e|e
  ·rw[e]
   exact Nat.lt_succ_self _
  ·rw[e]
   exact Nat.lt_succ_of_lt dlt
 ·obtain⟨n,t,e1,e2⟩:=cA_ rel hv
  refine⟨t,?_⟩
  rw[e1]
  exact e2
 ·obtain⟨k',hv'⟩:=hP
  obtain⟨n,t,e1,rfl⟩:=cA_ rel hv'
  obtain⟨b1,b2⟩:=argBest_lt (fun i=>((ns.map (·.2))[i]?).getD 0) (vs.length - 1)
  rw[e1] at b2
  refine⟨.int n,H,I.kept (t':=tk) (fun b o e=>k b o (fun m=>?_) (Heap.get?_push_of_some _ e)),⟨t,rfl⟩,q n (List.mem_of_getElem? e1) fun a ha=>?_⟩
  ·have m:b=s.heap.objs.size:=by simpa using m
   exact absurd m (Nat.ne_of_lt (Heap.lt_size e))
  ·obtain⟨j,hj,ej⟩:=List.getElem_of_mem ha
   have:=b2 j (by rw[List.length_map] at hj;omega)
   rw[List.getElem?_eq_getElem hj,ej] at this
   exact this
end L2
set_option Elab.async false
set_option linter.all false
set_option maxRecDepth 100000
namespace EvM
open PySem PySem.Spec PyProof.Rows PySem.W
def mxRest(it S:Addr)(kw:List (Str × Value))(old:List Value):Sem Fin:=do
 let x <- tryCatch (pyNext (.ref it)) fun e=>do
  updateSeq S fun _=>#[]
  letGo ([]++old.reverse) [e]
  throw e
 match x with
 |none=>
  match old,kw with
  |[item,val],_=>do
   updateSeq S fun _=>#[]
   letGo [val] [item]
   ret item
  |_,(_,d)::_=>do
   rule (toString "max"++toString ".default")
   ret d
  |_,[]=>do
   rule (toString "max"++toString ".empty")
   raiseErrorMade "ValueError" (toString "max"++toString "() iterable argument is empty")
 |some item=>
  match old with
  |[oldItem,oldVal]=>do
   let better <- tryCatch (holding [item,item] do
     let answer <- richCompare .Gt item oldVal
     let yes <- holding [answer] (truthy answer)
     letGo [answer]
     pure yes) fun e=>do
    updateSeq S fun _=>#[]
    letGo ([item,item]++old.reverse) [e]
    throw e
   if better=true then do
    updateSeq S fun _=>#[item,item]
    letGo [oldVal,oldItem]
    again (.builtin (toString "max"++toString ".loop") ⟨[.ref it,.none,.ref S],kw⟩)
   else do
    letGo [item,item]
    again (.builtin (toString "max"++toString ".loop") ⟨[.ref it,.none,.ref S],kw⟩)
  |_=>do
   updateSeq S fun _=>#[item,item]
   again (.builtin (toString "max"++toString ".loop") ⟨[.ref it,.none,.ref S],kw⟩)
def mxTurn(it S:Addr)(kw:List (Str × Value)):Sem Fin:=do
 let l <- seqItems? (.ref S)
 mxRest it S kw (l.getD #[]).toList
theorem jD_(it S:Addr)(kw:List (Str × Value)):Builtin.«max.loop» ⟨[.ref it,.none,.ref S],kw⟩=mxTurn it S kw:=by
 unfold mxTurn mxRest
 rfl
section
variable{prog:Program}{w:World}{A:Around}
abbrev mxCode(it S:Addr)(kw:List (Str × Value)):Code:=.builtin "max.loop" ⟨[.ref it,.none,.ref S],kw⟩
theorem eg_{it S:Addr}{kw:List (Str × Value)}{old:List Value}{n:Nat}{s:Shared}{R:Result->Shared->Prop}(hS:s.heap.get? S=some { cls:=.type "list",data:=.seq old.toArray n })
  (h:wpAny (model prog w) A.in1 (mxRest it S kw old) (fun fin s'=>match fin with
   |.done f=>R (.ok f) s'
   |.again c'=>c'.quiet=true/\codeAny (model prog w) A c' R s') (fun e s'=>R (.error e) s') s):codeAny (model prog w) A (mxCode it S kw) R s:=by
 refine codeAny_builtin F.entry_max_loop ?_
 rw[Around.under_plainId F.plain_max_loop _,jD_]
 unfold mxTurn
 exact wpAny_bind (wpAny_seqItems hS rfl h)
theorem ff_{h:Heap}{S:Addr}{old new:List Value}{n:Nat}(hS:h.get? S=some { cls:=.type "list",data:=.seq old.toArray n }):∃n',(h.update S (Obj.mapSeq fun _=>new.toArray)).get? S=some { cls:=.type "list",data:=.seq new.toArray n' }:=⟨_,get?_update_seq hS (fun _=>new.toArray)⟩
def Kp(it S:Addr)(h h':Heap):Prop:=∀b o,b≠it->b≠S->h.get? b=some o->h'.get? b=some o
theorem Kp.trans{it S:Addr}{h h1 h2:Heap}(a:Kp it S h h1)(b:Kp it S h1 h2):Kp it S h h2:=fun c o h1 h2 e=>b c o h1 h2 (a c o h1 h2 e)
theorem hmax:(toString "max"++toString ".loop")="max.loop":=by decide +kernel
theorem j1_{z m:Int}{t t2:Tok}{s:Shared}{Q E:Value->Shared->Prop}(h:Q (.bool (decide (z > m))) s):wpAny (model prog w) A (richCompare .Gt (.int z t) (.int m t2)) Q E s:=
 CmpOf.ints_gt (prog:=prog) (w:=w) (A:=A) (P:=fun i v=>∃t,v=Value.int (if i=0 then z else m) t) (fun i=>if i=0 then z else m) (fun i v h=>h) 0 1 _ _ s Q E ⟨t,rfl⟩ ⟨t2,rfl⟩ h
theorem k2_{it S l:Addr}(hSi:S≠it)(hSl:S≠l)(hil:l≠it)(hh:A.handled=none){its:List Value}{ns:List Int}(hn:L2.Vals (ns.map L2.V.int) its)(kw:List (Str × Value)):∀(k i:Nat) (m:Int) (t:Tok) (n:Nat) (s:Shared) (R:Result->Shared->Prop),its.length - i=k->i<=its.length->m∈ns.take i->(∀a∈ns.take i,a<=m)->
  s.heap.IsListIter it l i->s.heap.IsList l its.toArray->s.heap.get? S=some { cls:=.type "list",data:=.seq [Value.int m t,Value.int m t].toArray n }->
  (∀m t h',m∈ns->(∀a∈ns,a<=m)->Kp it S s.heap h'->R (.ok (.ret (.int m t))) { s with heap:=h' })->codeAny (model prog w) A (mxCode it S kw) R s:=by
 have ln:=hn.length
 rw[List.length_map] at ln
 intro k
 induction k with
 |zero=>
  intro i m t n s R hk hi hm hle hit hl hS hR
  have ei:i=its.length:=by omega
  subst ei
  rw[<- ln,List.take_length] at hm hle
  refine eg_ hS ?_
  unfold mxRest
  refine wpAny_bind (wpAny_tryCatch (wpAny_pyNext_list_end hh hit hl (by simp) fun h1 he=>?_))
  have hS1:=he _ _ hSi hS
  refine wpAny_bind (wpAny_updateSeq hS1 rfl (wpAny_bind (wpAny_letGo ?_)) (by show 2<=sizeLine;decide) (by show 0<=sizeLine+1;omega))
  exact wpAny_pure (hR m t _ hm hle fun b o h1 h2 e=>by
   rw[Heap.get?_update_other _ _ (Ne.symm h2)]
   exact he b o h1 e)
 |succ k ih=>
  intro i m t n s R hk hi hm hle hit hl hS hR
  have hlt:i<ns.length:=by omega
  have hz:(ns.map L2.V.int)[i]? = some (.int ns[i]):=by rw[List.getElem?_map,List.getElem?_eq_getElem hlt];rfl
  obtain⟨u,hu,t2,rfl⟩:=hn.get hz
  refine eg_ hS ?_
  unfold mxRest
  refine wpAny_bind (wpAny_tryCatch (wpAny_pyNext_list_item hit hl (x:=.int ns[i] t2) (by simpa using hu) fun h1 hit1 hs1=>?_))
  have hS1:=hs1.extBut _ _ hSi hS
  have hl1:h1.IsList l its.toArray:=by
   obtain⟨o,e,r⟩:=hl
   exact⟨o,hs1.extBut _ _ hil e,r⟩
  have k1:Kp it S s.heap h1:=fun b o h1 _ e=>hs1.extBut _ _ h1 e
  have mem:ns[i]∈ns.take (i+1):=List.mem_of_getElem? (i:=i) (by rw[List.getElem?_take_of_lt (Nat.lt_succ_self i)];exact List.getElem?_eq_getElem hlt)
  refine wpAny_bind (wpAny_tryCatch (wpAny_holding (wpAny_bind (j1_ (wpAny_bind (wpAny_holding (wpAny_truthy_bool (wpAny_bind (wpAny_letGo (wpAny_pure ?_))))))))))
  rw[hmax]
  by_cases hb:ns[i] > m
  ·rw[if_pos (decide_eq_true hb)]
   refine wpAny_bind (wpAny_updateSeq hS1 rfl (wpAny_bind (wpAny_letGo ?_)) (by show 2<=sizeLine;decide) (by show 2<=sizeLine+1;decide))
   obtain⟨n',hS2⟩:=ff_ (new:=[.int ns[i] t2,.int ns[i] t2]) hS1
   have k2:Kp it S h1 (h1.update S (Obj.mapSeq fun _=>[Value.int ns[i] t2,Value.int ns[i] t2].toArray)):=fun b o _ h2 e=>by
    rw[Heap.get?_update_other _ _ (Ne.symm h2)]
    exact e
   have hit2:(h1.update S (Obj.mapSeq fun _=>[Value.int ns[i] t2,Value.int ns[i] t2].toArray)).IsListIter it l (i+1):=hit1.at fun o e=>by
    rw[Heap.get?_update_other _ _ hSi]
    exact e
   have hl2:(h1.update S (Obj.mapSeq fun _=>[Value.int ns[i] t2,Value.int ns[i] t2].toArray)).IsList l its.toArray:=by
    obtain⟨o,e,r⟩:=hl1
    exact⟨o,k2 _ _ hil hSl.symm e,r⟩
   refine wpAny_pure ⟨plainId_quiet F.plain_max_loop _,ih (i+1) ns[i] t2 n' _ R (by omega) (by omega) mem (fun a ha=>?_) hit2 hl2 hS2 fun m t h' h1' h2' kk=>hR m t h' h1' h2' ((k1.trans k2).trans kk)⟩
   rw[List.take_add_one,List.getElem?_eq_getElem hlt] at ha
   rcases List.mem_append.mp ha with ha|ha
   ·exact Int.le_of_lt (Int.lt_of_le_of_lt (hle a ha) hb)
   ·obtain rfl:a=ns[i]:=by simpa using ha
    exact Int.le_refl _
  ·rw[if_neg (by simpa using hb)]
   refine wpAny_bind (wpAny_letGo (wpAny_pure ⟨plainId_quiet F.plain_max_loop _,ih (i+1) m t n _ R (by omega) (by omega) ?_ (fun a ha=>?_) hit1 hl1 hS1 fun m t h' h1' h2' kk=>hR m t h' h1' h2' (k1.trans kk)⟩))
   ·rw[List.take_add_one]
    exact List.mem_append_left _ hm
   ·rw[List.take_add_one,List.getElem?_eq_getElem hlt] at ha
    rcases List.mem_append.mp ha with ha|ha
    ·exact hle a ha
    ·obtain rfl:a=ns[i]:=by simpa using ha
     exact Int.not_lt.mp hb
theorem max_dflt{l:Addr}(hh:A.handled=none){its:List Value}{ns:List Int}{d:Value}{s:Shared}{Q E:Value->Shared->Prop}(hn:L2.Vals (ns.map L2.V.int) its)(hl:s.heap.IsList l its.toArray)
  (h0:ns=[]->∀h',(∀b o,s.heap.get? b=some o->h'.get? b=some o)->Q d { s with heap:=h' }) (h1:∀m t h',m∈ns->(∀a∈ns,a<=m)->(∀b o,s.heap.get? b=some o->h'.get? b=some o)->Q (.int m t) { s with heap:=h' }) :
  wpAny (model prog w) A (call (.builtin "max") [.ref l] [("default",d)]) Q E s:=by
 refine wpAny_call (codeAny_call_builtin F.plain_max F.entry_max ?_)
 refine (show wpAny (model prog w) A.in1 (checkBuiltinCall "max" ⟨[.ref l],[("default",d)]⟩) _ _ s from ?_)
 have hck:checkBuiltinCall "max" ⟨[.ref l],[("default",d)]⟩=pure ():=by rfl
 rw[hck]
 refine wpAny_pure ?_
 have hb:Builtin.max ⟨[.ref l],[("default",d)]⟩=(do
   let it <- pyIter (.ref l)
   let b <- newList []
   again (.builtin (toString "max"++toString ".loop") ⟨[it,.none,b],[("default",d)]⟩)):=by rfl
 rw[hb,hmax]
 have ll:l<s.heap.objs.size:=by obtain⟨_,e,_⟩:=hl;exact Heap.lt_size e
 refine wpAny_bind (wpAny_pyIter_list hl (wpAny_bind (wpAny_newList (wpAny_pure ⟨plainId_quiet F.plain_max_loop _,?_⟩) (Nat.zero_le _))))
 have hi1:s.heap.objs.size<(s.heap.push { cls:=.type "list_iterator",data:=.fields #[.ref l,.int 0 0] }).objs.size:=by
  have:(s.heap.push { cls:=.type "list_iterator",data:=.fields #[.ref l,.int 0 0] }).get? s.heap.objs.size=some _:=Heap.get?_push_size _ rfl
  exact Heap.lt_size this
 have hit:(s.heap.push { cls:=.type "list_iterator",data:=.fields #[.ref l,.int 0 0] }).IsListIter s.heap.objs.size l 0:=⟨_,Heap.get?_push_size _ rfl,rfl,rfl⟩
 have hl1:=hl.push { cls:=.type "list_iterator",data:=.fields #[.ref l,.int 0 0] }
 have k1:∀b o,s.heap.get? b=some o->(s.heap.push { cls:=.type "list_iterator",data:=.fields #[.ref l,.int 0 0] }).get? b=some o:=fun b o e=>Heap.get?_push_of_some _ e
 generalize s.heap.push { cls:=.type "list_iterator",data:=.fields #[.ref l,.int 0 0] }=g1 at hi1 hit hl1 k1 ⊢
 have hS:(g1.push { cls:=.type "list",data:=.seq (#[]:Array Value) }).get? g1.objs.size=some { cls:=.type "list",data:=.seq ([]:List Value).toArray 0 }:=Heap.get?_push_size _ rfl
 have k2:∀b o,g1.get? b=some o->(g1.push { cls:=.type "list",data:=.seq (#[]:Array Value) }).get? b=some o:=fun b o e=>Heap.get?_push_of_some _ e
 have hit2:(g1.push { cls:=.type "list",data:=.seq (#[]:Array Value) }).IsListIter s.heap.objs.size l 0:=hit.at fun o e=>k2 _ _ e
 have hl2:=hl1.push { cls:=.type "list",data:=.seq (#[]:Array Value) }
 have hSi:g1.objs.size≠s.heap.objs.size:=Ne.symm (Nat.ne_of_lt hi1)
 have hSl:g1.objs.size≠l:=Ne.symm (Nat.ne_of_lt (Nat.lt_trans ll hi1))
 have hil:l≠s.heap.objs.size:=Nat.ne_of_lt ll
 have lt1:∀b o,s.heap.get? b=some o->b≠s.heap.objs.size/\b≠g1.objs.size:=fun b o e=>⟨Nat.ne_of_lt (Heap.lt_size e),Nat.ne_of_lt (Nat.lt_trans (Heap.lt_size e) hi1)⟩
 show codeAny (model prog w) A (mxCode s.heap.objs.size g1.objs.size [("default",d)]) _ { s with heap:=g1.push { cls:=.type "list",data:=.seq (#[]:Array Value) } }
 generalize g1.push { cls:=.type "list",data:=.seq (#[]:Array Value) }=g2 at hS k2 hit2 hl2 ⊢
 have k3:∀b o,s.heap.get? b=some o->g2.get? b=some o:=fun b o e=>k2 _ _ (k1 _ _ e)
 refine eg_ hS ?_
 unfold mxRest
 have ln:=hn.length
 rw[List.length_map] at ln
 cases ns with
 |nil=>
  have e0:its=[]:=List.length_eq_zero_iff.mp ln.symm
  subst e0
  refine wpAny_bind (wpAny_tryCatch (wpAny_pyNext_list_end hh hit2 hl2 (by simp) fun h1' he=>?_))
  exact wpAny_bind (wpAny_rule (wpAny_pure (h0 rfl h1' fun b o e=>he b o (lt1 b o e).1 (k3 _ _ e))))
 |cons n ns=>
  have hz:((n::ns).map L2.V.int)[0]? = some (.int n):=rfl
  obtain⟨u,hu,t2,rfl⟩:=hn.get hz
  refine wpAny_bind (wpAny_tryCatch (wpAny_pyNext_list_item hit2 hl2 (x:=.int n t2) (by simpa using hu) fun g3 hit3 hs3=>?_))
  have hS3:=hs3.extBut _ _ hSi hS
  rw[hmax]
  refine wpAny_bind (wpAny_updateSeq hS3 rfl ?_ (by show 0<=sizeLine;omega) (by show 2<=sizeLine+1;decide))
  obtain⟨n',hS4⟩:=ff_ (new:=[.int n t2,.int n t2]) hS3
  have k4:Kp s.heap.objs.size g1.objs.size g2 (g3.update g1.objs.size (Obj.mapSeq fun _=>[Value.int n t2,Value.int n t2].toArray)):=fun b o h1 h2 e=>by
   rw[Heap.get?_update_other _ _ (Ne.symm h2)]
   exact hs3.extBut _ _ h1 e
  refine wpAny_pure ⟨plainId_quiet F.plain_max_loop _,k2_ hSi hSl hil hh hn _ (its.length - 1) 1 n t2 n' _ _ rfl (by rw[<- ln,List.length_cons];omega) (by simp) (fun a ha=>?_) (hit3.at fun o e=>?_) ?_ hS4 fun m t h' hm hle kk=>h1 m t h' hm hle fun b o e=>?_⟩
  ·have:a=n:=by simpa using ha
   rw[this]
   exact Int.le_refl _
  ·rw[Heap.get?_update_other _ _ hSi]
   exact e
  ·obtain⟨o,e,r⟩:=hl2
   exact⟨o,k4 _ _ hil hSl.symm e,r⟩
  ·obtain⟨q1,q2⟩:=lt1 b o e
   exact kk b o q1 q2 (k4 b o q1 q2 (k3 _ _ e))
end
end EvM
namespace L2
open PySem PySem.Spec PyProof.Rows PySem.W
def tMaxD(K:PySem.W.Frag)(t tk:TA):TE:=fun σ H Q=>t σ H fun vs H1=>tk σ H1 fun zs H2=>∃(l:Addr) (ns:List Int) (d:Int),vs=[.ref l]/\zs=[.int d]/\SqL K H2 l (ns.map V.int)/\∀m,(ns=[]/\m=d∨m∈ns/\∀a∈ns,a<=m)->Q (.int m) H2
theorem is_{X:Cx}{e v:Expr}{t tk:TA}{p pos kp:Pos}(hc:X.calm=true)(hg:Gl X "max")(hm:X.mg "max"=none)(ha:PA X [e] t)(hkw:PK X [⟨some "default",v,kp⟩] tk)
  (he:starEach [e] X.env=[(false,eval e X.env)]:=by rfl) (hall:(backToKw pos (keywordEach [⟨some "default",v,kp⟩] X.env)).all (·.1.isSome)=true:=by rfl) (hks:(backToKw pos (keywordEach [⟨some "default",v,kp⟩] X.env)).filterMap (·.1)=[Str.ofString "default"]:=by rfl)
  (hkn:(backToKw pos (keywordEach [⟨some "default",v,kp⟩] X.env)).any (·.1.isNone)=false:=by rfl):PE X (.Call (.Name "max" p) [e] [⟨some "default",v,kp⟩] pos) (tMaxD X.K t tk):=by
 intro pins s σ H Q I h
 refine wpAny_Call_Name_kw (cO_ I hg hm PyProof.Rows.Boot.«max» ?_)
 have hA:=ha pos pins s σ H _ I h
 rw[he] at hA ⊢
 refine callWith_builtin_kwB (first:=[]) rfl hkn (evalArgs_kwB hall (thn hA fun us s1 ⟨vs,H1,I1,r1,q1⟩=>?_))
 refine thn (hkw pos pins s1 σ H1 _ I1 q1) fun ws s2 ⟨zs,H2,I2,rz,l,ns,d,ev,ez,hl,qm⟩=>?_
 subst ev ez
 obtain⟨u,rfl,ru⟩:=Vals.one r1
 obtain⟨dv,rfl,rd⟩:=Vals.one rz
 cases ru
 obtain⟨its,rv,pl,z⟩:=I2.list hl
 rw[hks]
 exact EvM.max_dflt (I.ok.hd hc) rv pl.isList (fun e h' k=>⟨.int d,H2,I2.kept (t':=s2.toks) k,rd,qm d (.inl ⟨e,rfl⟩)⟩) fun m tm h' h1 h2 k=>⟨.int m,H2,I2.kept (t':=s2.toks) k,⟨tm,rfl⟩,qm m (.inr ⟨h1,h2⟩)⟩
end L2
set_option Elab.async false
set_option linter.all false
set_option maxRecDepth 100000
namespace L2
open PySem PySem.Spec PyProof.Rows PySem.W
theorem f8_{X:Cx}:OpR X (binaryOp .FloorDiv) (rI (fun _ j=>0<j/\j<2 ^ 100) fun i j=>.int (i / j)):=opI fun i j _ _ _ _ _ hc q=>by
 have h1:(0:Int)<j:=hc.1
 have h2:j<2 ^ 100:=hc.2
 refine floordiv_int (by omega) (by rw[Int.fdiv_eq_ediv_of_nonneg i (by omega)];exact q) (.inl (PyProof.noPylong_of_log2 ?_))
 have:j.natAbs.log2<100:=(Nat.log2_lt (by omega)).mpr (by omega)
 omega
end L2
namespace Ev
open PySem L2
def redF(t d:Int):Int × Int:=(t / (Int.gcd t d:Int),d / (Int.gcd t d:Int))
theorem iT_{t d:Int}(hd:0<d):∃g:Int,0<g/\t=g * (redF t d).1/\d=g * (redF t d).2/\0<(redF t d).2/\Int.gcd (redF t d).1 (redF t d).2=1:=by
 have hg:0<Int.gcd t d:=Int.gcd_pos_of_ne_zero_right t (by omega)
 obtain⟨k,hk⟩:=Int.gcd_dvd_left t d
 obtain⟨m,hm⟩:=Int.gcd_dvd_right t d
 have gp:(0:Int)<(Int.gcd t d:Int):=by omega
 have e1:(redF t d).1=k:=by
  show t / (Int.gcd t d:Int)=k
  exact Int.ediv_eq_of_eq_mul_right (by omega) hk
 have e2:(redF t d).2=m:=by
  show d / (Int.gcd t d:Int)=m
  exact Int.ediv_eq_of_eq_mul_right (by omega) hm
 refine⟨(Int.gcd t d:Int),gp,by rw[e1];exact hk,by rw[e2];exact hm,?_,?_⟩
 ·rw[e2]
  have:0<(Int.gcd t d:Int) * m:=by rw[<- hm];exact hd
  exact Int.pos_of_mul_pos_right this gp
 ·rw[e1,e2]
  have h3:Int.gcd t d=Int.gcd t d * Int.gcd k m:=by
   have:=Int.gcd_mul_left (Int.gcd t d:Int) k m
   rw[<- hk,<- hm] at this
   rw[Int.natAbs_natCast] at this
   exact this
  exact (Nat.eq_of_mul_eq_mul_left hg (by rw[Nat.mul_one];exact h3)).symm
end Ev
set_option Elab.async false
set_option linter.all false
set_option maxRecDepth 100000
namespace Ev
open PySem L2
theorem jl_{a n:Int}(ha:0<a)(hn:0<n)(h2:n<=1000):lcmI a n<=a * 1000:=by
 unfold lcmI
 have g:0<(Int.gcd a n:Int):=by
  have:=Int.gcd_pos_of_ne_zero_right a (show n≠0 by omega)
  omega
 have k1:a / (Int.gcd a n:Int)<=a:=Int.ediv_le_self _ (Int.le_of_lt ha)
 have k0:0<=a / (Int.gcd a n:Int):=Int.ediv_nonneg (Int.le_of_lt ha) (Int.le_of_lt g)
 exact Int.mul_le_mul k1 h2 (Int.le_of_lt hn) (Int.le_of_lt ha)
theorem ia_:∀(ns:List Int) (a:Int),0<a->(∀n∈ns,0<n/\n<=1000)->ns.foldl lcmI a<=a * 1000 ^ ns.length
 |[],a,_,_=>by simp
 |n::ns,a,ha,h=>by
  have hn:=h n List.mem_cons_self
  have p:0<lcmI a n:=by
   have:=(cr_ [n] a ha (by simpa using hn.1)).1
   exact this
  have k1:=ia_ ns (lcmI a n) p fun m hm=>h m (List.mem_cons_of_mem _ hm)
  have k2:=jl_ ha hn.1 hn.2
  have e:(0:Int)<=1000 ^ ns.length:=Int.pow_nonneg (by decide)
  rw[List.foldl_cons,List.length_cons,Int.pow_succ]
  refine Int.le_trans k1 ?_
  have:=Int.mul_le_mul_of_nonneg_right k2 e
  have e2:a * 1000 * 1000 ^ ns.length=a * (1000 ^ ns.length * 1000):=by grind
  rw[e2] at this
  exact this
theorem br_{hs:List (Str × Int)}{ts:List (Str × Str)}(G:Good hs ts):0<mulOf hs/\mulOf hs<2 ^ 100/\∀n∈nmsOf hs,mulOf hs / strOf hs n * strOf hs n=mulOf hs:=by
 have pos:∀m∈(nmsOf hs).map (strOf hs),0<m/\m<=1000:=fun m hm=>by
  obtain⟨x,hx,rfl⟩:=List.mem_map.mp hm
  have:=bF_ G hx
  omega
 have pos1:∀m∈(nmsOf hs).map (strOf hs),0<m:=fun m hm=>(pos m hm).1
 refine⟨dq_ pos1,?_,fun n hn=>Int.ediv_mul_cancel (i0_ pos1 (List.mem_map.mpr ⟨_,hn,rfl⟩))⟩
 have k:=ia_ _ 1 (by decide) pos
 rw[List.length_map,G.nlen,Int.one_mul] at k
 have h8:=G.h8
 have k2:(1000:Int) ^ hs.length<=1000 ^ 8:=by
  have:(1000:Nat) ^ hs.length<=1000 ^ 8:=Nat.pow_le_pow_right (by decide) h8
  exact_mod_cast this
 have:mulOf hs<=1000 ^ 8:=Int.le_trans k k2
 have e:(1000:Int) ^ 8<2 ^ 100:=by decide
 omega
theorem jY_{hs:List (Str × Int)}{ts:List (Str × Str)}(G:Good hs ts){qs:List Pc}(wp:∀q∈qs,0<=q.2.1/\q.2.1<=1000000000)(h64:qs.length<64){f:Str->Str}{n:Str}(hn:n∈nmsOf hs):0<=lvF hs qs f n:=
 Int.mul_nonneg (hJ_ wp h64 f n).1 (Int.ediv_nonneg (Int.le_of_lt (br_ G).1) (by have:=bF_ G hn;omega))
def IsRise(hs:List (Str × Int))(qs:List Pc)(f:Str->Str)(r:Int):Prop:=∃x∈nmsOf hs,∃y∈nmsOf hs,r=lvF hs qs f x - lvF hs qs f y/\∀z∈nmsOf hs,lvF hs qs f z<=lvF hs qs f x/\lvF hs qs f y<=lvF hs qs f z
def aV(hs:List (Str × Int))(qs:List Pc)(f:Str->Str)(t:Str × Str):Int:=if lvF hs qs f t.1 - lvF hs qs f t.2<0 then -(lvF hs qs f t.1 - lvF hs qs f t.2) else lvF hs qs f t.1 - lvF hs qs f t.2
def IsSteep(hs:List (Str × Int))(ts:List (Str × Str))(qs:List Pc)(f:Str->Str)(r:Int):Prop:=(tsOf ts=[]/\r=0)∨∃t∈tsOf ts,r=aV hs qs f t/\∀u∈tsOf ts,aV hs qs f u<=r
theorem ii_{hs:List (Str × Int)}{qs:List Pc}{f:Str->Str}{t:Str × Str}:0<=aV hs qs f t:=by
 unfold aV
 split<;>omega
section
variable{P:Program}{w:World}{K:PySem.W.Frag}{mg:Str->Option Value}{base:Heap}
theorem scFrac2:FnScope ["top","below","divisor"] ["top","below"] (defScope sFrac):=⟨rfl,rfl,rfl,by decide +kernel,rfl,by decide +kernel,by decide +kernel⟩
def spFrac2:Sp:=fun vs H Q _=>∃a b:Int,vs=[.int a,.int b]/\0<=a/\0<b/\b<2 ^ 100/\∀t,H t=none->Q (.ref t) (upd H t (.tup [.int (fr a b).1,.int (fr a b).2]))
theorem hN_{f:Addr}{fd:FuncData}(F:Fun K "fraction_of" "fraction_of" sFrac f fd)(cG:Cal P w K mg base 1 "greatest_divisor" ["one","other"] spGd):FnOk P w K mg base CX0 2 f fd ["top","below"] spFrac2:=by
 refine F.ok scFrac2 (fun vs H Q E h=>?_) (fun cdv A outer s H vs Q E hr h=>?_)
 ·obtain⟨a,b,rfl,_⟩:=h
  rfl
 ·obtain⟨a,b,rfl,ha,hb,hb2,k⟩:=h
  have g:0<(Int.gcd a b:Int)/\(Int.gcd a b:Int)<2 ^ 100:=by
   have h1:0<Int.gcd a b:=Int.gcd_pos_of_ne_zero_right a (by omega)
   have h3:=Int.le_of_dvd hb (Int.gcd_dvd_right a b)
   omega
  refine⟨_,a3_ (ab_ (i:=2) scFrac2.nd rfl (Or.inl rfl) (a9_ cG hr (a0_ (pv 0) (a0_ (pv 1) a2_)))) (a5_ (ad_ (aO_ (a0_ (ai_ f8_ (pv 0) (pv 2)) (a0_ (ai_ f8_ (pv 1) (pv 2)) a2_))))),?_⟩
  refine⟨_,rfl,_,rfl,a,b,rfl,ha,hb,?_⟩
  exact⟨_,rfl,_,rfl,_,_,rfl,rfl,g,_,rfl,_,rfl,_,_,rfl,rfl,g,by show 2<=sizeLine;decide,k⟩
theorem scRise:FnScope ["goods","placed","levels"] ["goods","placed"] (defScope sRise):=⟨rfl,rfl,rfl,by decide +kernel,rfl,by decide +kernel,by decide +kernel⟩
def spRise(K:PySem.W.Frag)(CG CW:Addr):Sp:=fun vs H Q _=>∃(g p d:Addr) (hs:List (Str × Int)) (ts:List (Str × Str)) (qs:List Pc) (fp:List Addr) (f:Str->Str),vs=[.ref g,.ref d]/\Placed K CG CW H g p d hs ts qs fp f/\(∀q∈qs,0<=q.2.1/\q.2.1<=1000000000)/\∀r H',Same H H'->IsRise hs qs f r->Q (.int r) H'
theorem iM_{f CG CW:Addr}{fd:FuncData}(F:Fun K "rise_at" "rise_at" sRise f fd)(B:Bi mg)(mMin:mg "min"=none)(cV:Cal P w K mg base 4 "levels_at" ["goods","placed"] (spLevels K CG CW)):FnOk P w K mg base CX0 5 f fd ["goods","placed"] (spRise K CG CW):=by
 refine F.ok scRise (fun vs H Q E h=>?_) (fun cdv A outer s H vs Q E hr h=>?_)
 ·obtain⟨g,p,d,hs,ts,qs,fp,f,rfl,_⟩:=h
  rfl
 ·obtain⟨g,p,d,hs,ts,qs,fp,f,rfl,Pl,wp,k⟩:=h
  have nl:=Pl.Gd.nlen
  have h1:=Pl.Gd.h1
  refine' ⟨_,a3_ ?s1 (a5_ ?s2),?kk⟩
  case s1=>exact ab_ (i:=2) scRise.nd rfl (Or.inl rfl) (a9_ cV hr (a0_ (pv 0) (a0_ (pv 1) a2_)))
  case s2=>exact ad_ (ai_ gL_ (ac_ (gY_ rfl) (by rfl) B.max PyProof.Rows.Boot.«max» (a0_ (bR_ (pv 2)) a2_)) (ac_ (gc_ rfl) (by rfl) mMin PyProof.Rows.Boot.«min» (a0_ (bR_ (pv 2)) a2_)))
  case' kk=>skip
  refine⟨_,rfl,_,rfl,g,p,d,hs,ts,qs,fp,f,rfl,Pl,wp,fun dv H1 s1 n1 e1=>?_⟩
  have em:((nmsOf hs).map fun h=>((Sum.inr h:Key),lvF hs qs f h)).map (·.2)=(nmsOf hs).map (lvF hs qs f):=by
   rw[List.map_map]
   rfl
  have ekv:mKV (nmsOf hs) (fun h=>V.int (lvF hs qs f h))=((nmsOf hs).map fun h=>((Sum.inr h:Key),lvF hs qs f h)).map fun x=>(x.1,V.int x.2):=by
   rw[List.map_map]
   rfl
  rw[ekv] at e1
  refine⟨_,rfl,dv,_,rfl,e1,fun v hv=>?_⟩
  have s2:=Same.new (o:=valuesV v dv) hv
  have ev:upd H1 v (valuesV v dv) v=some (valuesV v dv):=a1_
  generalize upd H1 v (valuesV v dv)=H2 at s2 ev ⊢
  refine⟨v,dv,(nmsOf hs).map fun h=>((Sum.inr h:Key),lvF hs qs f h),rfl,ev,.of (s2 _ _ e1),by rw[List.length_map];omega,fun m hm mx=>?_⟩
  rw[em] at hm mx
  refine⟨_,rfl,dv,_,rfl,s2 _ _ e1,fun v2 hv2=>?_⟩
  have s3:=Same.new (o:=valuesV v2 dv) hv2
  have ev2:upd H2 v2 (valuesV v2 dv) v2=some (valuesV v2 dv):=a1_
  generalize upd H2 v2 (valuesV v2 dv)=H3 at s3 ev2 ⊢
  refine⟨v2,dv,(nmsOf hs).map fun h=>((Sum.inr h:Key),lvF hs qs f h),rfl,ev2,.of (s3 _ _ (s2 _ _ e1)),by rw[List.length_map];omega,fun m2 hm2 mn=>?_⟩
  rw[em] at hm2 mn
  obtain⟨x,hx,rfl⟩:=List.mem_map.mp hm
  obtain⟨y,hy,rfl⟩:=List.mem_map.mp hm2
  exact⟨_,_,rfl,rfl,k _ H3 (s1.trans (s2.trans s3)) ⟨x,hx,y,hy,rfl,fun z hz=>⟨mx _ (List.mem_map.mpr ⟨z,hz,rfl⟩),mn _ (List.mem_map.mpr ⟨z,hz,rfl⟩)⟩⟩⟩
theorem scSpreadAt:FnScope ["goods","placed"] ["goods","placed"] (defScope sSpreadAt):=⟨rfl,rfl,rfl,by decide +kernel,rfl,by decide +kernel,by decide +kernel⟩
def spSpreadAt(K:PySem.W.Frag)(CG CW:Addr):Sp:=fun vs H Q _=>∃(g p d:Addr) (hs:List (Str × Int)) (ts:List (Str × Str)) (qs:List Pc) (fp:List Addr) (f:Str->Str),vs=[.ref g,.ref d]/\Placed K CG CW H g p d hs ts qs fp f/\(∀q∈qs,0<=q.2.1/\q.2.1<=1000000000)/\∀t r H',Same H H'->IsRise hs qs f r->H' t=some (.tup [.int (fr r (mulOf hs)).1,.int (fr r (mulOf hs)).2])->Q (.ref t) H'
theorem eB_{f CG CW:Addr}{fd:FuncData}(F:Fun K "spread_at" "spread_at" sSpreadAt f fd)(T:TxtG K CG)(cR:Cal P w K mg base 5 "rise_at" ["goods","placed"] (spRise K CG CW))(cM:Cal P w K mg base 3 "multiple_of_strengths" ["web"] (spMult K CW))(cF:Cal P w K mg base 2 "fraction_of" ["top","below"] spFrac2):FnOk P w K mg base CX0 6 f fd ["goods","placed"] (spSpreadAt K CG CW):=by
 refine F.ok scSpreadAt (fun vs H Q E h=>?_) (fun cdv A outer s H vs Q E hr h=>?_)
 ·obtain⟨g,p,d,hs,ts,qs,fp,f,rfl,_⟩:=h
  rfl
 ·obtain⟨g,p,d,hs,ts,qs,fp,f,rfl,Pl,wp,k⟩:=h
  have mo:=br_ Pl.Gd
  refine⟨_,a5_ (ad_ (a9_ cF (hr.mono (by decide)) (a0_ (a9_ cR hr (a0_ (pv 0) (a0_ (pv 1) a2_))) (a0_ (a9_ cM (hr.mono (by decide)) (a0_ (aP_ (pv 0) rfl) a2_)) a2_)))),?_⟩
  refine⟨_,rfl,_,rfl,g,p,d,hs,ts,qs,fp,f,rfl,Pl,wp,fun r H1 s1 ir=>?_⟩
  have G1:=Pl.G.same s1
  obtain⟨dx,dw,dy,vs,fpw,h1,h2,_⟩:=id G1.ex
  refine⟨_,rfl,g,CG,dx,_,_,rfl,h1,T.cl,T.nW,bm_ _ _ _,p,hs,ts,fpw,rfl,h2,Pl.Gd,fun H2 s2=>?_⟩
  have r0:0<=r:=by
   obtain⟨x,hx,y,hy,rfl,b⟩:=ir
   have:=(b y hy).1
   omega
  exact⟨r,mulOf hs,rfl,r0,mo.1,mo.2.1,fun t ht=>k t r _ ((s1.trans s2).trans (Same.new ht)) ir a1_⟩
theorem scSpread:FnScope ["goods","stand"] ["goods","stand"] (defScope sSpread):=⟨rfl,rfl,rfl,by decide +kernel,rfl,by decide +kernel,by decide +kernel⟩
def spSpread(K:PySem.W.Frag)(CG CW:Addr):Sp:=fun vs H Q _=>∃(g p d:Addr) (hs:List (Str × Int)) (ts:List (Str × Str)) (qs:List Pc) (fp:List Addr) (ns:List Str) (f:Str->Str),vs=[.ref g,.ref d]/\Std K CG CW H g p d hs ts qs fp ns f/\(∀q∈qs,0<=q.2.1/\q.2.1<=1000000000)/\∀t r H',Same H H'->IsRise hs qs f r->H' t=some (.tup [.int (fr r (mulOf hs)).1,.int (fr r (mulOf hs)).2])->Q (.ref t) H'
theorem fW_{f CG CW:Addr}{fd:FuncData}(F:Fun K "spread" "spread" sSpread f fd)(cC:Cal P w K mg base 2 "checked_stand" ["goods","stand"] (spCStand K CG CW))(cL:Cal P w K mg base 6 "spread_at" ["goods","placed"] (spSpreadAt K CG CW)):FnOk P w K mg base CX0 7 f fd ["goods","stand"] (spSpread K CG CW):=by
 refine F.ok scSpread (fun vs H Q E h=>?_) (fun cdv A outer s H vs Q E hr h=>?_)
 ·obtain⟨g,p,d,hs,ts,qs,fp,ns,f,rfl,_⟩:=h
  rfl
 ·obtain⟨g,p,d,hs,ts,qs,fp,ns,f,rfl,S,wp,k⟩:=h
  refine⟨_,a5_ (ad_ (a9_ cL hr (a0_ (pv 0) (a0_ (a9_ cC (hr.mono (by decide)) (a0_ (pv 0) (a0_ (pv 1) a2_))) a2_)))),?_⟩
  refine⟨_,rfl,_,rfl,_,rfl,g,p,d,hs,ts,qs,fp,ns,f,rfl,S.G,S.dfp,S.hd,S.ok,S.nd,S.h64,fun d1 H1 s1 n1 e1=>?_⟩
  obtain⟨fp',Pl⟩:=S.placed s1 n1 e1
  exact⟨g,p,d1,hs,ts,qs,fp',f,rfl,Pl,wp,fun t r H2 s2 ir e=>k t r H2 (s1.trans s2) ir e⟩
abbrev cpS:List Str:=["one","other","levels"]
theorem scSteep:FnScope ["goods","stand","levels","above"] ["goods","stand"] (defScope sSteep):=⟨rfl,rfl,rfl,by decide +kernel,rfl,by decide +kernel,by decide +kernel⟩
def spSteep(K:PySem.W.Frag)(CG CW:Addr):Sp:=fun vs H Q _=>∃(g p d:Addr) (hs:List (Str × Int)) (ts:List (Str × Str)) (qs:List Pc) (fp:List Addr) (ns:List Str) (f:Str->Str),vs=[.ref g,.ref d]/\Std K CG CW H g p d hs ts qs fp ns f/\(∀q∈qs,0<=q.2.1/\q.2.1<=1000000000)/\∀t r H',Same H H'->IsSteep hs ts qs f r->H' t=some (.tup [.int (fr r (mulOf hs)).1,.int (fr r (mulOf hs)).2])->Q (.ref t) H'
theorem hj_{f CG CW:Addr}{fd:FuncData}(F:Fun K "steepest" "steepest" sSteep f fd)(B:Bi mg)(mAbs:mg "abs"=none)(T:TxtG K CG)(TW:Txt K mg CW)(cC:Cal P w K mg base 2 "checked_stand" ["goods","stand"] (spCStand K CG CW))(cV:Cal P w K mg base 4 "levels_at" ["goods","placed"] (spLevels K CG CW))(cT:CalM P w K mg base CW 2 "ties" ["self"] (spTiesM K CW))(cM:Cal P w K mg base 3 "multiple_of_strengths" ["web"] (spMult K CW))(cF:Cal P w K mg base 2 "fraction_of" ["top","below"] spFrac2):FnOk P w K mg base CX0 5 f fd ["goods","stand"] (spSteep K CG CW):=by
 refine F.ok scSteep (fun vs H Q E h=>?_) (fun cdv A outer s H vs Q E hr h=>?_)
 ·obtain⟨g,p,d,hs,ts,qs,fp,ns,f,rfl,_⟩:=h
  rfl
 ·obtain⟨g,p,d,hs,ts,qs,fp,ns,f,rfl,S,wp,k⟩:=h
  have hu:=b1_ hr
  have sz:=sizeLine_eq
  have mo:=br_ S.Gd
  have hr2:Room 2 _:=hr.mono (by decide)
  refine' ⟨_,a3_ ?s1 (a3_ ?s2 (a5_ ?s3)),?kk⟩
  case s1=>exact ab_ (i:=2) scSteep.nd rfl (Or.inr rfl) (a9_ cV hr (a0_ (pv 0) (a0_ (a9_ cC hr2 (a0_ (pv 0) (a0_ (pv 1) a2_))) a2_)))
  case' s2=>refine' bp_ (i:=3) cpS 2 [2] scSteep.nd rfl (Or.inl rfl) (aj_ (bV_ cT TW.cl hr2 (aP_ (pv 0) rfl))) ?u1 (fun fp s H=>au_) ?u3
  case u1=>exact fun fp s H=>b9_ (n:=2) (aa_ (a8_ (i:=0) (show cpS.Nodup by decide +kernel) rfl (Or.inl rfl)) (aa_ (a8_ (i:=1) (show cpS.Nodup by decide +kernel) rfl (Or.inl rfl)) aF_))
  case u3=>exact fun fp s H=>ac_ hS_ (by rfl) mAbs PyProof.Rows.Boot.«abs» (a0_ (ai_ gL_ (aJ_ hu (pv 2) (pv 0) (fun _ _=>rfl)) (aJ_ hu (pv 2) (pv 1) (fun _ _=>rfl))) a2_)
  case s3=>exact ad_ (a9_ cF hr2 (a0_ (is_ rfl (by rfl) B.max (a0_ (pv 3) a2_) (iO_ a6_ jx_)) (a0_ (a9_ cM (hr.mono (by decide)) (a0_ (aP_ (pv 0) rfl) a2_)) a2_)))
  case' kk=>skip
  refine⟨_,rfl,_,rfl,_,rfl,g,p,d,hs,ts,qs,fp,ns,f,rfl,S.G,S.dfp,S.hd,S.ok,S.nd,S.h64,fun d1 H1 s1 n1 e1=>?_⟩
  obtain⟨fp',Pl⟩:=S.placed s1 n1 e1
  refine⟨g,p,d1,hs,ts,qs,fp',f,rfl,Pl,wp,fun dv H2 s2 n2 e2=>?_⟩
  have so2:=s1.trans s2
  have G2:=S.G.same so2
  obtain⟨dx,dw,dy,vs,fpw,h1,h2,_⟩:=id G2.ex
  obtain⟨dxw,d1',l2,d3,zs0,as,ef,w1,_⟩:=id h2.ex
  refine⟨_,rfl,g,CG,dx,_,_,rfl,h1,T.cl,T.nW,bm_ _ _ _,p,dxw,_,rfl,w1,b5_ _ _ _ (by decide +kernel) (by decide +kernel) (by decide +kernel),p,hs,ts,fpw,rfl,h2,S.Gd.t64,fun lt zt H3 s3 nt e3 tt=>?_⟩
  have ltz:=Paired.length tt
  rw[List.length_map,cn_] at ltz
  have t64:=S.Gd.t64
  have tin:∀t∈tsOf ts,t.1∈nmsOf hs/\t.2∈nmsOf hs:=fun t ht=>by
   obtain⟨u,hu,e⟩:=tsOf_mem.mp ht
   have:=S.Gd.tin u hu
   have a1:=(ak_ hs).mem_iff.mpr this.1
   have a2:=(ak_ hs).mem_iff.mpr this.2
   rcases cP_ u.1 u.2 with z|z
   ·rw[z] at e
    rw[<- e]
    exact⟨a1,a2⟩
   ·rw[z] at e
    rw[<- e]
    exact⟨a2,a1⟩
  refine⟨lt,rfl,⟨_,.of e3⟩,fun D hD=>?_⟩
  refine aq_ (own:=2) (fv:=[some (.ref dv)]) (xs:=zt) rfl gok2 (fun i out H'=>Same H3 H'/\H' D=some (.lst out)/\out=(((tsOf ts).take i).map (aV hs qs f)).map V.int) ⟨Same.new hD,a1_,rfl⟩ (fun i out H' _ ⟨sm,_,_⟩=>.of (sm _ _ e3)) (fun out H4 ⟨s4,hD4,eo⟩=>?_) (fun i y out H' hy ⟨sm,hD',eo⟩=>?_)
  rotate_left 1
  ·have hi:i<zt.length:=(List.getElem?_eq_some_iff.mp hy).1
   obtain⟨t,ht,a,rfl,ha⟩:=aD_ tt hy
   have tn:=tin t (List.mem_of_getElem? ht)
   have ha:=hpT (sm _ _ ha)
   have e2':=(s3.trans sm) _ _ e2
   refine⟨_,⟨a,_,_,rfl,.of ha,rfl⟩,rfl,fun Nx hN=>yesT ?_⟩
   refine⟨_,rfl,_,rfl,dv,.int (lvF hs qs f t.1),rfl,?_,_,rfl,_,rfl,dv,.int (lvF hs qs f t.2),rfl,?_,_,_,rfl,rfl,_,rfl,out,hD',by rw[eo,List.length_map,List.length_map,List.length_take];omega,hN _ _ ⟨al_ sm hD,a1_,?_⟩⟩
   ·rw[<- bu_ (g:=fun h=>V.int (lvF hs qs f h)) tn.1]
    exact .k (k:=Sum.inr t.1) e2'
   ·rw[<- bu_ (g:=fun h=>V.int (lvF hs qs f h)) tn.2]
    exact .k (k:=Sum.inr t.2) e2'
   ·rw[List.take_add_one,ht,List.map_append,List.map_append,eo]
    rfl
  rw[ltz,<- cn_,List.take_length] at eo
  rw[eo] at hD4
  refine⟨_,rfl,D,_,0,rfl,rfl,.of hD4,fun m hm=>?_⟩
  have so4:=so2.trans (s3.trans s4)
  have G4:=S.G.same so4
  obtain⟨dx,dw,dy,vs,fpw,h1,h2,_⟩:=id G4.ex
  refine⟨_,rfl,g,CG,dx,_,_,rfl,h1,T.cl,T.nW,bm_ _ _ _,p,hs,ts,fpw,rfl,h2,S.Gd,fun H5 s5=>?_⟩
  have ir:IsSteep hs ts qs f m:=by
   rcases hm with⟨e,rfl⟩|⟨hm,mx⟩
   ·exact .inl ⟨List.map_eq_nil_iff.mp e,rfl⟩
   ·obtain⟨t,ht,rfl⟩:=List.mem_map.mp hm
    exact .inr ⟨t,ht,rfl,fun u hu=>mx _ (List.mem_map.mpr ⟨u,hu,rfl⟩)⟩
  have m0:0<=m:=by
   rcases ir with⟨_,rfl⟩|⟨t,_,rfl,_⟩
   ·decide
   ·exact ii_
  exact⟨m,mulOf hs,rfl,m0,mo.1,mo.2.1,fun t ht=>k t m _ ((so4.trans s5).trans (Same.new ht)) ir a1_⟩
end
end Ev
set_option Elab.async false
set_option linter.all false
set_option maxRecDepth 100000
namespace L2
open PySem PySem.Spec PyProof.Rows PySem.W EvS EvD
theorem dy_{α β:Type}{f g:α->Option β}:∀{l:List α},(∀x∈l,f x=g x)->l.filterMap f=l.filterMap g
 |[],_=>rfl
 |a::l,h=>by rw[List.filterMap_cons,List.filterMap_cons,h a List.mem_cons_self,dy_ fun x hx=>h x (List.mem_cons_of_mem _ hx)]
theorem hA_(its:List Value):slicePick its.toArray none none (some (-1))=its.reverse.toArray:=by
 have key:((List.range its.length).map fun k=>its[its.length - 1 - k]?)=its.reverse.map some:=by
  apply List.ext_getElem
  ·simp
  ·intro i h1 h2
   have hi:i<its.length:=by simpa using h1
   simp only[List.getElem_map,List.getElem_range,List.getElem_reverse]
   rw[List.getElem?_eq_getElem (by omega)]
 have e:(sliceRange (sliceBounds none none (some (-1)) its.toArray.size).1 (sliceBounds none none (some (-1)) its.toArray.size).2.1 (sliceBounds none none (some (-1)) its.toArray.size).2.2).filterMap (its.toArray[·]?)=((List.range its.length).map fun k=>its[its.length - 1 - k]?).filterMap id:=by
  have c:(if (((its.length:Nat):Int) - 1) > -1 then ((((its.length:Nat):Int) - 1) - -1 - -1 - 1) / (- -1) else 0).toNat=its.length:=by
   by_cases z:(((its.length:Nat):Int) - 1) > -1
   ·rw[if_pos z,show (- -1:Int)=1 by decide,Int.ediv_one]
    omega
   ·rw[if_neg z]
    omega
  show (((List.range (if (((its.length:Nat):Int) - 1) > -1 then ((((its.length:Nat):Int) - 1) - -1 - -1 - 1) / (- -1) else 0).toNat).map fun(k:Nat)=>((((its.length:Nat):Int) - 1) + -1 * (k:Int)).toNat)).filterMap (its.toArray[·]?)=_
  rw[c,List.filterMap_map,List.filterMap_map]
  refine dy_ fun k hk=>?_
  have hk:k<its.length:=List.mem_range.mp hk
  show its.toArray[((((its.length:Nat):Int) - 1) + -1 * (k:Int)).toNat]? = its[its.length - 1 - k]?
  rw[List.getElem?_toArray]
  congr 1
  omega
 unfold slicePick
 rw[e,key,List.filterMap_map]
 congr 1
 exact (dy_ fun _ _=>rfl).trans List.filterMap_some
section
variable{X:Cx}{e st:Expr}{te ts:TE}{pos p2:Pos}
def tRevL(K:PySem.W.Frag)(te ts:TE):TE:=fun σ H Q=>te σ H fun x H1=>ts σ H1 fun y H2=>y=.int (-1)/\∃a xs,x=.ref a/\SqL K H2 a xs/\∀p,H2 p=none->Q (.ref p) (upd H2 p (.lst xs.reverse))
theorem eX_:∀{xs:List V} {us:List Value},Vals xs us->Vals xs.reverse us.reverse
 |_,_,.nil=>.nil
 |_,_,.cons h t=>by
  rw[List.reverse_cons,List.reverse_cons]
  exact (eX_ t).append (.cons h .nil)
theorem cG_(he:PE X e te)(hs:PE X st ts):PE X (.Subscript e (.Slice none none (some st) p2) pos) (tRevL X.K te ts):=by
 intro pins s σ H Q I h
 refine Subscript_ (thn (he pins s σ H _ I h) fun v s1 ⟨x,H1,I1,r1,q1⟩=>?_)
 refine wpAny_Slice ?_
 rw[evalPart_none]
 refine wpAny_pure (wpAny_pure ?_)
 rw[evalPart_some]
 refine thn (hs pins s1 σ H1 _ I1 q1) fun vs s3 ⟨y,H3,I3,ry,ey,a,xs,ex,hx,q⟩=>?_
 subst ex ey
 obtain⟨t,rfl⟩:=ry
 cases r1
 have I4:Inv X pins σ H3 { s3 with heap:=s3.heap.push { cls:=.type "slice",data:=.fields #[.none,.none,.int (-1) t] } }:=I3.kept (t':=s3.toks) fun b ob q=>Heap.get?_push_of_some _ q
 obtain⟨its,r,ht,hz⟩:=I4.list hx
 have hlen:=r.length
 show wpAny (model X.prog X.w) X.A (subscriptTail e (.Slice none none (some st) p2) (.ref a) (.ref s3.heap.objs.size)) (EP X pins σ Q) X.xe { s3 with heap:=s3.heap.push { cls:=.type "slice",data:=.fields #[.none,.none,.int (-1) t] } }
 refine tail_any (ops:=[.ref a,.ref s3.heap.objs.size]) ht.isList.typeIs slot_list_getitem.lookup (wpAny_getItem_list_slice ht.isList (Heap.IsSliceOf.new ..) .none .none (.int (-1) t) (by simp) ?_ (by rw[List.size_toArray]<;>omega)) (by with_unfolding_all rfl)
 rw[hA_]
 refine⟨.ref _,upd H3 _ (.lst xs.reverse),I4.laid (t':=s3.toks) (fun b o e=>Heap.get?_push_of_some _ e) (Nat.le_refl _) ?_,rfl,q _ (I4.hok.fresh (Nat.le_refl _))⟩
 exact⟨by rw[List.length_reverse];exact hz,_,0,eX_ r,Heap.get?_push_size _ rfl⟩
end
section
variable{X:Cx}
def rN:Rp Unit:=fun _ x _=>x=.non
theorem cmpN:Cmp X 0 rN where
 eq:=fun {pins σ H s A x y u v d e} I ru rv hx hy hu=>by
  have hx:x=.non:=hx
  have hy:y=.non:=hy
  subst hx
  subst hy
  exact eJ_ (A:=A) (s:=s) ru rv rfl rfl
 one:=fun {pins σ H s x d e} I hx hy=>rfl
def Alk(X:Cx)(H:Hp)(x y:V):Prop:=∃(n:Nat) (D:Type) (_:DecidableEq D) (R:Rp D) (d:D),n<=8/\Cmp X n R/\R H x d/\R H y d
def rNeAlk(X:Cx):V->V->Hp->VK->Prop:=fun x y H Q=>∃a b xs ys,x=.ref a/\y=.ref b/\SqL X.K H a xs/\SqL X.K H b ys/\Paired (Alk X H) xs ys/\Q (.bl false) H
theorem fb_(hu:X.A.units+8+1<cLine):OpR X (compareOp .NotEq) (rNeAlk X):=by
 intro pins s σ H x y v u Q I rx ry h
 obtain⟨a,b,xs,ys,rfl,rfl,t,t',pp,hq⟩:=h
 cases rx
 cases ry
 obtain⟨us,r,pl,_⟩:=I.list t
 obtain⟨vs,r',pl',_⟩:=I.list t'
 have l1:=r.length
 have l2:=r'.length
 have l3:=Paired.length pp
 refine EvN.ne_listAt pl.isList pl'.isList (e:=fun _=>true) (by simp only[List.size_toArray];omega) (by omega) (fun j h1 h2=>?_) ⟨.bl _,H,I,rfl,?_⟩
 ·simp only[List.size_toArray] at h1 h2
  obtain⟨n,D,i,R,d,hn,c,q1,q2⟩:=ah_ pp j (by omega) (by omega)
  have k:=c.eq (A:=X.A.in1) I (ah_ r j (by omega) h1) (ah_ r' j (by omega) h2) q1 q2 (by show X.A.units+1+n<cLine;omega)
  rwa [decide_eq_true rfl] at k
 ·rw[show ((List.range us.toArray.size).all fun _=>true)=true from List.all_eq_true.mpr fun _ _=>rfl]
  exact hq
end
end L2
set_option Elab.async false
set_option linter.all false
set_option maxRecDepth 100000
namespace L2
open PySem PySem.Spec PyProof.Rows PySem.W
def rSumV:List V->Hp->VK->Prop:=fun xs H Q=>∃(v d:Addr) (ns:List (Key × Int)),xs=[.ref v]/\H v=some (valuesV v d)/\Rd H d (.dK (ns.map fun x=>(x.1,V.int x.2)))/\Q (.int (ns.map (·.2)).sum) H
theorem da_(l:List Int):∀n,n<=l.length->preSum (fun i=>(l[i]?).getD 0) n=(l.take n).sum
 |0,_=>by simp[preSum]
 |n+1,h=>by
  show preSum (fun i=>(l[i]?).getD 0) n+(l[n]?).getD 0=_
  rw[da_ l n (by omega),List.take_add_one,List.sum_append,List.getElem?_eq_getElem (by omega)]
  simp
theorem gr_{X:Cx}(hc:X.calm=true):CallR X (.builtin "sum") rSumV:=by
 intro pins s σ H xs us Q I r h
 obtain⟨v,d,ns,rfl,hv,hd,q⟩:=h
 obtain⟨u,rfl,ru⟩:=vals1 r
 cases ru
 obtain⟨z,hne,vs,rel,dd⟩:=bo_ I.hok hd
 obtain⟨ep,dat⟩:=dd.dictAt
 obtain⟨iv,_,_⟩:=I.hok v _ hv
 have dlt:d<s.heap.objs.size:=by
  obtain⟨o,es,ho,_⟩:=dat
  exact Heap.lt_size ho
 refine call_sum_walkG (wpAny_pyIter_values (knd:=mixKind X.prog X.w) (kvs:=vs) (ep:=ep) iv dat ?_)
 refine⟨s.heap.objs.size,[s.heap.objs.size,d],[s.heap.objs.size],vs.length,fun i v=>∃k,vs[i]? = some (k,v),_,fun i=>((ns.map (·.2))[i]?).getD 0,rfl,c7_ (ep:=ep) (I.ok.hd hc) (Nat.ne_of_lt dlt),⟨⟨_,Heap.get?_push_size _ rfl,rfl,rfl⟩,?_⟩,fun b hb=>?_,fun i v ⟨k,hv⟩=>?_,fun h' tk t' k=>?_⟩
 ·obtain⟨o,es,ho,r⟩:=dat
  exact⟨o,es,Heap.get?_push_of_some _ ho,r⟩
 ·have hb:b=s.heap.objs.size∨b=d:=by simpa using hb
  show b<(s.heap.objs.push _).size
  rw[Array.size_push]
  rcases hb with e|e
  ·rw[e]
   exact Nat.lt_succ_self _
  ·rw[e]
   exact Nat.lt_succ_of_lt dlt
 ·obtain⟨n,t,e1,e2⟩:=cA_ rel hv
  refine⟨t,?_⟩
  show v=.int (((ns.map (·.2))[i]?).getD 0) t
  rw[e1]
  exact e2
 ·refine⟨.int _,H,I.kept (t':=tk) (fun b o e=>k b o (fun m=>?_) (Heap.get?_push_of_some _ e)),⟨t',?_⟩,q⟩
  rotate_left
  ·have hl:=rel.length
   rw[List.length_map] at hl
   rw[da_ _ _ (by rw[List.length_map];omega),List.take_of_length_le (by rw[List.length_map];omega)]
  have m:b=s.heap.objs.size:=by simpa using m
  exact absurd m (Nat.ne_of_lt (Heap.lt_size e))
end L2
set_option Elab.async false
set_option linter.all false
set_option maxRecDepth 100000
namespace Ev
open PySem L2
def Rs(N:List Str)(lv:Str->Int)(r:Int):Prop:=∃x∈N,∃y∈N,r=lv x - lv y/\∀z∈N,lv z<=lv x/\lv y<=lv z
theorem dS_{N:List Str}{lv lv':Str->Int}{A B:Int}(hA:0<A)(hB:0<B)(e:∀z∈N,lv z * A=lv' z * B){x x':Str}(hx:x∈N)(hx':x'∈N)(m:∀z∈N,lv z<=lv x)(m':∀z∈N,lv' z<=lv' x'):lv x * A=lv' x' * B:=by
 have h1:=Int.mul_le_mul_of_nonneg_right (m x' hx') (Int.le_of_lt hA)
 have h2:=Int.mul_le_mul_of_nonneg_right (m' x hx) (Int.le_of_lt hB)
 rw[e x' hx'] at h1
 rw[<- e x hx] at h2
 exact Int.le_antisymm h2 h1
theorem bX_{N:List Str}{lv lv':Str->Int}{A B r r':Int}(hA:0<A)(hB:0<B)(e:∀z∈N,lv z * A=lv' z * B)(h:Rs N lv r)(h':Rs N lv' r'):r * A=r' * B:=by
 obtain⟨x,hx,y,hy,rfl,m⟩:=h
 obtain⟨x',hx',y',hy',rfl,m'⟩:=h'
 have k1:=dS_ hA hB e hx hx' (fun z hz=>(m z hz).1) (fun z hz=>(m' z hz).1)
 have k2:=dS_ (lv:=fun z=>-(lv z)) (lv':=fun z=>-(lv' z)) hA hB (fun z hz=>by rw[Int.neg_mul,Int.neg_mul,e z hz]) hy hy' (fun z hz=>by have:=(m z hz).2;omega) (fun z hz=>by have:=(m' z hz).2;omega)
 have k2:-(lv y) * A=-(lv' y') * B:=k2
 rw[Int.neg_mul,Int.neg_mul] at k2
 rw[Int.sub_mul,Int.sub_mul]
 omega
def av(lv:Str->Int)(t:Str × Str):Int:=if lv t.1 - lv t.2<0 then -(lv t.1 - lv t.2) else lv t.1 - lv t.2
def Stp(T:List (Str × Str))(lv:Str->Int)(r:Int):Prop:=(T=[]/\r=0)∨∃t∈T,r=av lv t/\∀u∈T,av lv u<=r
theorem hQ_{lv lv':Str->Int}{A B:Int}(hA:0<A)(hB:0<B){t:Str × Str}(e1:lv t.1 * A=lv' t.1 * B)(e2:lv t.2 * A=lv' t.2 * B):av lv t * A=av lv' t * B:=by
 have d:(lv t.1 - lv t.2) * A=(lv' t.1 - lv' t.2) * B:=by rw[Int.sub_mul,Int.sub_mul,e1,e2]
 unfold av
 generalize lv t.1 - lv t.2=x at d
 generalize lv' t.1 - lv' t.2=y at d
 by_cases c1:x<0
 ·have k1:=Int.mul_neg_of_neg_of_pos c1 hA
  by_cases c2:y<0
  ·rw[if_pos c1,if_pos c2,Int.neg_mul,Int.neg_mul,d]
  ·have:=Int.mul_nonneg (show 0<=y by omega) (Int.le_of_lt hB)
   omega
 ·have k1:=Int.mul_nonneg (show 0<=x by omega) (Int.le_of_lt hA)
  by_cases c2:y<0
  ·have:=Int.mul_neg_of_neg_of_pos c2 hB
   omega
  ·rw[if_neg c1,if_neg c2,d]
theorem cD_{T:List (Str × Str)}{lv lv':Str->Int}{A B r r':Int}(hA:0<A)(hB:0<B)(e:∀t∈T,lv t.1 * A=lv' t.1 * B/\lv t.2 * A=lv' t.2 * B)(h:Stp T lv r)(h':Stp T lv' r'):r * A=r' * B:=by
 have ae:∀t∈T,av lv t * A=av lv' t * B:=fun t ht=>hQ_ hA hB (e t ht).1 (e t ht).2
 rcases h with⟨z,rfl⟩|⟨t,ht,rfl,m⟩
 ·rcases h' with⟨_,rfl⟩|⟨t,ht,_⟩
  ·rw[Int.zero_mul,Int.zero_mul]
  ·rw[z] at ht
   cases ht
 ·rcases h' with⟨z,_⟩|⟨t',ht',rfl,m'⟩
  ·rw[z] at ht
   cases ht
  ·have h1:=Int.mul_le_mul_of_nonneg_right (m t' ht') (Int.le_of_lt hA)
   have h2:=Int.mul_le_mul_of_nonneg_right (m' t ht) (Int.le_of_lt hB)
   rw[ae t' ht'] at h1
   rw[<- ae t ht] at h2
   exact Int.le_antisymm h2 h1
theorem df_{a b:Int}(hb:0<b):(fr a b).1 * b=a * (fr a b).2/\0<(fr a b).2:=by
 obtain⟨g,hg,e1,e2,p,_⟩:=iT_ (t:=a) hb
 have e1:a=g * (fr a b).1:=e1
 have e2:b=g * (fr a b).2:=e2
 refine⟨?_,p⟩
 calc (fr a b).1 * b=(fr a b).1 * (g * (fr a b).2):=by rw[<- e2]
  _=g * (fr a b).1 * (fr a b).2:=by grind
  _=a * (fr a b).2:=by rw[<- e1]
theorem bS_{r M r' M' t:Int}(hM:0<M)(hM':0<M')(e:r * M'=r' * M * t):(fr r M).1 * (fr r' M').2=(fr r' M').1 * (fr r M).2 * t:=by
 obtain⟨k1,_⟩:=df_ (a:=r) hM
 obtain⟨k2,_⟩:=df_ (a:=r') hM'
 generalize fr r M=x at k1 ⊢
 generalize fr r' M'=y at k2 ⊢
 refine Int.eq_of_mul_eq_mul_right (a:=M * M') (by have:=Int.mul_pos hM hM';omega) ?_
 calc x.1 * y.2 * (M * M')=(x.1 * M) * (y.2 * M'):=by grind
  _=(r * M') * (x.2 * y.2):=by rw[k1];grind
  _=(r' * y.2) * (M * t * x.2):=by rw[e];grind
  _=(y.1 * M') * (M * t * x.2):=by rw[<- k2]
  _=y.1 * x.2 * t * (M * M'):=by grind
theorem aY_{a b:List Str}(p:a.Perm b):sortS a=sortS b:=cJ_ ((ar_ a).trans (p.trans (ar_ b).symm)) (cH_ _) (cH_ _)
theorem dE_{hs hs':List (Str × Int)}(p:(hs'.map (·.1)).Perm (hs.map (·.1))):nmsOf hs'=nmsOf hs:=by rw[d3_,d3_,aY_ p]
theorem go_{ts ts':List (Str × Str)}(p:(ts'.map kO).Perm (ts.map kO)):tsOf ts'=tsOf ts:=by
 unfold tsOf
 have:sortKs (ts'.map fun t=>kT (ord2 t.1 t.2))=sortKs (ts.map fun t=>kT (ord2 t.1 t.2)):=cI_ ((am_ _).trans p) (by_ _)
 rw[this]
def swp(t:Str × Str):Str × Str:=(t.2,t.1)
def bk(ts:List (Str × Str)):List (Str × Str):=ts.reverse.map swp
theorem cB_(ts:List (Str × Str)):((bk ts).map kO).Perm (ts.map kO):=by
 unfold bk
 rw[List.map_map,show kO ∘ swp=kO from funext fun t=>es_ t.2 t.1]
 exact (List.reverse_perm ts).map _
def tn(p:Pc):Pc:=(p.1,p.2.1,p.2.2.map bk)
theorem ib_(p:Pc):nrm (tn p)=nrm p:=by
 unfold nrm tn
 cases p.2.2 with
 |none=>rfl
 |some ws=>
  show (p.1,p.2.1,some (tsOf (bk ws)))=_
  rw[go_ (cB_ ws)]
  rfl
theorem g0_{P:Pc->Prop}(inj:∀q q',P q->P q'->q.1=q'.1->q=q'):∀{a b:List Pc},a.map (·.1)=b.map (·.1)->(∀q∈a,P q)->(∀q∈b,P q)->a=b
 |[],[],_,_,_=>rfl
 |[],_::_,e,_,_=>by cases e
 |_::_,[],e,_,_=>by cases e
 |q::a,q'::b,e,h,h'=>by
  rw[List.map_cons,List.map_cons] at e
  obtain⟨e1,e2⟩:=List.cons.inj e
  rw[inj q q' (h q List.mem_cons_self) (h' q' List.mem_cons_self) e1,g0_ inj e2 (fun x hx=>h x (List.mem_cons_of_mem _ hx)) fun x hx=>h' x (List.mem_cons_of_mem _ hx)]
theorem Qs.one{ps qs qs':List Pc}(nd:(ps.map (·.1)).Nodup)(Q:Qs ps qs)(Q':Qs ps qs'):qs'=qs:=by
 refine g0_ (P:=fun q=>∃p∈ps,q=nrm p) (fun q q' ⟨p,hp,e⟩ ⟨p',hp',e'⟩ z=>?_) (Q'.nms.trans Q.nms.symm) Q'.mem Q.mem
 rw[e,e'] at z
 rw[e,e',e8_ nd hp hp' z]
theorem Qs.back{ps qs':List Pc}(Q:Qs (ps.reverse.map tn) qs'):Qs ps qs':=by
 refine⟨?_,fun q hq=>?_⟩
 ·rw[Q.nms,List.map_map,show (fun x:Pc=>x.1) ∘ tn=fun x=>x.1 from rfl]
  exact aY_ ((List.reverse_perm ps).map _)
 ·obtain⟨p',hp',e⟩:=Q.mem q hq
  obtain⟨p,hp,rfl⟩:=List.mem_map.mp hp'
  exact⟨p,List.mem_reverse.mp hp,by rw[e,ib_]⟩
def tmP(t:Int)(p:Pc):Pc:=(p.1,p.2.1 * t,p.2.2)
theorem eC_(f:Str->Str)(t:Int)(h:Str):∀ps:List Pc,ld f ((ps.map (tmP t)).map wOf) h=ld f (ps.map wOf) h * t
 |[]=>by show (0:Int)=0 * t;omega
 |p::ps=>by
  rw[List.map_cons,List.map_cons,List.map_cons,dk_,dk_,eC_ f t h ps,Int.add_mul]
  show (if f p.1=h then p.2.1 * t else 0)+_=(if f p.1=h then p.2.1 else 0) * t+_
  by_cases c:f p.1=h
  ·rw[if_pos c,if_pos c]
  ·rw[if_neg c,if_neg c,Int.zero_mul]
theorem j6_{ps qs qm:List Pc}{t:Int}(nd:(ps.map (·.1)).Nodup)(Q:Qs ps qs)(Qm:Qs (ps.map (tmP t)) qm)(f:Str->Str)(h:Str):ld f (qm.map wOf) h=ld f (qs.map wOf) h * t:=by
 rw[fY_ f (Qm.ws (by rw[List.map_map];exact nd)) h,eC_,fY_ f (Q.ws nd) h]
def tmH(t:Int)(h:Str × Int):Str × Int:=(h.1,h.2 * t)
theorem bd_(t:Int)(hs:List (Str × Int)):(hs.map (tmH t)).map (·.1)=hs.map (·.1):=by
 rw[List.map_map]
 rfl
theorem eK_{hs:List (Str × Int)}(nd:(hs.map (·.1)).Nodup){t:Int}{n:Str}(h:n∈hs.map (·.1)):strOf (hs.map (tmH t)) n=strOf hs n * t:=
 f4_ (by rw[bd_];exact nd) (List.mem_map.mpr ⟨_,b7_ h,rfl⟩)
theorem cm_{hs hs':List (Str × Int)}(nd:(hs.map (·.1)).Nodup)(p:hs'.Perm hs){n:Str}(h:n∈hs.map (·.1)):strOf hs' n=strOf hs n:=
 f4_ ((p.map _).nodup_iff.mpr nd) (p.mem_iff.mpr (b7_ h))
theorem du_{hs hs':List (Str × Int)}(nd:(hs.map (·.1)).Nodup)(p:hs'.Perm hs):mulOf hs'=mulOf hs:=by
 unfold mulOf
 rw[dE_ (p.map _)]
 congr 1
 exact List.map_congr_left fun n hn=>cm_ nd p ((ak_ hs).mem_iff.mp hn)
theorem jf_{hs hs':List (Str × Int)}(nd:(hs.map (·.1)).Nodup)(p:hs'.Perm hs){qs:List Pc}{f:Str->Str}{n:Str}(h:n∈nmsOf hs):lvF hs' qs f n=lvF hs qs f n:=by
 unfold lvF
 rw[du_ nd p,cm_ nd p ((ak_ hs).mem_iff.mp h)]
theorem ix_{hs hs':List (Str × Int)}(nd:(hs.map (·.1)).Nodup)(p:hs'.Perm hs){qs:List Pc}{f:Str->Str}:smF hs' qs f=smF hs qs f:=by
 unfold smF sumF
 rw[dE_ (p.map _),du_ nd p]
 congr 1
 exact List.map_congr_left fun n hn=>by
  show _ * (_ * (mulOf hs / strOf hs' n))=_
  rw[cm_ nd p ((ak_ hs).mem_iff.mp hn)]
theorem gm_(ns:List Str)(L L' c:Str->Int)(t:Int)(e:∀n,L' n=L n * t):sumF ns L' c=sumF ns L c * t * t:=by
 unfold sumF
 induction ns with
 |nil=>show (0:Int)=0 * t * t;omega
 |cons n ns ih=>
  rw[List.map_cons,List.map_cons,List.sum_cons,List.sum_cons,ih,e n]
  grind
theorem gl_{hs:List (Str × Int)}{ts:List (Str × Str)}{t:Int}(G:Good hs ts)(G':Good (hs.map (tmH t)) ts)(ht:0<t){qs:List Pc}{f:Str->Str}{n:Str}(h:n∈nmsOf hs):lvF hs qs f n * mulOf (hs.map (tmH t))=lvF (hs.map (tmH t)) qs f n * (mulOf hs * t):=by
 have hn:=(ak_ hs).mem_iff.mp h
 have en:=dE_ (hs:=hs) (hs':=hs.map (tmH t)) (by rw[bd_])
 have k1:=(br_ G).2.2 n h
 have k2:=(br_ G').2.2 n (by rw[en];exact h)
 have es:=eK_ G.hnd (t:=t) hn
 have s1:=bF_ G h
 unfold lvF
 generalize mulOf hs / strOf hs n=c at k1 ⊢
 generalize mulOf (hs.map (tmH t)) / strOf (hs.map (tmH t)) n=c' at k2 ⊢
 rw[es] at k2
 rw[<- k1,<- k2]
 grind
theorem e6_{ns:List Str}(nd:ns.Nodup)(f:Str->Str):∀{ws:List (Str × Int)},(∀x∈ws,f x.1∈ns)->(ns.map (ld f ws)).sum=(ws.map (·.2)).sum
 |[],_=>by
  show (ns.map fun _=>(0:Int)).sum=0
  induction ns with
  |nil=>rfl
  |cons n ns ih=>rw[List.map_cons,List.sum_cons,ih (List.nodup_cons.mp nd).2 (fun x hx=>by cases hx)];rfl
 |x::ws,h=>by
  have e:(ns.map (ld f (x::ws)))=ns.map fun n=>(if n=f x.1 then x.2 else 0)+ld f ws n:=List.map_congr_left fun n _=>by
   rw[dk_]
   by_cases c:f x.1=n
   ·rw[if_pos c,if_pos c.symm]
   ·rw[if_neg c,if_neg fun z=>c z.symm]
  rw[e,iq_,iy_ nd (h x List.mem_cons_self),e6_ nd f fun y hy=>h y (List.mem_cons_of_mem _ hy),List.map_cons,List.sum_cons]
theorem d4_{ns hs:List Str}(nn:ns.Nodup)(hn:hs.Nodup)(f:Str->Str)(h:∀n∈ns,f n∈hs):(hs.flatMap fun x=>ns.filter fun n=>decide (f n=x)).Perm ns:=by
 refine (List.perm_ext_iff_of_nodup ?_ nn).mpr fun a=>?_
 ·rw[List.nodup_iff_pairwise_ne,List.pairwise_flatMap]
  refine⟨fun x _=>List.nodup_iff_pairwise_ne.mp (nn.sublist List.filter_sublist),(List.nodup_iff_pairwise_ne.mp hn).imp fun {x y} ne a ha b hb z=>?_⟩
  have h1:=(List.mem_filter.mp ha).2
  have h2:=(List.mem_filter.mp hb).2
  rw[z] at h1
  exact ne ((of_decide_eq_true h1).symm.trans (of_decide_eq_true h2))
 ·rw[List.mem_flatMap]
  constructor
  ·rintro⟨x,_,ha⟩
   exact (List.mem_filter.mp ha).1
  ·intro ha
   exact⟨f a,h a ha,List.mem_filter.mpr ⟨ha,by simp⟩⟩
end Ev
set_option Elab.async false
set_option linter.all false
set_option maxRecDepth 100000
namespace L2
open PySem PySem.Spec PyProof.Rows PySem.W
def CMulB(i j:Int):Prop:=i.natAbs<2 ^ 250/\j.natAbs<2 ^ 250
theorem fa_{k:Int}(h:k.natAbs<2 ^ 250):Builtin.Int.intBits k<=250:=by
 unfold Builtin.Int.intBits
 split
 ·exact Nat.zero_le _
 ·have:k.natAbs.log2<250:=by
   rcases Nat.eq_zero_or_pos k.natAbs with h0|hp
   ·rw[h0];decide
   ·exact (Nat.log2_lt (Nat.ne_of_gt hp)).mpr h
  omega
theorem gt_{X:Cx}:OpR X (binaryOp .Mult) (rI CMulB fun i j=>.int (i * j)):=opI fun i j _ _ _ _ _ hc q=>mul_int q (by
 have h1:=fa_ hc.1
 have h2:=fa_ hc.2
 have e:=bitsLine_eq
 unfold IntMulOk Builtin.Int.intTooBig
 have z:¬((Builtin.Int.intBits i:Int)+(Builtin.Int.intBits j:Int) > (bitsLine:Int)):=by omega
 simp[z])
end L2
namespace Ev
open PySem L2
theorem b4_{α β:Type}{F:α->β->Prop}:∀{l:List α} {m:List β},Paired F l m->Paired F l.reverse m.reverse
 |_,_,.nil=>.nil
 |_,_,.cons h t=>by
  rw[List.reverse_cons,List.reverse_cons]
  exact as_ (b4_ t) (.cons h .nil)
def Bg(x:Int × Int):Prop:=0<=x.1/\x.1<2 ^ 200/\0<x.2/\x.2<2 ^ 200
theorem hx_{a b:Int}(h1:0<=a)(h2:a<2 ^ 200)(h3:0<b)(h4:b<2 ^ 200):Bg (fr a b):=by
 obtain⟨_,k2⟩:=df_ (a:=a) h3
 have g:(0:Int)<=(Int.gcd a b:Int):=Int.natCast_nonneg _
 exact⟨Int.ediv_nonneg h1 g,Int.lt_of_le_of_lt (Int.ediv_le_self _ h1) h2,k2,Int.lt_of_le_of_lt (Int.ediv_le_self _ (Int.le_of_lt h3)) h4⟩
theorem ig_{a b:Int}(h1:0<=a)(h2:a<2 ^ 200)(h3:0<=b)(h4:b<2 ^ 200):CMulB a b:=by
 have e:(2:Nat) ^ 200<=2 ^ 250:=Nat.pow_le_pow_right (by decide) (by decide)
 have e2:((2:Int) ^ 200)=((2 ^ 200:Nat):Int):=by norm_cast
 refine⟨?_,?_⟩<;>omega
section
variable{P:Program}{w:World}{K:PySem.W.Frag}{mg:Str->Option Value}{base:Heap}
theorem scAlike:FnScope ["_law_one","_law_other","_law_times"] ["_law_one","_law_other","_law_times"] (defScope sAlike):=⟨rfl,rfl,rfl,by decide +kernel,rfl,by decide +kernel,by decide +kernel⟩
def spAlike:Sp:=fun vs H Q _=>∃(a b:Addr) (x y:Int × Int) (t:Int),vs=[.ref a,.ref b,.int t]/\H a=some (.tup [.int x.1,.int x.2])/\H b=some (.tup [.int y.1,.int y.2])/\Bg x/\Bg y/\0<=t/\t<=1000/\x.1 * y.2=y.1 * x.2 * t/\Q (.bl true) H
theorem hU_{f0:Addr}{fd:FuncData}(F:Fun K "_law_alike" "_law_alike" sAlike f0 fd):FnOk P w K mg base CX0 1 f0 fd ["_law_one","_law_other","_law_times"] spAlike:=by
 refine F.ok scAlike (fun vs H Q E h=>?_) (fun cdv A outer s H vs Q E hr h=>?_)
 ·obtain⟨a,b,x,y,t,rfl,_⟩:=h
  rfl
 ·obtain⟨a,b,x,y,t,rfl,ha,hb,bx,bY,t0,t1,e,k⟩:=h
  refine' ⟨_,a5_ (ad_ (dg_ fy_ ?e1 ?e2 (nomark _))),?kk⟩
  case e1=>exact ai_ gt_ (aA_ aG_ (pv 0) a6_ (fun _ _=>rfl)) (aA_ aG_ (pv 1) a6_ (fun _ _=>rfl))
  case e2=>exact ai_ b8_ (ai_ gt_ (aA_ aG_ (pv 1) a6_ (fun _ _=>rfl)) (aA_ aG_ (pv 0) a6_ (fun _ _=>rfl))) (pv 2)
  case' kk=>skip
  obtain⟨x1,x2,x3,x4⟩:=bx
  obtain⟨y1,y2,y3,y4⟩:=bY
  refine⟨_,rfl,a,_,0,.int x.1,rfl,rfl,.of ha,L2.atI_nat (j:=0) rfl,_,rfl,b,_,1,.int y.2,rfl,rfl,.of hb,L2.atI_nat (j:=1) rfl,_,_,rfl,rfl,ig_ x1 x2 (Int.le_of_lt y3) y4,?_⟩
  refine⟨_,rfl,b,_,0,.int y.1,rfl,rfl,.of hb,L2.atI_nat (j:=0) rfl,_,rfl,a,_,1,.int x.2,rfl,rfl,.of ha,L2.atI_nat (j:=1) rfl,_,_,rfl,rfl,ig_ y1 y2 (Int.le_of_lt x3) x4,?_⟩
  refine⟨_,rfl,_,_,rfl,rfl,.inr ⟨by omega,by omega⟩,?_⟩
  refine⟨rfl,?_⟩
  show Q (.bl (decide (V.int (x.1 * y.2)=V.int (y.1 * x.2 * t)))) H
  rw[e,decide_eq_true rfl]
  exact k
theorem dL_{l D:Addr}{ys:List V}{ts:List (Str × Str)}{H:Hp}{Q:VK}{σ0:St}{tm:TE}(hm:∀σ H Q,Q (.int (-1)) H->tm σ H Q)(hσ:σ0=[none])(hl:H l=some (.lst ys))(tt:TupsAt K H ys (ts.reverse.map kT))(len:ts.length<=1000)(hD:H D=none)
  (q:∀H' out,Same H H'->H' D=some (.lst out)->TupsAt K H' out ((bk ts).map kT)->Q (.ref D) H'):CompW (Itl K l) (gName 0) tYes (tRev2 K (tVar 0) tm) σ0 D H Q:=by
 have sz:=sizeLine_eq
 have le:=Paired.length tt
 rw[List.length_map,List.length_reverse] at le
 refine aq_ (own:=1) (fv:=[]) (xs:=ys) hσ gok1 (fun i out H'=>Same H H'/\H' D=some (.lst out)/\TupsAt K H' out (((ts.reverse.take i).map swp).map kT)) ⟨Same.new hD,a1_,.nil⟩ (fun i out H' _ ⟨sm,_,_⟩=>.of (sm _ _ hl)) (fun out H4 ⟨sm,hD4,eo⟩=>?_) (fun i y out H' hy ⟨sm,hD',eo⟩=>?_)
 ·rw[le,List.take_of_length_le (by rw[List.length_reverse];exact Nat.le_refl _)] at eo
  exact q _ _ sm hD4 eo
 ·obtain⟨t,ht,a,rfl,ha⟩:=aD_ tt hy
  have hi:i<ts.length:=by
   have:=(List.getElem?_eq_some_iff.mp ht).1
   rwa [List.length_reverse] at this
  have lo:=Paired.length eo
  rw[List.length_map,List.length_map,List.length_take] at lo
  refine⟨_,rfl,rfl,fun Nx hN=>yesT ?_⟩
  refine⟨_,rfl,hm _ _ _ ⟨rfl,a,_,_,rfl,.of (sm _ _ ha),fun b hb=>?_⟩⟩
  have s1:=Same.new (o:=.tup [.str t.2,.str t.1]) hb
  refine⟨out,s1 _ _ hD',by omega,hN (out++[.ref b]) _ ⟨al_ (sm.trans s1) hD,a1_,?_⟩⟩
  rw[List.take_add_one,ht,Option.toList_some,List.map_append,List.map_append]
  exact b0_ (b6_ (eo.same s1) (show upd H' b (.tup [.str t.2,.str t.1]) b=some (.tup ((kT (swp t)).map kV)) from a1_)) (s1 _ _ hD')
theorem scTurned:FnScope ["_law_ways_here"] ["_law_ways_here"] (defScope sTurned):=⟨rfl,rfl,rfl,by decide +kernel,rfl,by decide +kernel,by decide +kernel⟩
def spTurned(K:PySem.W.Frag):Sp:=fun vs H Q _=>∃(v:V) (o:Option (List (Str × Str))),vs=[v]/\WyAt K H v o/\(∀ws,o=some ws->ws.length<=1000)/\∀v' H',Same H H'->WyAt K H' v' (o.map bk)->(∀a,v'=.ref a->H a=none)->Q v' H'
theorem gZ_{f0:Addr}{fd:FuncData}(F:Fun K "_law_turned" "_law_turned" sTurned f0 fd):FnOk P w K mg base CX0 1 f0 fd ["_law_ways_here"] (spTurned K):=by
 refine F.ok scTurned (fun vs H Q E h=>?_) (fun cdv A outer s H vs Q E hr h=>?_)
 ·obtain⟨v,o,rfl,_⟩:=h
  rfl
 ·obtain⟨v,o,rfl,wy,len,k⟩:=h
  refine' ⟨_,a3_ (ax_ (bC_ (cZ_ (pv 0))) (a5_ (ad_ fg_)) af_) (a5_ (ad_ ?e1)),?kk⟩
  case e1=>exact aI_ ["_law_tie"] 1 [] (aj_ (cG_ (pv 0) (dG_ cj_ a6_))) (fun fp s H=>a8_ (i:=0) (show (["_law_tie"]:List Str).Nodup by decide +kernel) rfl (Or.inl rfl)) (fun fp s H=>au_) (fun fp s H=>dx_ (K:=K) (pv 0) (dG_ cj_ a6_))
  case' kk=>skip
  cases o with
  |none=>
   cases (show v=.non from wy)
   refine⟨_,rfl,_,rfl,ite2 (fun c=>?_) (fun c=>by simp at c)⟩
   exact k .non H (Same.refl _) rfl fun a z=>by cases z
  |some ws=>
   obtain⟨a,ys,rfl,ha,tt⟩:=wy
   refine⟨_,rfl,_,rfl,ite2 (fun c=>by simp at c) (fun c=>?_)⟩
   refine⟨_,rfl,_,rfl,rfl,a,ys,rfl,.of ha,fun b hb=>?_⟩
   have s1:=Same.new (o:=.lst ys.reverse) hb
   have e1:upd H b (.lst ys.reverse) b=some (.lst ys.reverse):=a1_
   generalize upd H b (.lst ys.reverse)=H1 at s1 e1 ⊢
   refine⟨b,rfl,⟨_,.of e1⟩,fun D hD=>?_⟩
   refine dL_ (K:=K) (ts:=ws) (fun σ H Q q=>⟨_,rfl,q⟩) rfl e1 (by rw[List.map_reverse];exact b4_ (tt.same s1)) (len ws rfl) hD fun H2 out s2 e2 t2=>?_
   exact k (.ref D) H2 (s1.trans s2) ⟨D,out,rfl,e2,t2⟩ fun a z=>by
    cases z
    exact s1.free hD
end
end Ev
set_option Elab.async false
set_option linter.all false
set_option maxRecDepth 100000
namespace Ev
open PySem L2
structure ToldAt (K:PySem.W.Frag) (H:Hp) (l:Addr) (hs:List (Str × Int)) (ts:List (Str × Str)) (qs:List Pc) (f:Str->Str):Prop where
 ex:∃(l1 l2 t1 t2:Addr) (y1 y2:List V) (r r':Int),H l=some (.lst [.ref l1,.ref l2,.int (smF hs qs f),.ref t1,.ref t2])/\H l1=some (.lst y1)/\Paired (r2 K rS rZ H) y1 ((nmsOf hs).map fun n=>(n,ld f (qs.map wOf) n))/\H l2=some (.lst y2)/\Paired (r2 K rS (r2 K rZ rZ) H) y2 ((nmsOf hs).map fun n=>(n,htF hs qs f n))/\IsRise hs qs f r/\H t1=some (.tup [.int (fr r (mulOf hs)).1,.int (fr r (mulOf hs)).2])/\IsSteep hs ts qs f r'/\H t2=some (.tup [.int (fr r' (mulOf hs)).1,.int (fr r' (mulOf hs)).2])
def wB(qs:List Pc):Prop:=∀q∈qs,0<=q.2.1/\q.2.1<=1000000000
section
variable{P:Program}{w:World}{K:PySem.W.Frag}{mg:Str->Option Value}{base:Heap}{CG CW:Addr}
theorem scTold:FnScope ["_law_goods","_law_stand_here","_law_found"] ["_law_goods","_law_stand_here"] (defScope sTold):=⟨rfl,rfl,rfl,by decide +kernel,rfl,by decide +kernel,by decide +kernel⟩
def spTold(K:PySem.W.Frag)(CG CW:Addr):Sp:=fun vs H Q _=>∃(g p d:Addr) (hs:List (Str × Int)) (ts:List (Str × Str)) (qs:List Pc) (fp:List Addr) (ns:List Str) (f:Str->Str),vs=[.ref g,.ref d]/\Std K CG CW H g p d hs ts qs fp ns f/\wB qs/\∀l H',Same H H'->ToldAt K H' l hs ts qs f->Q (.ref l) H'
theorem iv_{f0:Addr}{fd:FuncData}(F:Fun K "_law_told" "_law_told" sTold f0 fd)(B:Bi mg)(cL:Cal P w K mg base 4 "loads" ["goods","stand"] (spLoads K CG CW))(cH:Cal P w K mg base 5 "heights" ["goods","stand"] (spHeights K CG CW))(cS:Cal P w K mg base 6 "sum_of" ["goods","stand"] (spSumOf K CG CW))(cP:Cal P w K mg base 7 "spread" ["goods","stand"] (spSpread K CG CW))(cT:Cal P w K mg base 5 "steepest" ["goods","stand"] (spSteep K CG CW)):FnOk P w K mg base CX0 8 f0 fd ["_law_goods","_law_stand_here"] (spTold K CG CW):=by
 refine F.ok scTold (fun vs H Q E h=>?_) (fun cdv A outer s H vs Q E hr h=>?_)
 ·obtain⟨g,p,d,hs,ts,qs,fp,ns,f,rfl,_⟩:=h
  rfl
 ·obtain⟨g,p,d,hs,ts,qs,fp,ns,f,rfl,S,wp,k⟩:=h
  have hr4:Room 4 _:=hr.mono (by decide)
  have hr5:Room 5 _:=hr.mono (by decide)
  have hr6:Room 6 _:=hr.mono (by decide)
  refine' ⟨_,a3_ ?s1 (a5_ (ad_ ?s2)),?kk⟩
  case s1=>exact ab_ (i:=2) scTold.nd rfl (Or.inl rfl) (aV_ (a0_ (aB_ (c2_ rfl) (by rfl) B.list PyProof.Rows.Boot.«list» (a0_ (aZ_ (a9_ cL hr4 (a0_ (pv 0) (a0_ (pv 1) a2_)))) a2_)) (a0_ (aB_ (c2_ rfl) (by rfl) B.list PyProof.Rows.Boot.«list» (a0_ (aZ_ (a9_ cH hr5 (a0_ (pv 0) (a0_ (pv 1) a2_)))) a2_)) a2_)))
  case s2=>exact ai_ dX_ (pv 2) (aV_ (a0_ (a9_ cS hr6 (a0_ (pv 0) (a0_ (pv 1) a2_))) (a0_ (a9_ cP hr (a0_ (pv 0) (a0_ (pv 1) a2_))) (a0_ (a9_ cT hr5 (a0_ (pv 0) (a0_ (pv 1) a2_))) a2_))))
  case' kk=>skip
  refine⟨_,rfl,_,rfl,g,p,d,hs,ts,qs,fp,ns,f,rfl,S,fun d1 H1 s1 n1 e1=>?_⟩
  refine⟨d1,_,rfl,e1,fun v1 hv1=>?_⟩
  have sA:=Same.new (o:=itemsV v1 d1) hv1
  have eA:upd H1 v1 (itemsV v1 d1) v1=some (itemsV v1 d1):=a1_
  generalize upd H1 v1 (itemsV v1 d1)=H2 at sA eA ⊢
  refine⟨v1,d1,_,rfl,eA,.of (sA _ _ e1),fun l1 y1 H3 hl1 s3 e3 pa3=>?_⟩
  have s03:=(s1.trans sA).trans s3
  refine⟨_,rfl,_,rfl,g,p,d,hs,ts,qs,fp,ns,f,rfl,S.same s03,fun d2 gg H4 s4 n4 e4 ho=>?_⟩
  refine⟨d2,_,rfl,e4,fun v2 hv2=>?_⟩
  have sB:=Same.new (o:=itemsV v2 d2) hv2
  have eB:upd H4 v2 (itemsV v2 d2) v2=some (itemsV v2 d2):=a1_
  generalize upd H4 v2 (itemsV v2 d2)=H5 at sB eB ⊢
  refine⟨v2,d2,_,rfl,eB,.of (sB _ _ e4),fun l2 y2 H6 hl2 s6 e6 pa6=>?_⟩
  have s46:=sB.trans s6
  have s36:=s4.trans s46
  refine⟨by show 2<=sizeLine;decide,fun l3 n3=>?_⟩
  have s67:=Same.new (o:=.lst [.ref l1,.ref l2]) n3
  have e7:upd H6 l3 (.lst [.ref l1,.ref l2]) l3=some (.lst [.ref l1,.ref l2]):=a1_
  generalize upd H6 l3 (.lst [.ref l1,.ref l2])=H7 at s67 e7 ⊢
  have s37:=s36.trans s67
  have s07:=s03.trans s37
  refine setG ?_
  dsimp only
  refine⟨_,rfl,_,rfl,_,rfl,g,p,d,hs,ts,qs,fp,ns,f,rfl,S.same s07,wp,fun H8 s8=>?_⟩
  refine⟨_,rfl,_,rfl,g,p,d,hs,ts,qs,fp,ns,f,rfl,S.same (s07.trans s8),wp,fun t1 r H9 s9 ri e9=>?_⟩
  have s79:=s8.trans s9
  refine⟨_,rfl,_,rfl,g,p,d,hs,ts,qs,fp,ns,f,rfl,S.same (s07.trans s79),wp,fun t2 r' H10 s10 ri' e10=>?_⟩
  refine⟨by show 3<=sizeLine;decide,fun l4 n4'=>?_⟩
  have s11:=Same.new (o:=.lst [.int (smF hs qs f),.ref t1,.ref t2]) n4'
  have e11:upd H10 l4 (.lst [.int (smF hs qs f),.ref t1,.ref t2]) l4=some (.lst [.int (smF hs qs f),.ref t1,.ref t2]):=a1_
  generalize upd H10 l4 (.lst [.int (smF hs qs f),.ref t1,.ref t2])=H11 at s11 e11 ⊢
  have s9B:=s10.trans s11
  have s7B:=s79.trans s9B
  refine⟨l3,l4,_,_,rfl,rfl,s7B _ _ e7,e11,by show 5<=sizeLine;decide,fun l5 n5=>?_⟩
  have s12:=Same.new (o:=.lst ([.ref l1,.ref l2]++[.int (smF hs qs f),.ref t1,.ref t2])) n5
  have s7C:=s7B.trans s12
  have s6C:=s67.trans s7C
  have s3C:=s36.trans s6C
  refine k l5 _ (s03.trans s3C) ⟨l1,l2,t1,t2,y1,y2,r,r',a1_,s3C _ _ e3,fh_ (ca_ pa3 s3C),s6C _ _ e6,h2_ (ca_ pa6 s6C) (ho.same (s46.trans s6C)),ri,((s9B.trans s12)) _ _ e9,ri',(s11.trans s12) _ _ e10⟩
theorem jH_{qs:List Pc}(wp:wB qs)(h64:qs.length<64)(f:Str->Str)(h:Str):0<=ld f (qs.map wOf) h/\ld f (qs.map wOf) h<2 ^ 60:=by
 obtain⟨a,b⟩:=hJ_ wp h64 f h
 exact⟨a,by omega⟩
theorem i8_{hs:List (Str × Int)}{ts:List (Str × Str)}(G:Good hs ts){qs:List Pc}(wp:wB qs)(h64:qs.length<64)(f:Str->Str){h:Str}(m:h∈nmsOf hs):Bg (htF hs qs f h):=by
 obtain⟨a,b⟩:=jH_ wp h64 f h
 have s1:=bF_ G m
 exact hx_ a (by omega) (by omega) (by omega)
theorem hw_{hs:List (Str × Int)}{ts:List (Str × Str)}(G:Good hs ts){qs:List Pc}(wp:wB qs)(h64:qs.length<64)(f:Str->Str){h:Str}(m:h∈nmsOf hs):0<=lvF hs qs f h/\lvF hs qs f h<2 ^ 170:=by
 obtain⟨a,b⟩:=jH_ wp h64 f h
 obtain⟨m1,m2,m3⟩:=br_ G
 have s1:=bF_ G m
 have k1:mulOf hs / strOf hs h<=mulOf hs:=Int.ediv_le_self _ (Int.le_of_lt m1)
 have k0:0<=mulOf hs / strOf hs h:=Int.ediv_nonneg (Int.le_of_lt m1) (by omega)
 refine⟨jY_ G wp h64 m,?_⟩
 unfold lvF
 have:=Int.mul_le_mul (show ld f (qs.map wOf) h<=2 ^ 60 by omega) (show mulOf hs / strOf hs h<=2 ^ 100 by omega) k0 (by decide)
 have e:(2:Int) ^ 60 * 2 ^ 100<2 ^ 170:=by decide
 omega
theorem dn_{hs:List (Str × Int)}{ts:List (Str × Str)}(G:Good hs ts){qs:List Pc}(wp:wB qs)(h64:qs.length<64){f:Str->Str}{r:Int}(h:IsRise hs qs f r):Bg (fr r (mulOf hs)):=by
 obtain⟨x,hx,y,hy,rfl,m⟩:=h
 have h1:=hw_ G wp h64 f hx
 have h2:=hw_ G wp h64 f hy
 have h3:=(m x hx).2
 obtain⟨m1,m2,_⟩:=br_ G
 exact hx_ (by omega) (by omega) m1 (by omega)
theorem f7_{hs:List (Str × Int)}{ts:List (Str × Str)}(G:Good hs ts){qs:List Pc}(wp:wB qs)(h64:qs.length<64){f:Str->Str}{r:Int}(h:IsSteep hs ts qs f r):Bg (fr r (mulOf hs)):=by
 obtain⟨m1,m2,_⟩:=br_ G
 rcases h with⟨_,rfl⟩|⟨t,ht,rfl,_⟩
 ·exact hx_ (by decide) (by decide) m1 (by omega)
 ·obtain⟨u,hu,e⟩:=tsOf_mem.mp ht
  have q:=G.tin u hu
  have q1:t.1∈nmsOf hs/\t.2∈nmsOf hs:=by
   rw[<- e,(ak_ hs).mem_iff,(ak_ hs).mem_iff]
   unfold ord2
   split
   ·exact q
   ·exact⟨q.2,q.1⟩
  have h1:=hw_ G wp h64 f q1.1
  have h2:=hw_ G wp h64 f q1.2
  refine hx_ ii_ ?_ m1 (by omega)
  unfold aV
  split<;>omega
end
end Ev
set_option Elab.async false
set_option linter.all false
set_option maxRecDepth 100000
namespace Ev
open PySem L2
theorem bY_{H:Hp}{d:Addr}{ns:List Str}{g:Str->V}{n:Str}(r:Rd H d (.dK (mKV ns g)))(h:n∈ns):DGet H d (.str n) (some (g n)):=by
 rw[<- bu_ (g:=g) h]
 exact .inl ⟨_,Sum.inr n,r,rfl,rfl⟩
theorem jW_{d:Addr}{o:Obj}{kvs:List (Key × V)}{H H':Hp}(f:Fz d o kvs H H'):Rd H' d (.dK kvs):=.inr ⟨o,f.at_⟩
theorem hitsI{A:Around}{s:Shared}{ns:List Str}{f:Str->Int}{vb:List (Key × Value)}(rb:KV (mKV ns fun n=>.int (f n)) vb):∀(ms:List Str) (va:List (Key × Value)),KV (mKV ms fun n=>.int (f n)) va->(∀m∈ms,m∈ns)->PySem.W.KeqHits A s vb va (ms.all fun n=>decide (f n=f n))
 |[],va,r,_=>by
  cases r
  exact .nil
 |m::ms,va,r,h=>by
  cases r with
  |@cons _ q _ va' h1 r=>
   have hm:=h m List.mem_cons_self
   obtain⟨y,hy,ry⟩:=RelO.some_of (v:=.int (f m)) (o:=valueAt vb (Sum.inr m)) (by rw[<- bu_ (g:=fun n=>V.int (f n)) hm];exact rb.val _)
   obtain⟨k,v⟩:=q
   obtain⟨e1,e2⟩:=h1
   have e1:(Sum.inr m:Key)=k:=e1
   subst e1
   obtain⟨t,rfl⟩:=(show ∃t,v=Value.int (f m) t from e2)
   obtain⟨u,rfl⟩:=(show ∃t,y=Value.int (f m) t from ry)
   have q:=SeqAt.EqAt.int_int (A:=A) (s:=s) (f m) t (f m) u
   rw[show (f m == f m)=decide (f m=f m) by simp] at q
   exact .hit hy q (hitsI rb ms va' r fun x hx=>h x (List.mem_cons_of_mem _ hx))
def rNeDI:V->V->Hp->VK->Prop:=fun x y H Q=>∃(a b:Addr) (ns:List Str) (f:Str->Int),x=.ref a/\y=.ref b/\H a=some (.dK (mKV ns fun n=>.int (f n)))/\H b=some (.dK (mKV ns fun n=>.int (f n)))/\Q (.bl false) H
theorem iJ_{X:Cx}(hu:X.A.units<cLine):OpR X (compareOp .NotEq) rNeDI:=by
 intro pins s σ H x y v u Q I rx ry h
 obtain⟨a,b,ns,f,rfl,rfl,ha,hb,q⟩:=h
 cases rx
 cases ry
 obtain⟨za,na,va,ra,da⟩:=bo_ I.hok (.inl ha)
 obtain⟨zb,nb,vb,rb,db⟩:=bo_ I.hok (.inl hb)
 have la:=ra.length
 have lb:=rb.length
 rw[aL_] at la lb
 refine PySem.W.keq_ne na nb da db hu (r:=ns.all fun n=>decide (f n=f n)) (fun _=>hitsI rb ns va ra fun _ h=>h) ⟨.bl _,H,I,rfl,?_⟩
 rw[<- la,<- lb]
 have al:(ns.all fun n=>decide (f n=f n))=true:=by simp
 rw[al]
 simpa using q
theorem c5_{hs:List (Str × Int)}{qs:List Pc}{f:Str->Str}{r:Int}(h:IsRise hs qs f r):Rs (nmsOf hs) (lvF hs qs f) r:=h
theorem co_{hs:List (Str × Int)}{ts:List (Str × Str)}{qs:List Pc}{f:Str->Str}{r:Int}(h:IsSteep hs ts qs f r):Stp (tsOf ts) (lvF hs qs f) r:=h
section
variable{P:Program}{w:World}{K:PySem.W.Frag}{mg:Str->Option Value}{base:Heap}{CG CW:Addr}
abbrev slN:List Str:=["_law_goods","_law_more","_law_stand_here","_law_times","_law_first","_law_second","_law_high","_law_higher","_law_hand"]
theorem scScaled:FnScope slN ["_law_goods","_law_more","_law_stand_here","_law_times"] (defScope sScaled):=⟨rfl,rfl,rfl,by decide +kernel,rfl,by decide +kernel,by decide +kernel⟩
def spScaled(K:PySem.W.Frag)(CG CW:Addr):Sp:=fun vs H Q _=>∃(g p gm pm d:Addr) (t:Int) (hs:List (Str × Int)) (ts:List (Str × Str)) (qs qm:List Pc) (fp fm:List Addr) (ns:List Str) (f:Str->Str),vs=[.ref g,.ref gm,.ref d,.int t]/\Std K CG CW H g p d hs ts qs fp ns f/\Std K CG CW H gm pm d hs ts qm fm ns f/\wB qs/\wB qm/\1<=t/\t<=30/\(∀h,ld f (qm.map wOf) h=ld f (qs.map wOf) h * t)/\∀H',Same H H'->Q (.bl true) H'
set_option maxHeartbeats 1600000 in
theorem gX_{f0:Addr}{fd:FuncData}(F:Fun K "_law_scaled" "_law_scaled" sScaled f0 fd)(cL:Cal P w K mg base 4 "loads" ["goods","stand"] (spLoads K CG CW))(cH:Cal P w K mg base 5 "heights" ["goods","stand"] (spHeights K CG CW))(cS:Cal P w K mg base 6 "sum_of" ["goods","stand"] (spSumOf K CG CW))(cP:Cal P w K mg base 7 "spread" ["goods","stand"] (spSpread K CG CW))(cT:Cal P w K mg base 5 "steepest" ["goods","stand"] (spSteep K CG CW))(cA:Cal P w K mg base 1 "_law_alike" ["_law_one","_law_other","_law_times"] spAlike):FnOk P w K mg base CX0 8 f0 fd ["_law_goods","_law_more","_law_stand_here","_law_times"] (spScaled K CG CW):=by
 refine F.ok scScaled (fun vs H Q E h=>?_) (fun cdv A outer s H vs Q E hr h=>?_)
 ·obtain⟨g,p,gm,pm,d,t,hs,ts,qs,qm,fp,fm,ns,f,rfl,_⟩:=h
  rfl
 ·obtain⟨g,p,gm,pm,d,t,hs,ts,qs,qm,fp,fm,ns,f,rfl,S,M,wp,wm,t1,t2,el,k⟩:=h
  have hu:=b1_ hr
  have hr1:Room 1 _:=hr.mono (by decide)
  have hr4:Room 4 _:=hr.mono (by decide)
  have hr5:Room 5 _:=hr.mono (by decide)
  have hr6:Room 6 _:=hr.mono (by decide)
  refine' ⟨_,a3_ ?s1 (a3_ ?s2 (a3_ ?s3 (a3_ ?s4 (a3_ ?s5 (a3_ ?s6 (a3_ ?s7 (a5_ ?s8))))))),?kk⟩
  case s1=>exact ab_ (i:=4) scScaled.nd rfl (Or.inl rfl) (a9_ cL hr4 (a0_ (pv 0) (a0_ (pv 2) a2_)))
  case s2=>exact ab_ (i:=5) scScaled.nd rfl (Or.inl rfl) (a9_ cL hr4 (a0_ (pv 1) (a0_ (pv 2) a2_)))
  case s3=>exact ab_ (i:=6) scScaled.nd rfl (Or.inl rfl) (a9_ cH hr5 (a0_ (pv 0) (a0_ (pv 2) a2_)))
  case s4=>exact ab_ (i:=7) scScaled.nd rfl (Or.inl rfl) (a9_ cH hr5 (a0_ (pv 1) (a0_ (pv 2) a2_)))
  case' s5=>refine' dw_ (aM_ PassesOwn.never rfl (ek_ (pv 4)) (a8_ (i:=8) scScaled.nd rfl (Or.inl rfl)) (a5_ (ax_ (PW.pt (cW_ ?e1 (bD_ ?e2))) ae_ af_)))
  case e1=>exact ap_ cV_ (aJ_ hu (pv 5) (pv 8) (fun _ _=>rfl)) (ai_ b8_ (aJ_ hu (pv 4) (pv 8) (fun _ _=>rfl)) (pv 3)) (nomark _)
  case e2=>exact aC_ (aH_ (a9_ cA hr1 (a0_ (aJ_ hu (pv 7) (pv 8) (fun _ _=>rfl)) (a0_ (aJ_ hu (pv 6) (pv 8) (fun _ _=>rfl)) (a0_ (pv 3) a2_)))))
  case s6=>exact ax_ (ap_ cV_ (a9_ cS hr6 (a0_ (pv 1) (a0_ (pv 2) a2_))) (ai_ b8_ (ai_ b8_ (a9_ cS hr6 (a0_ (pv 0) (a0_ (pv 2) a2_))) (pv 3)) (pv 3)) (nomark _)) ae_ af_
  case s7=>exact ax_ (aC_ (aH_ (a9_ cA hr1 (a0_ (a9_ cP hr (a0_ (pv 1) (a0_ (pv 2) a2_))) (a0_ (a9_ cP hr (a0_ (pv 0) (a0_ (pv 2) a2_))) (a0_ (pv 3) a2_)))))) ae_ af_
  case s8=>exact ad_ (a9_ cA hr1 (a0_ (a9_ cT hr5 (a0_ (pv 1) (a0_ (pv 2) a2_))) (a0_ (a9_ cT hr5 (a0_ (pv 0) (a0_ (pv 2) a2_))) (a0_ (pv 3) a2_))))
  case' kk=>skip
  refine⟨_,rfl,_,rfl,g,p,d,hs,ts,qs,fp,ns,f,rfl,S,fun d1 H1 s1 n1 e1=>?_⟩
  refine setG ?_
  dsimp only
  refine⟨_,rfl,_,rfl,gm,pm,d,hs,ts,qm,fm,ns,f,rfl,M.same s1,fun d2 H2 s2 n2 e2=>?_⟩
  refine setG ?_
  dsimp only
  have s02:=s1.trans s2
  refine⟨_,rfl,_,rfl,g,p,d,hs,ts,qs,fp,ns,f,rfl,S.same s02,fun d3 g3 H3 s3 n3 e3 o3=>?_⟩
  refine setG ?_
  dsimp only
  have s03:=s02.trans s3
  refine⟨_,rfl,_,rfl,gm,pm,d,hs,ts,qm,fm,ns,f,rfl,M.same s03,fun d4 g4 H4 s4 n4 e4 o4=>?_⟩
  refine setG ?_
  dsimp only
  have s04:=s03.trans s4
  have e14:=((s2.trans s3).trans s4) _ _ e1
  have e24:=(s3.trans s4) _ _ e2
  have e34:=s4 _ _ e3
  have o34:=o3.same s4
  have ne2:d2≠d1:=(a4_ e1 n2).symm
  have ne3:d3≠d1:=(a4_ (s2 _ _ e1) n3).symm
  have ne4:d4≠d1:=(a4_ ((s2.trans s3) _ _ e1) n4).symm
  have G:=S.Gd
  have mo:=br_ G
  refine seqG (fun σ H'=>∃v8:Option V,σ=[some (.ref g),some (.ref gm),some (.ref d),some (.int t),some (.ref d1),some (.ref d2),some (.ref d3),some (.ref d4),v8]/\Same H4 H') ?m2 ?m1
  case m1=>
   intro N hN
   refine⟨d1,_,e14,?_⟩
   refine⟨_,rfl,d1,_,rfl,e14,fun o=>?_⟩
   refine eH_ (fun i σ H'=>∃v8:Option V,σ=[some (.ref g),some (.ref gm),some (.ref d),some (.int t),some (.ref d1),some (.ref d2),some (.ref d3),some (.ref d4),v8]/\Fz d1 o (ldV hs qs f) H4 H') ⟨none,rfl,Fz.start⟩ (fun i σ H' _ ⟨_,_,z⟩=>z.at_) ?_ ?_
   ·rintro i ky x σ H5 hx ⟨v8,rfl,fz⟩
    obtain⟨n,hn,rfl,rfl⟩:=cd_ hx
    have nm:=List.mem_of_getElem? hn
    have g1:=bY_ (jW_ fz) nm
    have g2:=bY_ (.inl (fz.sm _ _ ne2 e24)) nm
    have g3':=bY_ (.inl (fz.sm _ _ ne3 e34)) nm
    have g4':=bY_ (.inl (fz.sm _ _ ne4 e4)) nm
    obtain⟨a3,z3,h3⟩:=o34 n nm
    obtain⟨a4,z4,h4⟩:=o4 n nm
    rw[z3] at g3'
    rw[z4] at g4'
    have h35:=fz.sm _ _ (az_ h3 e14 (by intro z;cases z)) h3
    have h45:=fz.sm _ _ (az_ h4 e14 (by intro z;cases z)) h4
    refine setG ?_
    dsimp only
    refine⟨_,rfl,_,rfl,d2,_,rfl,g2,_,rfl,_,rfl,d1,_,rfl,g1,_,rfl,_,_,rfl,rfl,.inr ⟨by omega,by omega⟩,rfl,_,rfl,?_⟩
    rw[el n]
    refine ite2 (fun c=>by simp at c) (fun c=>?_)
    refine⟨_,rfl,_,rfl,d4,_,rfl,g4',_,rfl,_,rfl,d3,_,rfl,g3',_,rfl,a4,a3,htF hs qm f n,htF hs qs f n,t,rfl,h45,h35,i8_ G wm M.h64 f nm,i8_ G wp S.h64 f nm,by omega,by omega,?_,_,rfl,iteF ⟨_,rfl,fz⟩⟩
    have sn:=bF_ G nm
    exact bS_ (by omega) (by omega) (by rw[el n,Int.mul_assoc,Int.mul_comm t,<- Int.mul_assoc])
   ·rintro σ H5 ⟨v8,rfl,fz⟩
    exact⟨o,fz.at_,hN _ _ ⟨v8,rfl,fz.thaw e14⟩⟩
  clear e1 e2 e3 e4 o3 o4 e14 e24 e34 o34 ne2 ne3 ne4 s1 s2 s3 s4 n1 n2 n3 n4 s02 s03
  rintro σ H5 ⟨v8,rfl,s5⟩
  have s05:=s04.trans s5
  refine⟨_,rfl,_,rfl,gm,pm,d,hs,ts,qm,fm,ns,f,rfl,M.same s05,wm,fun H6 s6=>?_⟩
  have s06:=s05.trans s6
  refine⟨_,rfl,_,rfl,g,p,d,hs,ts,qs,fp,ns,f,rfl,S.same s06,wp,fun H7 s7=>?_⟩
  have s07:=s06.trans s7
  refine⟨_,rfl,_,_,rfl,rfl,.inr ⟨by omega,by omega⟩,_,rfl,_,_,rfl,rfl,.inr ⟨by omega,by omega⟩,rfl,_,rfl,?_⟩
  rw[show smF hs qm f=smF hs qs f * t * t from gm_ _ _ _ _ t el]
  refine ite2 (fun c=>by simp at c) (fun c=>?_)
  have lve:∀z,lvF hs qm f z * 1=lvF hs qs f z * t:=fun z=>by
   unfold lvF
   rw[el z]
   grind
  refine⟨_,rfl,_,rfl,gm,pm,d,hs,ts,qm,fm,ns,f,rfl,M.same s07,wm,fun a1 r1 H8 s8 ri1 q1=>?_⟩
  have s08:=s07.trans s8
  refine⟨_,rfl,_,rfl,g,p,d,hs,ts,qs,fp,ns,f,rfl,S.same s08,wp,fun a2 r2 H9 s9 ri2 q2=>?_⟩
  have s09:=s08.trans s9
  have rr:=bX_ (by decide) (by omega) (fun z _=>lve z) (c5_ ri1) (c5_ ri2)
  refine⟨_,rfl,a1,a2,fr r1 (mulOf hs),fr r2 (mulOf hs),t,rfl,s9 _ _ q1,q2,dn_ G wm M.h64 ri1,dn_ G wp S.h64 ri2,by omega,by omega,bS_ mo.1 mo.1 (by rw[show r1=r2 * t by omega,Int.mul_assoc,Int.mul_comm t,<- Int.mul_assoc]),_,rfl,iteF ?_⟩
  refine⟨_,rfl,_,rfl,gm,pm,d,hs,ts,qm,fm,ns,f,rfl,M.same s09,wm,fun a3 r3 H10 s10 ri3 q3=>?_⟩
  have s010:=s09.trans s10
  refine⟨_,rfl,_,rfl,g,p,d,hs,ts,qs,fp,ns,f,rfl,S.same s010,wp,fun a4 r4 H11 s11 ri4 q4=>?_⟩
  have rr2:=cD_ (by decide) (by omega) (fun u _=>⟨lve u.1,lve u.2⟩) (co_ ri3) (co_ ri4)
  refine⟨_,rfl,a3,a4,fr r3 (mulOf hs),fr r4 (mulOf hs),t,rfl,s11 _ _ q3,q4,f7_ G wm M.h64 ri3,f7_ G wp S.h64 ri4,by omega,by omega,bS_ mo.1 mo.1 (by rw[show r3=r4 * t by omega,Int.mul_assoc,Int.mul_comm t,<- Int.mul_assoc]),?_⟩
  exact k _ (s010.trans s11)
abbrev sgN:List Str:=["_law_goods","_law_strong","_law_stand_here","_law_times","_law_high","_law_lower","_law_hand"]
theorem scStronger:FnScope sgN ["_law_goods","_law_strong","_law_stand_here","_law_times"] (defScope sStronger):=⟨rfl,rfl,rfl,by decide +kernel,rfl,by decide +kernel,by decide +kernel⟩
def spStronger(K:PySem.W.Frag)(CG CW:Addr):Sp:=fun vs H Q _=>∃(g p gm pm d:Addr) (t:Int) (hs:List (Str × Int)) (ts:List (Str × Str)) (qs:List Pc) (fp fm:List Addr) (ns:List Str) (f:Str->Str),vs=[.ref g,.ref gm,.ref d,.int t]/\Std K CG CW H g p d hs ts qs fp ns f/\Std K CG CW H gm pm d (hs.map (tmH t)) ts qs fm ns f/\wB qs/\1<=t/\t<=30/\∀H',Same H H'->Q (.bl true) H'
set_option maxHeartbeats 1600000 in
theorem ex_{f0:Addr}{fd:FuncData}(F:Fun K "_law_stronger" "_law_stronger" sStronger f0 fd)(cL:Cal P w K mg base 4 "loads" ["goods","stand"] (spLoads K CG CW))(cH:Cal P w K mg base 5 "heights" ["goods","stand"] (spHeights K CG CW))(cP:Cal P w K mg base 7 "spread" ["goods","stand"] (spSpread K CG CW))(cA:Cal P w K mg base 1 "_law_alike" ["_law_one","_law_other","_law_times"] spAlike):FnOk P w K mg base CX0 8 f0 fd ["_law_goods","_law_strong","_law_stand_here","_law_times"] (spStronger K CG CW):=by
 refine F.ok scStronger (fun vs H Q E h=>?_) (fun cdv A outer s H vs Q E hr h=>?_)
 ·obtain⟨g,p,gm,pm,d,t,hs,ts,qs,fp,fm,ns,f,rfl,_⟩:=h
  rfl
 ·obtain⟨g,p,gm,pm,d,t,hs,ts,qs,fp,fm,ns,f,rfl,S,M,wp,t1,t2,k⟩:=h
  have hu:=b1_ hr
  have hr1:Room 1 _:=hr.mono (by decide)
  have hr4:Room 4 _:=hr.mono (by decide)
  have hr5:Room 5 _:=hr.mono (by decide)
  refine' ⟨_,a3_ ?s3 (a3_ ?s4 (a3_ ?s5 (a3_ ?s6 (a5_ ?s8)))),?kk⟩
  case s3=>exact ab_ (i:=4) scStronger.nd rfl (Or.inl rfl) (a9_ cH hr5 (a0_ (pv 0) (a0_ (pv 2) a2_)))
  case s4=>exact ab_ (i:=5) scStronger.nd rfl (Or.inl rfl) (a9_ cH hr5 (a0_ (pv 1) (a0_ (pv 2) a2_)))
  case' s5=>refine' dw_ (aM_ PassesOwn.never rfl (ek_ (pv 4)) (a8_ (i:=6) scStronger.nd rfl (Or.inl rfl)) (a5_ (ax_ ?e2 ae_ af_)))
  case e2=>exact aC_ (aH_ (a9_ cA hr1 (a0_ (aJ_ hu (pv 4) (pv 6) (fun _ _=>rfl)) (a0_ (aJ_ hu (pv 5) (pv 6) (fun _ _=>rfl)) (a0_ (pv 3) a2_)))))
  case s6=>exact ax_ (ap_ (iJ_ (Nat.lt_of_succ_lt (roomU hr 0))) (a9_ cL hr4 (a0_ (pv 0) (a0_ (pv 2) a2_))) (a9_ cL hr4 (a0_ (pv 1) (a0_ (pv 2) a2_))) (nomark _)) ae_ af_
  case s8=>exact ad_ (a9_ cA hr1 (a0_ (a9_ cP hr (a0_ (pv 0) (a0_ (pv 2) a2_))) (a0_ (a9_ cP hr (a0_ (pv 1) (a0_ (pv 2) a2_))) (a0_ (pv 3) a2_))))
  case' kk=>skip
  have en:=dE_ (hs:=hs) (hs':=hs.map (tmH t)) (by rw[bd_])
  refine⟨_,rfl,_,rfl,g,p,d,hs,ts,qs,fp,ns,f,rfl,S,fun d3 g3 H3 s3 n3 e3 o3=>?_⟩
  refine setG ?_
  dsimp only
  refine⟨_,rfl,_,rfl,gm,pm,d,hs.map (tmH t),ts,qs,fm,ns,f,rfl,M.same s3,fun d4 g4 H4 s4 n4 e4 o4=>?_⟩
  refine setG ?_
  dsimp only
  rw[en] at e4 o4
  have s04:=s3.trans s4
  have e34:=s4 _ _ e3
  have o34:=o3.same s4
  have ne4:d4≠d3:=(a4_ e3 n4).symm
  have G:=S.Gd
  have G':=M.Gd
  have mo:=br_ G
  have mo':=br_ G'
  refine seqG (fun σ H'=>∃v8:Option V,σ=[some (.ref g),some (.ref gm),some (.ref d),some (.int t),some (.ref d3),some (.ref d4),v8]/\Same H4 H') ?m2 ?m1
  case m1=>
   intro N hN
   refine⟨d3,_,e34,?_⟩
   refine⟨_,rfl,d3,_,rfl,e34,fun o=>?_⟩
   refine eH_ (fun i σ H'=>∃v8:Option V,σ=[some (.ref g),some (.ref gm),some (.ref d),some (.int t),some (.ref d3),some (.ref d4),v8]/\Fz d3 o (mKV (nmsOf hs) g3) H4 H') ⟨none,rfl,Fz.start⟩ (fun i σ H' _ ⟨_,_,z⟩=>z.at_) ?_ ?_
   ·rintro i ky x σ H5 hx ⟨v8,rfl,fz⟩
    obtain⟨n,hn,rfl,rfl⟩:=cd_ hx
    have nm:=List.mem_of_getElem? hn
    have nh:=(ak_ hs).mem_iff.mp nm
    have g3':=bY_ (jW_ fz) nm
    have g4':=bY_ (.inl (fz.sm _ _ ne4 e4)) nm
    obtain⟨a3,z3,h3⟩:=o34 n nm
    obtain⟨a4,z4,h4⟩:=o4 n nm
    rw[z3] at g3'
    rw[z4] at g4'
    have h35:=fz.sm _ _ (az_ h3 e34 (by intro z;cases z)) h3
    have h45:=fz.sm _ _ (az_ h4 e34 (by intro z;cases z)) h4
    refine setG ?_
    dsimp only
    refine⟨_,rfl,_,rfl,d3,_,rfl,g3',_,rfl,_,rfl,d4,_,rfl,g4',_,rfl,a3,a4,htF hs qs f n,htF (hs.map (tmH t)) qs f n,t,rfl,h35,h45,i8_ G wp S.h64 f nm,i8_ G' wp S.h64 f (by rw[en];exact nm),by omega,by omega,?_,_,rfl,iteF ⟨_,rfl,fz⟩⟩
    have sn:=bF_ G nm
    have sn':=bF_ G' (n:=n) (by rw[en];exact nm)
    exact bS_ (by omega) (by omega) (by rw[eK_ G.hnd nh,Int.mul_assoc])
   ·rintro σ H5 ⟨v8,rfl,fz⟩
    exact⟨o,fz.at_,hN _ _ ⟨v8,rfl,fz.thaw e34⟩⟩
  clear e3 e4 o3 o4 e34 o34 ne4 s3 s4 n3 n4
  rintro σ H5 ⟨v8,rfl,s5⟩
  have s05:=s04.trans s5
  refine⟨_,rfl,_,rfl,g,p,d,hs,ts,qs,fp,ns,f,rfl,S.same s05,fun d1 H6 s6 n1 e1=>?_⟩
  have s06:=s05.trans s6
  refine⟨_,rfl,_,rfl,gm,pm,d,hs.map (tmH t),ts,qs,fm,ns,f,rfl,M.same s06,fun d2 H7 s7 n2 e2=>?_⟩
  have s07:=s06.trans s7
  rw[show ldV (hs.map (tmH t)) qs f=ldV hs qs f by show mKV _ _=mKV _ _;rw[en]] at e2
  refine⟨d1,d2,_,_,rfl,rfl,s7 _ _ e1,e2,_,rfl,?_⟩
  refine ite2 (fun c=>by simp at c) (fun c=>?_)
  refine⟨_,rfl,_,rfl,g,p,d,hs,ts,qs,fp,ns,f,rfl,S.same s07,wp,fun a1 r1 H8 s8 ri1 q1=>?_⟩
  have s08:=s07.trans s8
  refine⟨_,rfl,_,rfl,gm,pm,d,hs.map (tmH t),ts,qs,fm,ns,f,rfl,M.same s08,wp,fun a2 r2 H9 s9 ri2 q2=>?_⟩
  have rr:=bX_ mo'.1 (show 0<mulOf hs * t from Int.mul_pos mo.1 (by omega)) (fun z hz=>gl_ G G' (by omega) hz) (c5_ ri1) (by have:=c5_ ri2;rw[en] at this;exact this)
  refine⟨_,rfl,a1,a2,fr r1 (mulOf hs),fr r2 (mulOf (hs.map (tmH t))),t,rfl,s9 _ _ q1,q2,dn_ G wp S.h64 ri1,dn_ G' wp S.h64 ri2,by omega,by omega,bS_ mo.1 mo'.1 (by rw[rr,Int.mul_assoc]),?_⟩
  exact k _ (s08.trans s9)
end
end Ev
set_option Elab.async false
set_option linter.all false
set_option maxRecDepth 100000
namespace Ev
open PySem L2
section
variable{K:PySem.W.Frag}{CG CW:Addr}
theorem fd_{H:Hp}{R:Addr->Hp->Prop}{E:XK}{lh lt:Addr}{yh yt:List V}{hs:List (Str × Int)}{ts:List (Str × Str)}(G:Good hs ts)(h1:H lh=some (.lst yh))(h2:TupsAt K H yh (hs.map kH))(h3:H lt=some (.lst yt))(h4:TupsAt K H yt (ts.map kT))
  (k:∀p fp H',Same H H'->WebAt K CW H' p hs ts fp->(∀b∈fp,H b=none)->R p H'):∀x dx,H x=none->H dx=none->dx≠x->spInit K CW (.ref x::([.ref lh,.ref lt]++[])) (upd (upd H dx (.own x)) x (.ins CW dx [])) (fun v H2=>v=.non/\R x H2) E:=by
 intro p dx hp hdx ne
 have s4:Same H (upd (upd H dx (.own p)) p (.ins CW dx [])):=(Same.new hdx).trans (Same.new (by rw[a7_ ne.symm];exact hp))
 refine⟨p,dx,lh,lt,yh,yt,hs,ts,rfl,a1_,s4 _ _ h1,h2.same s4,s4 _ _ h3,h4.same s4,G,fun fpw H5 kp W fr=>⟨rfl,?_⟩⟩
 refine k p fpw H5 (fun b o e=>kp b o (s4 _ _ e) (a4_ e hp)) W fun b hb=>?_
 rcases fr b hb with rfl|z
 ·exact hp
 ·exact s4.free z
theorem cq_{H:Hp}{R:Addr->Hp->Prop}{E:XK}{p lp:Addr}{yp:List V}{hs:List (Str × Int)}{ts:List (Str × Str)}{ps:List Pc}{fpw:List Addr}(W:WebAt K CW H p hs ts fpw)(G:Good hs ts)(h1:H lp=some (.lst yp))(h2:PcsAt K H yp ps)(gp:∀q∈ps,GoodP ts q)(nd:(ps.map (·.1)).Nodup)(len:ps.length<64)
  (k:∀g qs fp H',Same H H'->GoodsAt K CG CW H' g p hs ts qs fp->Qs ps qs->(∀b∈fp,b∈fpw∨H b=none)->R g H'):∀x dx,H x=none->H dx=none->dx≠x->spGInit K CG CW (.ref x::([.ref p,.ref lp]++[])) (upd (upd H dx (.own x)) x (.ins CG dx [])) (fun v H2=>v=.non/\R x H2) E:=by
 intro g dx hg hdx ne
 have s4:Same H (upd (upd H dx (.own g)) g (.ins CG dx [])):=(Same.new hdx).trans (Same.new (by rw[a7_ ne.symm];exact hg))
 have gw:g∉fpw:=fun m=>by
  obtain⟨o,e⟩:=W.has m
  rw[hg] at e
  cases e
 refine⟨g,dx,p,lp,yp,ps,hs,ts,fpw,rfl,a1_,W.same s4,gw,G,s4 _ _ h1,Paired.mapP h2 fun _ _ q=>q.same s4,gp,nd,len,fun qs fp H5 kp GA Qq fr=>⟨rfl,?_⟩⟩
 refine k g qs fp H5 (fun b o e=>kp b o (s4 _ _ e) (a4_ e hg)) GA Qq fun b hb=>?_
 rcases fr b hb with rfl|z|z
 ·exact .inr hg
 ·exact .inl z
 ·exact .inr (s4.free z)
theorem d9_{l D:Addr}{ys:List V}{hs:List (Str × Int)}{H:Hp}{Q:VK}{σ0:St}{fv:List (Option V)}{te:TE}{G:Str × Int->Str × Int}(hσ:σ0=[none,none]++fv)(g1:∀h,(G h).1=h.1)(hte:∀h∈hs,∀H Q,Q (.int (G h).2) H->te ([some (.str h.1),some (.int h.2)]++fv) H Q)(hl:H l=some (.lst ys))(tt:TupsAt K H ys (hs.map kH))(len:hs.length<=1000)(hD:H D=none)
  (q:∀H' out,Same H H'->H' D=some (.lst out)->TupsAt K H' out ((hs.map G).map kH)->Q (.ref D) H'):CompW (Itl K l) (gTup K 2 (gCons (gName 0) (gCons (gName 1) gNil))) tYes (tTup (tCons (tVar 0) (tCons te tNil))) σ0 D H Q:=by
 have sz:=sizeLine_eq
 have le:=Paired.length tt
 rw[List.length_map] at le
 refine aq_ (own:=2) (fv:=fv) (xs:=ys) hσ gok2 (fun i out H'=>Same H H'/\H' D=some (.lst out)/\TupsAt K H' out (((hs.take i).map G).map kH)) ⟨Same.new hD,a1_,.nil⟩ (fun i out H' _ ⟨sm,_,_⟩=>.of (sm _ _ hl)) (fun out H4 ⟨sm,hD4,eo⟩=>?_) (fun i y out H' hy ⟨sm,hD',eo⟩=>?_)
 ·rw[le,List.take_length] at eo
  exact q _ _ sm hD4 eo
 ·obtain⟨h,hh,a,rfl,ha⟩:=aD_ tt hy
  have hi:i<hs.length:=(List.getElem?_eq_some_iff.mp hh).1
  have lo:=Paired.length eo
  rw[List.length_map,List.length_map,List.length_take] at lo
  refine⟨_,⟨a,_,_,rfl,.of (sm _ _ (hpH ha)),rfl⟩,rfl,fun Nx hN=>yesT ?_⟩
  refine⟨_,rfl,hte h (List.mem_of_getElem? hh) _ _ ⟨by show 2<=sizeLine;decide,fun b hb=>?_⟩⟩
  have s1:=Same.new (o:=.tup [.str h.1,.int (G h).2]) hb
  refine⟨out,s1 _ _ hD',by omega,hN (out++[.ref b]) _ ⟨al_ (sm.trans s1) hD,a1_,?_⟩⟩
  rw[List.take_add_one,hh,Option.toList_some,List.map_append,List.map_append]
  refine b0_ (b6_ (eo.same s1) (show upd H' b (.tup [.str h.1,.int (G h).2]) b=some (.tup ((kH (G h)).map kV)) from ?_)) (s1 _ _ hD')
  rw[a1_,<- g1 h]
  rfl
theorem eI_{H:Hp}{D:Addr}{xs ys:List V}{v:V}{o:Option (List (Str × Str))}(w:WyAt K H v o)(hD:H D=some (.lst xs))(ne:v≠.ref D):WyAt K (upd H D (.lst ys)) v o:=w.keep (fun a e u hu=>by rw[a7_ (fun z=>ne (by rw[e,z]))];exact hu) (fun b zs e=>by rw[a7_ (az_ e hD (by intro z;cases z))];exact e)
theorem dh_{l D:Addr}{ys:List V}{ps:List Pc}{H:Hp}{Q:VK}{σ0:St}{fv:List (Option V)}{te:TA}{G:Pc->Pc}(hσ:σ0=[none,none,none]++fv)
  (hte:∀p∈ps,∀v H Q,WyAt K H v p.2.2->(∀v' H',Same H H'->WyAt K H' v' (G p).2.2->(v'=v∨∀a,v'=.ref a->H a=none)->Q [.str (G p).1,.int (G p).2.1,v'] H')->te ([some (.str p.1),some (.int p.2.1),some v]++fv) H Q) (hl:H l=some (.lst ys)) (tt:PcsAt K H ys ps) (len:ps.length<=1000) (hD:H D=none)
  (q:∀H' out,Same H H'->H' D=some (.lst out)->PcsAt K H' out (ps.map G)->Q (.ref D) H'):CompW (Itl K l) (gTup K 3 (gCons (gName 0) (gCons (gName 1) (gCons (gName 2) gNil)))) tYes (tTup te) σ0 D H Q:=by
 have sz:=sizeLine_eq
 have le:=Paired.length tt
 refine aq_ (own:=3) (fv:=fv) (xs:=ys) hσ gok3 (fun i out H'=>Same H H'/\H' D=some (.lst out)/\Paired (fun y p=>PcAt K H' y p/\∀t v,y=.ref t->H' t=some (.tup [.str p.1,.int p.2.1,v])->v≠.ref D) out ((ps.take i).map G)) ⟨Same.new hD,a1_,.nil⟩ (fun i out H' _ ⟨sm,_,_⟩=>.of (sm _ _ hl)) (fun out H4 ⟨sm,hD4,eo⟩=>?_) (fun i y out H' hy ⟨sm,hD',eo⟩=>?_)
 ·rw[le,List.take_length] at eo
  exact q _ _ sm hD4 (Paired.mapP eo fun _ _ z=>z.1)
 ·have hi:i<ys.length:=(List.getElem?_eq_some_iff.mp hy).1
  have hp:ps[i]? = some (ps[i]'(by omega)):=List.getElem?_eq_getElem (by omega)
  obtain⟨t,v,et,ht,wy⟩:=ah_ tt i hi (by omega)
  rw[(List.getElem?_eq_some_iff.mp hy).2] at et
  subst et
  generalize ps[i]'(by omega)=p at hp ht wy
  have lo:=Paired.length eo
  rw[List.length_map,List.length_take] at lo
  have vD:v≠.ref D:=fun z=>by
   cases eo2:p.2.2 with
   |none=>
    rw[eo2] at wy
    rw[show v=.non from wy] at z
    cases z
   |some ws=>
    rw[eo2] at wy
    obtain⟨a,zs,e1,e2,_⟩:=wy
    rw[e1] at z
    cases z
    rw[hD] at e2
    cases e2
  refine⟨_,⟨t,_,_,_,rfl,.of (sm _ _ ht),rfl⟩,rfl,fun Nx hN=>yesT ?_⟩
  refine hte p (List.mem_of_getElem? hp) v H' _ (wy.same sm) fun v' H5 s5 wy5 nv=>⟨by show 3<=sizeLine;decide,fun b hb=>?_⟩
  have s6:=Same.new (o:=.tup [.str (G p).1,.int (G p).2.1,v']) hb
  have e6:upd H5 b (.tup [.str (G p).1,.int (G p).2.1,v']) b=some (.tup [.str (G p).1,.int (G p).2.1,v']):=a1_
  generalize upd H5 b (.tup [.str (G p).1,.int (G p).2.1,v'])=H6 at s6 e6 ⊢
  have s56:=s5.trans s6
  have hD6:=s56 _ _ hD'
  have v'D:v'≠.ref D:=by
   rcases nv with z|z
   ·rw[z];exact vD
   ·intro y
    have:=z D y
    rw[hD'] at this
    cases this
  refine⟨out,hD6,by omega,hN (out++[.ref b]) _ ⟨al_ (sm.trans s56) hD,a1_,?_⟩⟩
  rw[List.take_add_one,hp,Option.toList_some,List.map_append]
  refine as_ (bl_ eo fun y hy p' ⟨⟨t',w',e1,e2,e3⟩,nw⟩=>?_) (.cons ⟨⟨b,v',rfl,?_,eI_ (wy5.same s6) hD6 v'D⟩,fun t2 v2 e1 e2=>?_⟩ .nil)
  ·have wD:=nw t' w' e1 e2
   refine⟨⟨t',w',e1,?_,eI_ (e3.same s56) hD6 wD⟩,fun t2 v2 z1 z2=>?_⟩
   ·rw[a7_ (az_ (s56 _ _ e2) hD6 (by intro z;cases z))]
    exact s56 _ _ e2
   ·rw[e1] at z1
    cases z1
    rw[a7_ (az_ (s56 _ _ e2) hD6 (by intro z;cases z)),s56 _ _ e2] at z2
    cases z2
    exact wD
  ·rw[a7_ (az_ e6 hD6 (by intro z;cases z))]
   exact e6
  ·cases e1
   rw[a7_ (az_ e6 hD6 (by intro z;cases z)),e6] at e2
   cases e2
   exact v'D
end
def hn(h:Str × Int):Str × Int:=(h.1,1+h.2 % 30)
def pn(p:Pc):Pc:=(p.1,1+p.2.1 % 1000000,p.2.2)
theorem eV_(hs:List (Str × Int)):(hs.map hn).map (·.1)=hs.map (·.1):=by
 rw[List.map_map]
 rfl
theorem j7_{hs:List (Str × Int)}{ts:List (Str × Str)}(G:Good hs ts):Good (hs.map hn) ts:=by
 refine⟨fun h hh=>?_,by rw[eV_];exact G.hnd,by rw[List.length_map];exact G.h1,by rw[List.length_map];exact G.h8,G.tok,G.tnd,G.t64,fun t ht=>by rw[eV_];exact G.tin t ht⟩
 obtain⟨x,hx,rfl⟩:=List.mem_map.mp hh
 have:=(G.hok x hx).1
 refine⟨this,?_,?_⟩
 ·show 1<=1+x.2 % 30
  omega
 ·show 1+x.2 % 30<=1000
  omega
theorem gz_{hs:List (Str × Int)}{ts:List (Str × Str)}{t:Int}(G:Good hs ts)(b:∀h∈hs,h.2<=30)(t1:1<=t)(t2:t<=30):Good (hs.map (tmH t)) ts:=by
 refine⟨fun h hh=>?_,by rw[bd_];exact G.hnd,by rw[List.length_map];exact G.h1,by rw[List.length_map];exact G.h8,G.tok,G.tnd,G.t64,fun t ht=>by rw[bd_];exact G.tin t ht⟩
 obtain⟨x,hx,rfl⟩:=List.mem_map.mp hh
 obtain⟨a,a1,a2⟩:=G.hok x hx
 have m:=Int.mul_le_mul (b x hx) t2 (by omega) (by decide)
 have m0:=Int.mul_le_mul a1 t1 (by decide) (by omega)
 refine⟨a,?_,?_⟩
 ·show 1<=x.2 * t
  omega
 ·show x.2 * t<=1000
  omega
theorem ei_{hs:List (Str × Int)}{ts:List (Str × Str)}(G:Good hs ts):Good hs.reverse (bk ts):=by
 have pr:=(List.reverse_perm hs).map (·.1)
 refine⟨fun h hh=>G.hok h (List.mem_reverse.mp hh),pr.nodup_iff.mpr G.hnd,by rw[List.length_reverse];exact G.h1,by rw[List.length_reverse];exact G.h8,fun t ht=>?_,(cB_ ts).nodup_iff.mpr G.tnd,?_,fun t ht=>?_⟩
 ·obtain⟨u,hu,rfl⟩:=List.mem_map.mp ht
  obtain⟨a,b,c⟩:=G.tok u (List.mem_reverse.mp hu)
  exact⟨b,a,fun z=>c z.symm⟩
 ·show (ts.reverse.map swp).length<64
  rw[List.length_map,List.length_reverse]
  exact G.t64
 ·obtain⟨u,hu,rfl⟩:=List.mem_map.mp ht
  have:=G.tin u (List.mem_reverse.mp hu)
  exact⟨pr.mem_iff.mpr this.2,pr.mem_iff.mpr this.1⟩
theorem iH_{ts ws:List (Str × Str)}(W:WaysOf ts ws):WaysOf (bk ts) (bk ws):=by
 refine⟨fun t ht=>?_,(cB_ ws).nodup_iff.mpr W.nd,fun t ht=>?_,?_⟩
 ·obtain⟨u,hu,rfl⟩:=List.mem_map.mp ht
  obtain⟨a,b,c⟩:=W.good u (List.mem_reverse.mp hu)
  exact⟨b,a,fun z=>c z.symm⟩
 ·obtain⟨u,hu,rfl⟩:=List.mem_map.mp ht
  rw[(cB_ ts).mem_iff]
  have:=W.inn u (List.mem_reverse.mp hu)
  rw[show kO (swp u)=kO u from es_ u.2 u.1]
  exact this
 ·show (ws.reverse.map swp).length<=(ts.reverse.map swp).length
  rw[List.length_map,List.length_map,List.length_reverse,List.length_reverse]
  exact W.len
theorem fn_{ts:List (Str × Str)}{p:Pc}(g:GoodP ts p):GoodP (bk ts) (tn p):=by
 refine⟨g.nm,g.w1,g.w2,fun ws e=>?_⟩
 have e:p.2.2.map bk=some ws:=e
 cases h:p.2.2 with
 |none=>
  rw[h] at e
  cases e
 |some us=>
  rw[h] at e
  cases e
  exact iH_ (g.ws us h)
theorem i7_{ts:List (Str × Str)}{p:Pc}(g:GoodP ts p):GoodP ts (pn p):=⟨g.nm,by show 1<=1+p.2.1 % 1000000;omega,by show 1+p.2.1 % 1000000<=1000000000;omega,g.ws⟩
theorem eG_{ts:List (Str × Str)}{p:Pc}{t:Int}(g:GoodP ts p)(b:p.2.1<=1000000)(t1:1<=t)(t2:t<=30):GoodP ts (tmP t p):=by
 have m:=Int.mul_le_mul b t2 (by omega) (by decide)
 have m0:=Int.mul_le_mul g.w1 t1 (by decide) (by have:=g.w1;omega)
 exact⟨g.nm,by show 1<=p.2.1 * t;omega,by show p.2.1 * t<=1000000000;omega,g.ws⟩
theorem iC_{ts:List (Str × Str)}{ps qs:List Pc}(gp:∀q∈ps,GoodP ts q)(Q:Qs ps qs):wB qs:=fun q hq=>by
 obtain⟨p,hp,e⟩:=Q.mem q hq
 have:=gp p hp
 rw[e]
 exact⟨by have:=this.w1;show 0<=p.2.1;omega,this.w2⟩
theorem eU_{K:PySem.W.Frag}{CG CW:Addr}{H:Hp}{g p d:Addr}{hs:List (Str × Int)}{ts:List (Str × Str)}{ps qs:List Pc}{fp:List Addr}{ns:List Str}{f:Str->Str}(GA:GoodsAt K CG CW H g p hs ts qs fp)(G:Good hs ts)(gp:∀q∈ps,GoodP ts q)(nd:(ps.map (·.1)).Nodup)(len:ps.length<=30)(Q:Qs ps qs)(dn:d∉fp)(hd:H d=some (.dK (stF ns f)))(pm:ns.Perm (ps.map (·.1)))(fm:∀n∈ns,f n∈hs.map (·.1)):Std K CG CW H g p d hs ts qs fp ns f:=by
 refine⟨GA,G,dn,hd,⟨?_,fm⟩,Q.nd nd,by rw[Q.len];omega,fun q hq=>(iC_ gp Q q hq).1⟩
 rw[Q.nms]
 exact pm.trans (ar_ _).symm
end Ev
set_option Elab.async false
set_option linter.all false
set_option maxRecDepth 100000
namespace Ev
open PySem L2
theorem jt_{ns:List Str}(nd:ns.Nodup)(g:Str->V):((mKV ns g).map (·.1)).Nodup:=by
 rw[cp_,List.nodup_iff_pairwise_ne,List.pairwise_map]
 exact nd.imp fun n e=>n (Sum.inr.inj e)
theorem fp_{K:PySem.W.Frag}{H:Hp}{l l':Addr}{hs:List (Str × Int)}{ts:List (Str × Str)}{qs:List Pc}{f:Str->Str}(G:Good hs ts)(A:ToldAt K H l hs ts qs f)(B:ToldAt K H l' hs.reverse (bk ts) qs f):∃xs ys,H l=some (.lst xs)/\H l'=some (.lst ys)/\∀X:Cx,X.K=K->Paired (Alk X H) xs ys:=by
 obtain⟨l1,l2,t1,t2,y1,y2,r,r',a0,a1,a2,a3,a4,a5,a6,a7,a8⟩:=A.ex
 obtain⟨m1,m2,u1,u2,z1,z2,q,q',b0,b1,b2,b3,b4,b5,b6,b7,b8⟩:=B.ex
 have pr:=List.reverse_perm hs
 have en:=dE_ (pr.map (·.1))
 have em:=du_ G.hnd pr
 have et:=go_ (cB_ ts)
 have lv:∀z∈nmsOf hs,lvF hs qs f z * 1=lvF hs.reverse qs f z * 1:=fun z hz=>by rw[jf_ G.hnd pr hz]
 have er:=bX_ (by decide) (by decide) lv (c5_ a5) (by have:=c5_ b5;rw[en] at this;exact this)
 have inn:∀u∈tsOf ts,u.1∈nmsOf hs/\u.2∈nmsOf hs:=fun u hu=>by
  obtain⟨v,hv,e⟩:=tsOf_mem.mp hu
  have q:=G.tin v hv
  rw[<- e,(ak_ hs).mem_iff,(ak_ hs).mem_iff]
  unfold ord2
  split
  ·exact q
  ·exact⟨q.2,q.1⟩
 have es:=cD_ (by decide) (by decide) (fun u hu=>⟨lv _ (inn u hu).1,lv _ (inn u hu).2⟩) (co_ a7) (by have:=co_ b7;rw[et] at this;exact this)
 rw[show q=r by omega,em] at b6
 rw[show q'=r' by omega,em] at b8
 rw[ix_ G.hnd pr] at b0
 rw[en] at b2 b4
 rw[show ((nmsOf hs).map fun n=>(n,htF hs.reverse qs f n))=(nmsOf hs).map fun n=>(n,htF hs qs f n) from List.map_congr_left fun n hn=>by show (n,fr _ (strOf hs.reverse n))=_;rw[cm_ G.hnd pr ((ak_ hs).mem_iff.mp hn)]] at b4
 refine⟨_,_,a0,b0,fun X hK=>?_⟩
 subst hK
 exact (.cons ⟨2,_,inferInstance,rL X.K (r2 X.K rS rZ),_,by decide,cmpL (cmp2 cmpS cmpZ),⟨l1,y1,rfl,.of a1,a2⟩,m1,z1,rfl,.of b1,b2⟩ (.cons ⟨3,_,inferInstance,rL X.K (r2 X.K rS (r2 X.K rZ rZ)),_,by decide,cmpL (cmp2 cmpS (cmp2 cmpZ cmpZ)),⟨l2,y2,rfl,.of a3,a4⟩,m2,z2,rfl,.of b3,b4⟩ (.cons ⟨0,Int,inferInstance,rZ,smF hs qs f,by decide,cmpZ,rfl,rfl⟩ (.cons ⟨1,_,inferInstance,r2 X.K rZ rZ,fr r (mulOf hs),by decide,cmp2 cmpZ cmpZ,⟨t1,_,_,rfl,.of a6,rfl,rfl⟩,u1,_,_,rfl,.of b6,rfl,rfl⟩ (.cons ⟨1,_,inferInstance,r2 X.K rZ rZ,fr r' (mulOf hs),by decide,cmp2 cmpZ cmpZ,⟨t2,_,_,rfl,.of a8,rfl,rfl⟩,u2,_,_,rfl,.of b8,rfl,rfl⟩ .nil)))))
theorem eh_{K:PySem.W.Frag}{D1 D2:Type}{R1:Rp D1}{R2:Rp D2}{H H':Hp}(s:Same H H')(h1:∀x d,R1 H x d->R1 H' x d)(h2:∀x d,R2 H x d->R2 H' x d){x:V}{d:D1 × D2}(h:r2 K R1 R2 H x d):r2 K R1 R2 H' x d:=by
 obtain⟨a,u,v,e,t,q1,q2⟩:=h
 exact⟨a,u,v,e,t.same s,h1 _ _ q1,h2 _ _ q2⟩
theorem ToldAt.same{K:PySem.W.Frag}{H H':Hp}{l:Addr}{hs:List (Str × Int)}{ts:List (Str × Str)}{qs:List Pc}{f:Str->Str}(A:ToldAt K H l hs ts qs f)(s:Same H H'):ToldAt K H' l hs ts qs f:=by
 obtain⟨l1,l2,t1,t2,y1,y2,r,r',a0,a1,a2,a3,a4,a5,a6,a7,a8⟩:=A.ex
 exact⟨l1,l2,t1,t2,y1,y2,r,r',s _ _ a0,s _ _ a1,Paired.mapP a2 fun _ _ q=>eh_ s (fun _ _ z=>z) (fun _ _ z=>z) q,s _ _ a3,Paired.mapP a4 fun _ _ q=>eh_ s (fun _ _ z=>z) (fun _ _ z=>eh_ s (fun _ _ z=>z) (fun _ _ z=>z) z) q,a5,s _ _ a6,a7,s _ _ a8⟩
theorem dB_{K:PySem.W.Frag}{H:Hp}:∀{ws:List (Str × Str)} {ys:List V},TupsAt K H ys (ws.map kT)->Paired (r2 K rS rS H) ys ws
 |[],_,.nil=>.nil
 |_::_,_,.cons ⟨a,e,ha⟩ r=>.cons ⟨a,_,_,e,.of ha,rfl,rfl⟩ (dB_ r)
theorem cY_{X:Cx}{H:Hp}:∀{qs:List Pc} {xs ys:List V},Paired (fun v (q:Pc)=>WyAt X.K H v q.2.2) xs qs->Paired (fun v (q:Pc)=>WyAt X.K H v q.2.2) ys qs->Paired (Alk X H) xs ys
 |_,_,_,.nil,.nil=>.nil
 |q::_,_,_,.cons h t,.cons h' t'=>by
  refine .cons ?_ (cY_ t t')
  cases e:q.2.2 with
  |none=>
   rw[e] at h h'
   exact⟨0,Unit,inferInstance,rN,(),by decide,cmpN,h,h'⟩
  |some ws=>
   rw[e] at h h'
   obtain⟨a,zs,e1,e2,e3⟩:=h
   obtain⟨b,us,e4,e5,e6⟩:=h'
   exact⟨2,_,inferInstance,rL X.K (r2 X.K rS rS),ws,by decide,cmpL (cmp2 cmpS cmpS),⟨a,zs,e1,.of e2,dB_ e3⟩,b,us,e4,.of e5,dB_ e6⟩
theorem dZ_{K:PySem.W.Frag}{CG CW CP:Addr}{l D g p:Addr}{hs:List (Str × Int)}{ts:List (Str × Str)}{qs:List Pc}{fp:List Addr}{H:Hp}{Q:VK}{σ0:St}(hσ:σ0=[none,some (.ref g)])(hl:H l=some (.lst ((qs.map (·.1)).map V.str)))(GA:GoodsAt K CG CW H g p hs ts qs fp)(cl:Cls K CG)(nd:(qs.map (·.1)).Nodup)(len:qs.length<=1000)(wl:∀q∈qs,∀ws,q.2.2=some ws->ws.length<=1000)(hD:H D=none)
  (q:∀H' out,Same H H'->H' D=some (.lst out)->Paired (fun v (q:Pc)=>WyAt K H' v q.2.2) out qs->Q (.ref D) H'):CompW (Itl K l) (gName 0) tYes (tMeth CG "ways" (spGWays K CG CW CP) [] E0 (tVar 1) (tCons (tVar 0) tNil)) σ0 D H Q:=by
 have sz:=sizeLine_eq
 refine aq_ (own:=1) (fv:=[some (.ref g)]) (xs:=(qs.map (·.1)).map V.str) hσ gok1 (fun i out H'=>Same H H'/\H' D=some (.lst out)/\Paired (fun v (q:Pc)=>WyAt K H' v q.2.2/\v≠.ref D) out (qs.take i)) ⟨Same.new hD,a1_,.nil⟩ (fun i out H' _ ⟨sm,_,_⟩=>.of (sm _ _ hl)) (fun out H4 ⟨sm,hD4,eo⟩=>?_) (fun i y out H' hy ⟨sm,hD',eo⟩=>?_)
 ·rw[List.length_map,List.length_map,List.take_length] at eo
  exact q _ _ sm hD4 (Paired.mapP eo fun _ _ z=>z.1)
 ·obtain⟨n,hn,rfl⟩:=av_ hy
  rw[List.getElem?_map] at hn
  cases hq:qs[i]? with
  |none=>rw[hq] at hn;cases hn
  |some x=>
   rw[hq] at hn
   obtain rfl:=Option.some.inj hn
   have hi:i<qs.length:=(List.getElem?_eq_some_iff.mp hq).1
   have lo:=Paired.length eo
   rw[List.length_take] at lo
   have GA':=GA.same sm
   obtain⟨dx,dw,dy,vs,fpw,g1,_⟩:=id GA'.ex
   refine⟨_,rfl,rfl,fun Nx hN=>yesT ?_⟩
   refine⟨_,rfl,g,dx,_,rfl,g1,be_ _ _ _ (by decide +kernel) (by decide +kernel) (by decide +kernel),_,rfl,g,p,.str x.1,some x.1,hs,ts,qs,fp,rfl,GA',nd,rfl,.inl ⟨x,List.mem_of_getElem? hq,rfl,wl x (List.mem_of_getElem? hq),fun v' H5 s5 wy nv=>?_⟩⟩
   have hD5:=s5 _ _ hD'
   have vD:v'≠.ref D:=fun z=>by
    have:=nv D z
    rw[hD'] at this
    cases this
   refine⟨out,hD5,by omega,hN (out++[v']) _ ⟨al_ (sm.trans s5) hD,a1_,?_⟩⟩
   rw[List.take_add_one,hq,Option.toList_some]
   exact as_ (Paired.mapP eo fun v q z=>⟨eI_ (z.1.same s5) hD5 z.2,z.2⟩) (.cons ⟨eI_ wy hD5 vD,vD⟩ .nil)
theorem dr_(ps:List Pc):(ps.reverse.map tn).map (·.1)=(ps.map (·.1)).reverse:=by
 rw[List.map_map,<- List.map_reverse]
 rfl
theorem Qs.fwd{ps qs:List Pc}(Q:Qs ps qs):Qs (ps.reverse.map tn) qs:=by
 refine⟨?_,fun q hq=>?_⟩
 ·rw[dr_,Q.nms]
  exact aY_ (List.reverse_perm _).symm
 ·obtain⟨p,hp,e⟩:=Q.mem q hq
  exact⟨tn p,List.mem_map.mpr ⟨p,List.mem_reverse.mpr hp,rfl⟩,by rw[ib_];exact e⟩
structure Bs (K:PySem.W.Frag) (CG CW:Addr) (H:Hp) (lh lt lp g p go po:Addr) (yh yt yp:List V) (hs:List (Str × Int)) (ts:List (Str × Str)) (ps qs:List Pc) (fp fo:List Addr):Prop where
 hh:H lh=some (.lst yh)
 th:TupsAt K H yh (hs.map kH)
 ht:H lt=some (.lst yt)
 tt:TupsAt K H yt (ts.map kT)
 hp:H lp=some (.lst yp)
 pc:PcsAt K H yp ps
 G:GoodsAt K CG CW H g p hs ts qs fp
 O:GoodsAt K CG CW H go po hs.reverse (bk ts) qs fo
 has:∀b∈fp,∃o,H b=some o
 hasO:∀b∈fo,∃o,H b=some o
theorem Bs.same{K:PySem.W.Frag}{CG CW:Addr}{H H':Hp}{lh lt lp g p go po:Addr}{yh yt yp:List V}{hs:List (Str × Int)}{ts:List (Str × Str)}{ps qs:List Pc}{fp fo:List Addr}(B:Bs K CG CW H lh lt lp g p go po yh yt yp hs ts ps qs fp fo)(s:Same H H'):Bs K CG CW H' lh lt lp g p go po yh yt yp hs ts ps qs fp fo:=
 ⟨s _ _ B.hh,B.th.same s,s _ _ B.ht,B.tt.same s,s _ _ B.hp,Paired.mapP B.pc fun _ _ q=>q.same s,B.G.same s,B.O.same s,fun b hb=>let ⟨o,e⟩:=B.has b hb;⟨o,s _ _ e⟩,fun b hb=>let ⟨o,e⟩:=B.hasO b hb;⟨o,s _ _ e⟩⟩
structure Sr (hs:List (Str × Int)) (ts:List (Str × Str)) (ps qs:List Pc):Prop where
 Gd:Good hs ts
 gp:∀q∈ps,GoodP ts q
 nd:(ps.map (·.1)).Nodup
 h30:ps.length<=30
 Q:Qs ps qs
 hb:∀h∈hs,h.2<=30
 pb:∀p∈ps,p.2.1<=1000000
end Ev
set_option Elab.async false
set_option linter.all false
set_option maxRecDepth 100000
namespace Ev
open PySem L2
structure Wb (K:PySem.W.Frag) (H:Hp) (lh lt:Addr) (yh yt:List V) (hs:List (Str × Int)) (ts:List (Str × Str)):Prop where
 hh:H lh=some (.lst yh)
 th:TupsAt K H yh (hs.map kH)
 ht:H lt=some (.lst yt)
 tt:TupsAt K H yt (ts.map kT)
 Gd:Good hs ts
theorem Wb.same{K:PySem.W.Frag}{H H':Hp}{lh lt:Addr}{yh yt:List V}{hs:List (Str × Int)}{ts:List (Str × Str)}(W:Wb K H lh lt yh yt hs ts)(s:Same H H'):Wb K H' lh lt yh yt hs ts:=⟨s _ _ W.hh,W.th.same s,s _ _ W.ht,W.tt.same s,W.Gd⟩
section
variable{P:Program}{w:World}{K:PySem.W.Frag}{mg:Str->Option Value}{base:Heap}{CG CW CP:Addr}
abbrev lwN:List Str:=["_law_script","_law_hands","_law_ties","_law_name","_law_strength","_law_pieces_here","_law_goods","_law_turned_here","_law_back_row","_law_other","_law_along","_law_k","_law_state","_law_stand_here","_law_times","_law_more","_law_strong","_law_back","_law_there","_law_weights"]
theorem scLaw:FnScope lwN ["_law_script"] (defScope sLaw):=⟨rfl,rfl,rfl,by decide +kernel,rfl,by decide +kernel,by decide +kernel⟩
def spLaw(K:PySem.W.Frag):Sp:=fun vs H Q _=>∃(a:Addr) (ns:List Int),vs=[.ref a]/\SqL K H a (ns.map V.int)/\ns.length<=63/\∀H',Q (.bl true) H'
set_option maxHeartbeats 3200000 in
theorem jn_{f0:Addr}{fd:FuncData}(F:Fun K "law" "law" sLaw f0 fd)(B:Bi mg)(TG:TxtG K CG)(mMin:mg "min"=none)(mSum:mg "sum"=none)(cC:Cal P w K mg base 1 "_law_cell_at" ["_law_script","_law_k"] (spCell K))(cD:Cal P w K mg base 1 "_law_digit" ["_law_state","_law_base"] spDigit)(cL:Cal P w K mg base 3 "_law_web" ["_law_state","_law_most"] (spLWeb K))(cP:Cal P w K mg base 3 "_law_pieces" ["_law_state","_law_ties","_law_most"] (spPieces K))(cSt:Cal P w K mg base 2 "_law_stand" ["_law_state","_law_pieces_here","_law_hands"] (spStand K))
  (cTn:Cal P w K mg base 1 "_law_turned" ["_law_ways_here"] (spTurned K)) (cTo:Cal P w K mg base 8 "_law_told" ["_law_goods","_law_stand_here"] (spTold K CG CW)) (cSc:Cal P w K mg base 8 "_law_scaled" ["_law_goods","_law_more","_law_stand_here","_law_times"] (spScaled K CG CW)) (cSr:Cal P w K mg base 8 "_law_stronger" ["_law_goods","_law_strong","_law_stand_here","_law_times"] (spStronger K CG CW))
  (cW:CalC P w K mg base CW 5 "Web" ["self","hands","ties"] (spInit K CW)) (cG:CalC P w K mg base CG 7 "Goods" ["self","web","pieces"] (spGInit K CG CW)) (cNm:CalM P w K mg base CG 1 "names" ["self"] (spGNames K CG CW)) (cFr:CalM P w K mg base CG 1 "are_free" ["self"] (spGFree K CG CW)) (cY:CalX P w K mg base CG 2 "ways" ["self","piece"] (spGWays K CG CW CP)) (cPa:Cal P w K mg base 3 "pieces_at" ["goods","stand","hand"] (spPiecesAt K CG CW)) (cLo:Cal P w K mg base 4 "loads" ["goods","stand"] (spLoads K CG CW)):FnOk P w K mg base CX0 9 f0 fd ["_law_script"] (spLaw K):=by
 refine F.ok scLaw (fun vs H Q E h=>?_) (fun cdv A outer s H vs Q E hr h=>?_)
 ·obtain⟨a,ns,rfl,_⟩:=h
  rfl
 ·obtain⟨ls,ns,rfl,hls,h63,k⟩:=h
  have sz:=sizeLine_eq
  have hu:=b1_ hr
  have hr1:Room 1 _:=hr.mono (by decide)
  have hr2:Room 2 _:=hr.mono (by decide)
  have hr3:Room 3 _:=hr.mono (by decide)
  have hr4:Room 4 _:=hr.mono (by decide)
  have hr6:Room 6 _:=hr.mono (by decide)
  have hr8:Room 8 _:=hr.mono (by decide)
  refine' ⟨_,a3_ ?s1 ?r1,?kk⟩
  case' r1=>refine' a3_ ?s2 ?r2
  case' r2=>refine' a3_ ?s3 ?r3
  case' r3=>refine' a3_ ?s4 ?r4
  case' r4=>refine' a3_ ?s5 ?r5
  case' r5=>refine' a3_ ?s6 ?r6
  case' r6=>refine' a3_ ?s7 ?r7
  case' r7=>refine' a3_ ?s8 ?r8
  case' r8=>refine' a3_ ?s9 ?r9
  case' r9=>refine' a3_ ?s10 (a3_ ?s11 (a5_ (ad_ gH_)))
  case s1=>exact f9_ (a9_ cL hr3 (a0_ (aV_ (a0_ (a9_ cC hr1 (a0_ (pv 0) (a0_ a6_ a2_))) a2_)) (a0_ a6_ a2_))) (bH_ rfl (aa_ (a8_ (i:=1) scLaw.nd rfl (Or.inl rfl)) (aa_ (a8_ (i:=2) scLaw.nd rfl (Or.inl rfl)) aF_)))
  case s2=>exact bp_ (i:=1) ["_law_name","_law_strength"] 2 [] scLaw.nd rfl (Or.inl rfl) (aj_ (pv 1)) (fun fp s H=>b9_ (n:=2) (aa_ (a8_ (i:=0) (show (["_law_name","_law_strength"]:List Str).Nodup by decide +kernel) rfl (Or.inl rfl)) (aa_ (a8_ (i:=1) (show (["_law_name","_law_strength"]:List Str).Nodup by decide +kernel) rfl (Or.inl rfl)) aF_))) (fun fp s H=>au_) (fun fp s H=>aO_ (a0_ (pv 0) (a0_ (ai_ aU_ a6_ (ai_ bG_ (pv 1) a6_)) a2_)))
  case s3=>exact ab_ (i:=5) scLaw.nd rfl (Or.inl rfl) (a9_ cP hr3 (a0_ (aV_ (a0_ (a9_ cC hr1 (a0_ (pv 0) (a0_ a6_ a2_))) a2_)) (a0_ (pv 2) (a0_ a6_ a2_))))
  case s4=>exact bp_ (i:=5) ["_law_name","_law_weight","_law_ways_here"] 3 [] scLaw.nd rfl (Or.inl rfl) (aj_ (pv 5)) (fun fp s H=>b9_ (n:=3) (aa_ (a8_ (i:=0) (show (["_law_name","_law_weight","_law_ways_here"]:List Str).Nodup by decide +kernel) rfl (Or.inl rfl)) (aa_ (a8_ (i:=1) (show (["_law_name","_law_weight","_law_ways_here"]:List Str).Nodup by decide +kernel) rfl (Or.inl rfl)) (aa_ (a8_ (i:=2) (show (["_law_name","_law_weight","_law_ways_here"]:List Str).Nodup by decide +kernel) rfl (Or.inl rfl)) aF_)))) (fun fp s H=>au_) (fun fp s H=>aO_ (a0_ (pv 0) (a0_ (ai_ aU_ a6_ (ai_ bG_ (pv 1) (ai_ h1_ a6_ a6_))) (a0_ (pv 2) a2_))))
  case s5=>exact ab_ (i:=6) scLaw.nd rfl (Or.inr rfl) (dY_ cG hr8 (a0_ (dY_ cW hr6 (a0_ (pv 1) (a0_ (pv 2) a2_))) (a0_ (pv 5) a2_)))
  case s6=>exact bp_ (i:=7) ["_law_tie"] 1 [] scLaw.nd rfl (Or.inl rfl) (aj_ (cG_ (pv 2) (dG_ cj_ a6_))) (fun fp s H=>a8_ (i:=0) (show (["_law_tie"]:List Str).Nodup by decide +kernel) rfl (Or.inl rfl)) (fun fp s H=>au_) (fun fp s H=>dx_ (K:=K) (pv 0) (dG_ cj_ a6_))
  case' s7=>refine' bp_ (i:=8) ["_law_name","_law_weight","_law_ways_here"] 3 [] scLaw.nd rfl (Or.inl rfl) (aj_ (cG_ (pv 5) (dG_ cj_ a6_))) (fun fp s H=>b9_ (n:=3) (aa_ (a8_ (i:=0) (show (["_law_name","_law_weight","_law_ways_here"]:List Str).Nodup by decide +kernel) rfl (Or.inl rfl)) (aa_ (a8_ (i:=1) (show (["_law_name","_law_weight","_law_ways_here"]:List Str).Nodup by decide +kernel) rfl (Or.inl rfl)) (aa_ (a8_ (i:=2) (show (["_law_name","_law_weight","_law_ways_here"]:List Str).Nodup by decide +kernel) rfl (Or.inl rfl)) aF_)))) (fun fp s H=>au_) (fun fp s H=>?te7)
  case te7=>exact aO_ (a0_ (pv 0) (a0_ (pv 1) (a0_ (a9_ cTn hr1 (a0_ (pv 2) a2_)) a2_)))
  case s8=>exact ab_ (i:=9) scLaw.nd rfl (Or.inr rfl) (dY_ cG hr8 (a0_ (dY_ cW hr6 (a0_ (cG_ (pv 1) (dG_ cj_ a6_)) (a0_ (pv 7) a2_))) (a0_ (pv 8) a2_)))
  case' s9=>refine' bp_ (i:=10) ["_law_one","_law_goods"] 1 [6] scLaw.nd rfl (Or.inl rfl) (aj_ (bV_ cNm TG.cl hr1 (pv 6))) (fun fp s H=>a8_ (i:=0) (show (["_law_one","_law_goods"]:List Str).Nodup by decide +kernel) rfl (Or.inl rfl)) (fun fp s H=>au_) (fun fp s H=>?te9)
  case te9=>exact jk_ cY TG.cl hr2 (pv 1) (a0_ (pv 0) a2_)
  case' s10=>refine' ax_ (PW.pt (cW_ ?e1 (bD_ ?e2))) ae_ af_
  case e1=>exact ap_ cV_ (bV_ cFr TG.cl hr1 (pv 9)) (bV_ cFr TG.cl hr1 (pv 6)) (nomark _)
  case' e2=>refine' ap_ (fb_ (roomU hr 8)) (aI_ ["_law_one","_law_other"] 1 [9] (aj_ (bV_ cNm TG.cl hr1 (pv 9))) (fun fp s H=>a8_ (i:=0) (show (["_law_one","_law_other"]:List Str).Nodup by decide +kernel) rfl (Or.inl rfl)) (fun fp s H=>au_) (fun fp s H=>?te10)) (pv 10) (nomark _)
  case te10=>exact jk_ cY TG.cl hr2 (pv 1) (a0_ (pv 0) a2_)
  case' s11=>refine' aM_ PassesOwn.never rfl ?i2 (a8_ (i:=11) scLaw.nd rfl (Or.inl rfl)) (a3_ ?t1 ?q1)
  case i2=>exact h7_ (by rfl) B.range (a0_ a6_ (a0_ (ac_ (gs_ rfl) (by rfl) B.max PyProof.Rows.Boot.«max» (a0_ a6_ (a0_ (ac_ (fR_ rfl) (by rfl) mMin PyProof.Rows.Boot.«min» (a0_ a6_ (a0_ (ac_ an_ (by rfl) B.len PySem.boot_len (a0_ (pv 0) a2_)) a2_))) a2_))) a2_))
  case' q1=>refine' a3_ ?t2 ?q2
  case' q2=>refine' a3_ ?t3 ?q3
  case' q3=>refine' a3_ ?t4 ?q4
  case' q4=>refine' a3_ ?t5 ?q5
  case' q5=>refine' a3_ ?t6 ?q6
  case' q6=>refine' a3_ ?t7 ?q7
  case' q7=>refine' a3_ ?t8 ?q8
  case' q8=>refine' a3_ ?t9 ?q9
  case' q9=>refine' a3_ ?t10 (a3_ ?t11 (a5_ ?t12))
  case t1=>exact ab_ (i:=12) scLaw.nd rfl (Or.inl rfl) (aV_ (a0_ (ai_ aU_ (a9_ cC hr1 (a0_ (pv 0) (a0_ (pv 11) a2_))) (ai_ b8_ a6_ (pv 11))) a2_))
  case t2=>exact ab_ (i:=13) scLaw.nd rfl (Or.inl rfl) (a9_ cSt hr2 (a0_ (pv 12) (a0_ (pv 5) (a0_ (pv 1) a2_))))
  case t3=>exact ab_ (i:=14) scLaw.nd rfl (Or.inr rfl) (ai_ aU_ a6_ (a9_ cD hr1 (a0_ (pv 12) (a0_ (aA_ aN_ (aV_ (a0_ a6_ (a0_ a6_ a2_))) (a9_ cD hr1 (a0_ (pv 12) (a0_ a6_ a2_))) (fun _ _=>rfl)) a2_))))
  case t4=>exact ab_ (i:=15) scLaw.nd rfl (Or.inl rfl) (dY_ cG hr8 (a0_ (dY_ cW hr6 (a0_ (pv 1) (a0_ (pv 2) a2_))) (a0_ (aI_ ["_law_name","_law_weight","_law_ways_here","_law_times"] 3 [14] (aj_ (pv 5)) (fun fp s H=>b9_ (n:=3) (aa_ (a8_ (i:=0) (show (["_law_name","_law_weight","_law_ways_here","_law_times"]:List Str).Nodup by decide +kernel) rfl (Or.inl rfl)) (aa_ (a8_ (i:=1) (show (["_law_name","_law_weight","_law_ways_here","_law_times"]:List Str).Nodup by decide +kernel) rfl (Or.inl rfl)) (aa_ (a8_ (i:=2) (show (["_law_name","_law_weight","_law_ways_here","_law_times"]:List Str).Nodup by decide +kernel) rfl (Or.inl rfl)) aF_)))) (fun fp s H=>au_) (fun fp s H=>aO_ (a0_ (pv 0) (a0_ (ai_ b8_ (pv 1) (pv 3)) (a0_ (pv 2) a2_))))) a2_)))
  case t5=>exact ab_ (i:=16) scLaw.nd rfl (Or.inl rfl) (dY_ cG hr8 (a0_ (dY_ cW hr6 (a0_ (aI_ ["_law_name","_law_strength","_law_times"] 2 [14] (aj_ (pv 1)) (fun fp s H=>b9_ (n:=2) (aa_ (a8_ (i:=0) (show (["_law_name","_law_strength","_law_times"]:List Str).Nodup by decide +kernel) rfl (Or.inl rfl)) (aa_ (a8_ (i:=1) (show (["_law_name","_law_strength","_law_times"]:List Str).Nodup by decide +kernel) rfl (Or.inl rfl)) aF_))) (fun fp s H=>au_) (fun fp s H=>aO_ (a0_ (pv 0) (a0_ (ai_ b8_ (pv 1) (pv 2)) a2_)))) (a0_ (pv 2) a2_))) (a0_ (pv 5) a2_)))
  case t6=>exact ab_ (i:=17) scLaw.nd rfl (Or.inl rfl) (aB_ (aS_ rfl) (by rfl) B.dict PyProof.Rows.Boot.«dict» (a0_ (cG_ (aB_ (c2_ rfl) (by rfl) B.list PyProof.Rows.Boot.«list» (a0_ (aZ_ (pv 13)) a2_)) (dG_ cj_ a6_)) a2_))
  case' t7=>refine' ax_ (PW.pt (cW_ ?f1 (bD_ ?f2))) ae_ af_
  case f1=>exact ap_ (fb_ (roomU hr 8)) (a9_ cTo hr8 (a0_ (pv 6) (a0_ (pv 13) a2_))) (a9_ cTo hr8 (a0_ (pv 9) (a0_ (pv 17) a2_))) (nomark _)
  case f2=>exact aC_ (aH_ (a9_ cSc hr8 (a0_ (pv 6) (a0_ (pv 15) (a0_ (pv 13) (a0_ (pv 14) a2_))))))
  case t8=>exact ax_ (aC_ (aH_ (a9_ cSr hr8 (a0_ (pv 6) (a0_ (pv 16) (a0_ (pv 13) (a0_ (pv 14) a2_))))))) ae_ af_
  case t9=>exact ab_ (i:=18) scLaw.nd rfl (Or.inl rfl) (aV_ a2_)
  case t10=>exact aM_ PassesOwn.never rfl (aj_ (pv 1)) (bH_ rfl (aa_ (a8_ (i:=3) scLaw.nd rfl (Or.inl rfl)) (aa_ (a8_ (i:=4) scLaw.nd rfl (Or.inl rfl)) aF_))) (a5_ (ab_ (i:=18) scLaw.nd rfl (Or.inl rfl) (ai_ dX_ (pv 18) (a9_ cPa hr3 (a0_ (pv 6) (a0_ (pv 13) (a0_ (pv 3) a2_)))))))
  case t11=>exact ab_ (i:=19) scLaw.nd rfl (Or.inl rfl) (ac_ (e3_ rfl) (by rfl) mSum PyProof.Rows.Boot.«sum» (a0_ (aI_ ["_law_piece"] 1 [] (aj_ (pv 5)) (fun fp s H=>a8_ (i:=0) (show (["_law_piece"]:List Str).Nodup by decide +kernel) rfl (Or.inl rfl)) (fun fp s H=>au_) (fun fp s H=>aA_ (ixK (K:=K) rIxT aG_) (pv 0) a6_ (fun _ _=>rfl))) a2_))
  case' t12=>refine' ax_ (PW.pt (cW_ ?h1 (bD_ ?h2))) ae_ af_
  case h1=>exact ap_ (jF_ cmpS (roomU hr 0)) (ac_ fL_ (by rfl) B.sorted PyProof.Rows.Boot.«sorted» (a0_ (pv 18) a2_)) (bV_ cNm TG.cl hr1 (pv 6)) (nomark _)
  case h2=>exact ap_ cV_ (ac_ (gr_ rfl) (by rfl) mSum PyProof.Rows.Boot.«sum» (a0_ (bR_ (a9_ cLo hr4 (a0_ (pv 6) (a0_ (pv 13) a2_)))) a2_)) (pv 19) (nomark _)
  case' kk=>skip
  refine seqG (fun σ H'=>∃(lh lt:Addr) (yh yt:List V) (hs:List (Str × Int)) (ts:List (Str × Str)),Same H H'/\Wb K H' lh lt yh yt hs ts/\σ=[some (.ref ls),some (.ref lh),some (.ref lt),none,none,none,none,none,none,none,none,none,none,none,none,none,none,none,none,none]) ?m2 (fun N hN=>?m1)
  case m1=>
   refine⟨_,rfl,ls,ns,0,rfl,by decide,hls,fun n0=>?_⟩
   refine⟨by show 1<=sizeLine;decide,fun l0 hl0=>?_⟩
   have sa:=Same.new (o:=.lst [.int n0]) hl0
   have st0:stt (upd H l0 (.lst [.int n0])) l0:=.inl ⟨n0,a1_⟩
   generalize upd H l0 (.lst [.int n0])=Ha at sa st0 ⊢
   refine⟨l0,rfl,st0,fun t0 lh lt yh yt hs ts H2 b2 st2 ht2 hlh hlt nlt hlh2 th2 hlt2 tt2 Gd _=>?_⟩
   exact⟨t0,_,rfl,.of ht2,rfl,_,_,rfl,_,_,rfl,rfl,hN _ _ ⟨lh,lt,yh,yt,hs,ts,fun b o e=>b2 _ _ (sa _ _ e) (a4_ e hl0),⟨hlh2,th2,hlt2,tt2,Gd⟩,rfl⟩⟩
  rintro σ H1 ⟨lh0,lt,yh0,yt,hs0,ts,s1,W1,rfl⟩
  refine seqG (fun σ H'=>∃(lh:Addr) (yh:List V),Same H H'/\Wb K H' lh lt yh yt (hs0.map hn) ts/\σ=[some (.ref ls),some (.ref lh),some (.ref lt),none,none,none,none,none,none,none,none,none,none,none,none,none,none,none,none,none]) ?m4 (fun N hN=>?m3)
  case m3=>
   refine⟨_,rfl,lh0,rfl,⟨_,.of W1.hh⟩,fun D hD=>?_⟩
   refine d9_ (K:=K) (G:=hn) (fv:=[]) rfl (fun _=>rfl) (fun h hh H Q q=>?_) W1.hh W1.th (by have:=W1.Gd.h8;omega) hD fun H2 out s2 e2 t2=>?_
   ·exact⟨_,rfl,_,_,rfl,rfl,by show (0:Int)<30;decide,_,_,rfl,rfl,q⟩
   ·exact hN _ _ ⟨D,out,s1.trans s2,⟨e2,t2,s2 _ _ W1.ht,W1.tt.same s2,j7_ W1.Gd⟩,rfl⟩
  have hb:∀h∈hs0.map hn,h.2<=30:=fun h hh=>by
   obtain⟨x,_,rfl⟩:=List.mem_map.mp hh
   show 1+x.2 % 30<=30
   omega
  generalize hs0.map hn=hs at hb
  clear W1
  rintro σ H2 ⟨lh,yh,s2,W2,rfl⟩
  clear s1
  refine seqG (fun σ H'=>∃(lp:Addr) (yp:List V) (ps:List Pc),Same H2 H'/\H' lp=some (.lst yp)/\PcsAt K H' yp ps/\(∀q∈ps,GoodP ts q)/\(ps.map (·.1)).Nodup/\ps.length<=30/\σ=[some (.ref ls),some (.ref lh),some (.ref lt),none,none,some (.ref lp),none,none,none,none,none,none,none,none,none,none,none,none,none,none]) ?m6 (fun N hN=>?m5)
  case m5=>
   refine⟨_,rfl,ls,ns,1,rfl,by decide,s2.seq hls,fun n1=>?_⟩
   refine⟨by show 1<=sizeLine;decide,fun l1 hl1=>?_⟩
   have sa:=Same.new (o:=.lst [.int n1]) hl1
   have st0:stt (upd H2 l1 (.lst [.int n1])) l1:=.inl ⟨n1,a1_⟩
   generalize upd H2 l1 (.lst [.int n1])=Ha at sa st0 ⊢
   refine⟨_,rfl,l1,lt,30,yt,ts,rfl,Nat.le_refl _,st0,sa _ _ W2.ht,W2.tt.same sa,a4_ W2.ht hl1,W2.Gd.t64,W2.Gd.tok,W2.Gd.tnd,fun lp yp ps H4 b4 st4 hlp hlp4 pc4 gp nd h30 _=>?_⟩
   exact hN _ _ ⟨lp,yp,ps,fun b o e=>b4 _ _ (sa _ _ e) (a4_ e hl1),hlp4,pc4,gp,nd,h30,rfl⟩
  rintro σ H3 ⟨lp0,yp0,ps0,s3,hp3,pc3,gp3,nd3,l30,rfl⟩
  have W3:=W2.same s3
  have s3:=s2.trans s3
  clear W2 s2
  refine seqG (fun σ H'=>∃(lp:Addr) (yp:List V),Same H3 H'/\H' lp=some (.lst yp)/\PcsAt K H' yp (ps0.map pn)/\σ=[some (.ref ls),some (.ref lh),some (.ref lt),none,none,some (.ref lp),none,none,none,none,none,none,none,none,none,none,none,none,none,none]) ?m8 (fun N hN=>?m7)
  case m7=>
   refine⟨_,rfl,lp0,rfl,⟨_,.of hp3⟩,fun D hD=>?_⟩
   refine dh_ (K:=K) (G:=pn) (fv:=[]) rfl (fun p hp v H Q wy q=>?_) hp3 pc3 (by omega) hD fun H4 out s4 e4 t4=>?_
   ·exact⟨_,rfl,_,rfl,_,_,rfl,rfl,⟨by decide,by decide,by decide⟩,_,_,rfl,rfl,by show (0:Int)<10 ^ Int.toNat 6;decide,_,_,rfl,rfl,_,rfl,q v H (Same.refl _) wy (.inl rfl)⟩
   ·exact hN _ _ ⟨D,out,s4,e4,t4,rfl⟩
  have gp:∀q∈ps0.map pn,GoodP ts q:=fun q hq=>by
   obtain⟨p,hp,rfl⟩:=List.mem_map.mp hq
   exact i7_ (gp3 p hp)
  have pb:∀q∈ps0.map pn,q.2.1<=1000000:=fun q hq=>by
   obtain⟨p,hp,rfl⟩:=List.mem_map.mp hq
   show 1+p.2.1 % 1000000<=1000000
   omega
  have nd:((ps0.map pn).map (·.1)).Nodup:=by rw[List.map_map];exact nd3
  have h30:(ps0.map pn).length<=30:=by rw[List.length_map];exact l30
  generalize ps0.map pn=ps at gp pb nd h30
  clear hp3 pc3 gp3 nd3 l30
  rintro σ H4 ⟨lp,yp,s4,hp4,pc4,rfl⟩
  have W4:=W3.same s4
  have s4:=s3.trans s4
  have G:=W4.Gd
  clear W3 s3
  have wl:∀q∈ps,∀ws,q.2.2=some ws->ws.length<=1000:=fun q hq ws e=>by
   have:=((gp q hq).ws ws e).len
   have:=G.t64
   omega
  refine seqG (fun σ H'=>∃(g p:Addr) (qs:List Pc) (fp:List Addr),Same H4 H'/\GoodsAt K CG CW H' g p hs ts qs fp/\Qs ps qs/\σ=[some (.ref ls),some (.ref lh),some (.ref lt),none,none,some (.ref lp),some (.ref g),none,none,none,none,none,none,none,none,none,none,none,none,none]) ?m10 (fun N hN=>?m9)
  case m9=>
   refine⟨_,rfl,_,rfl,?_⟩
   refine fd_ G W4.hh W4.th W4.ht W4.tt (fun p fpw H5 s5 W _=>?_)
   refine⟨_,rfl,?_⟩
   exact cq_ W G (s5 _ _ hp4) (Paired.mapP pc4 fun _ _ q=>q.same s5) gp nd (by omega) (fun g qs fp H6 s6 GA Q _=>hN _ _ ⟨g,p,qs,fp,s5.trans s6,GA,Q,rfl⟩)
  rintro σ H5 ⟨g,p,qs,fp0,s45,GA0,Qq,rfl⟩
  obtain⟨fp,GA5,has5⟩:=GA0.slim
  clear GA0 fp0
  have W5:=W4.same s45
  have s5:=s4.trans s45
  have hp5:=s45 _ _ hp4
  have pc5:PcsAt K H5 yp ps:=Paired.mapP pc4 fun _ _ q=>q.same s45
  clear W4 s4 s45 hp4 pc4
  refine seqG (fun σ H'=>∃(lb:Addr) (yb:List V),Same H5 H'/\H' lb=some (.lst yb)/\TupsAt K H' yb ((bk ts).map kT)/\σ=[some (.ref ls),some (.ref lh),some (.ref lt),none,none,some (.ref lp),some (.ref g),some (.ref lb),none,none,none,none,none,none,none,none,none,none,none,none]) ?m12 (fun N hN=>?m11)
  case m11=>
   refine⟨_,rfl,_,rfl,rfl,lt,yt,rfl,.of W5.ht,fun b hb'=>?_⟩
   have s6:=Same.new (o:=.lst yt.reverse) hb'
   have e6:upd H5 b (.lst yt.reverse) b=some (.lst yt.reverse):=a1_
   generalize upd H5 b (.lst yt.reverse)=H6 at s6 e6 ⊢
   refine⟨b,rfl,⟨_,.of e6⟩,fun D hD=>?_⟩
   refine dL_ (K:=K) (ts:=ts) (fun σ H Q q=>⟨_,rfl,q⟩) rfl e6 (by rw[List.map_reverse];exact b4_ (W5.tt.same s6)) (by have:=G.t64;omega) hD fun H7 out s7 e7 t7=>?_
   exact hN _ _ ⟨D,out,s6.trans s7,e7,t7,rfl⟩
  rintro σ H6 ⟨lb,yb,s6,hb6,tb6,rfl⟩
  refine seqG (fun σ H'=>∃(lr:Addr) (yr:List V),Same H6 H'/\H' lr=some (.lst yr)/\PcsAt K H' yr (ps.reverse.map tn)/\σ=[some (.ref ls),some (.ref lh),some (.ref lt),none,none,some (.ref lp),some (.ref g),some (.ref lb),some (.ref lr),none,none,none,none,none,none,none,none,none,none,none]) ?m14 (fun N hN=>?m13)
  case m13=>
   refine⟨_,rfl,_,rfl,rfl,lp,yp,rfl,.of (s6 _ _ hp5),fun b hb'=>?_⟩
   have s7:=Same.new (o:=.lst yp.reverse) hb'
   have e7:upd H6 b (.lst yp.reverse) b=some (.lst yp.reverse):=a1_
   generalize upd H6 b (.lst yp.reverse)=H7 at s7 e7 ⊢
   refine⟨b,rfl,⟨_,.of e7⟩,fun D hD=>?_⟩
   refine dh_ (K:=K) (ps:=ps.reverse) (G:=tn) (fv:=[]) rfl (fun p hp v H Q wy q=>?_) e7 (b4_ (Paired.mapP pc5 fun _ _ q=>q.same (s6.trans s7))) (by rw[List.length_reverse];omega) hD fun H8 out s8 e8 t8=>?_
   ·refine⟨_,rfl,_,rfl,_,rfl,v,p.2.2,rfl,wy,wl p (List.mem_reverse.mp hp),fun v' H' s' wy' nv=>q v' H' s' wy' (.inr nv)⟩
   ·exact hN _ _ ⟨D,out,s7.trans s8,e8,t8,rfl⟩
  rintro σ H7 ⟨lr,yr,s67,hr7,pr7,rfl⟩
  have s57:=s6.trans s67
  refine seqG (fun σ H'=>∃(go po:Addr) (fo:List Addr),Same H7 H'/\GoodsAt K CG CW H' go po hs.reverse (bk ts) qs fo/\σ=[some (.ref ls),some (.ref lh),some (.ref lt),none,none,some (.ref lp),some (.ref g),some (.ref lb),some (.ref lr),some (.ref go),none,none,none,none,none,none,none,none,none,none]) ?m16 (fun N hN=>?m15)
  case m15=>
   refine⟨_,rfl,_,rfl,rfl,lh,yh,rfl,.of (s57 _ _ W5.hh),fun b hb'=>?_⟩
   have s8:=Same.new (o:=.lst yh.reverse) hb'
   have e8:upd H7 b (.lst yh.reverse) b=some (.lst yh.reverse):=a1_
   generalize upd H7 b (.lst yh.reverse)=H8 at s8 e8 ⊢
   refine⟨_,rfl,?_⟩
   refine fd_ (ei_ G) e8 (by rw[List.map_reverse];exact b4_ (W5.th.same (s57.trans s8))) ((s67.trans s8) _ _ hb6) (tb6.same (s67.trans s8)) (fun p fpw H9 s9 W _=>?_)
   refine⟨_,rfl,?_⟩
   refine cq_ W (ei_ G) ((s8.trans s9) _ _ hr7) (Paired.mapP pr7 fun _ _ q=>q.same (s8.trans s9)) (fun q hq=>?_) (by rw[List.map_map];exact ((List.reverse_perm ps).map _).nodup_iff.mpr nd) (by rw[List.length_map,List.length_reverse];omega) (fun g qs' fp H10 s10 GA Q' _=>?_)
   ·obtain⟨x,hx,rfl⟩:=List.mem_map.mp hq
    exact fn_ (gp x (List.mem_reverse.mp hx))
   ·rw[Qs.one nd Qq Q'.back] at GA
    exact hN _ _ ⟨g,p,fp,(s8.trans s9).trans s10,GA,rfl⟩
  rintro σ H8 ⟨go,po,fo0,s78,GO0,rfl⟩
  obtain⟨fo,GO8,hasO⟩:=GO0.slim
  have s58:=s57.trans s78
  have s8:=s5.trans s58
  have D8:Bs K CG CW H8 lh lt lp g p go po yh yt yp hs ts ps qs fp fo:=⟨s58 _ _ W5.hh,W5.th.same s58,s58 _ _ W5.ht,W5.tt.same s58,s58 _ _ hp5,Paired.mapP pc5 fun _ _ q=>q.same s58,GA5.same s58,GO8,fun b hb'=>let ⟨o,e⟩:=has5 b hb';⟨o,s58 _ _ e⟩,hasO⟩
  have SS:Sr hs ts ps qs:=⟨G,gp,nd,h30,Qq,hb,pb⟩
  clear GO0 fo0 GO8 hasO W5 hp5 pc5 GA5 has5 s5 s57 s58 s6 s67 s78 hb6 tb6 hr7 pr7 hb pb gp G nd Qq h30
  have lq:qs.length<=30:=by rw[SS.Q.len];exact SS.h30
  have ndq:=SS.Q.nd SS.nd
  have wlq:∀q∈qs,∀ws,q.2.2=some ws->ws.length<=1000:=fun q hq ws e=>by
   obtain⟨p,hp,rfl⟩:=SS.Q.mem q hq
   have e:p.2.2.map tsOf=some ws:=e
   cases z:p.2.2 with
   |none=>rw[z] at e;cases e
   |some us=>
    rw[z] at e
    cases e
    rw[cn_]
    exact wl p hp us z
  clear wl
  have hno:∀(a b c:Addr) {m:Str},¬m="web"->¬m="weight_by_name"->¬m="ways_by_name"->(gflds a b c).lookup m=none:=fun _ _ _ _ h1 h2 h3=>be_ _ _ _ h1 h2 h3
  refine seqG (fun σ H'=>∃(al:Addr) (ya:List V),Same H8 H'/\H' al=some (.lst ya)/\Paired (fun v (q:Pc)=>WyAt K H' v q.2.2) ya qs/\σ=[some (.ref ls),some (.ref lh),some (.ref lt),none,none,some (.ref lp),some (.ref g),some (.ref lb),some (.ref lr),some (.ref go),some (.ref al),none,none,none,none,none,none,none,none,none]) ?m18 (fun N hN=>?m17)
  case m17=>
   obtain⟨dx,dw,dy,vs,fpw,g1,_⟩:=id D8.G.ex
   refine⟨_,rfl,g,dx,_,rfl,g1,hno _ _ _ (by decide +kernel) (by decide +kernel) (by decide +kernel),g,p,hs,ts,qs,fp,rfl,D8.G,fun l hl=>?_⟩
   have s9:=Same.new (o:=.lst ((qs.map (·.1)).map V.str)) hl
   have e9:upd H8 l (.lst ((qs.map (·.1)).map V.str)) l=some (.lst ((qs.map (·.1)).map V.str)):=a1_
   generalize upd H8 l (.lst ((qs.map (·.1)).map V.str))=H9 at s9 e9 ⊢
   refine⟨l,rfl,⟨_,.of e9⟩,fun D hD=>?_⟩
   exact dZ_ (K:=K) rfl e9 (D8.G.same s9) TG.cl ndq (by omega) wlq hD fun H10 out s10 e10 w10=>hN _ _ ⟨D,out,s9.trans s10,e10,w10,rfl⟩
  rintro σ H9 ⟨al,ya,s89,ea,wa,rfl⟩
  refine seqG (fun σ H'=>Same H8 H'/\σ=[some (.ref ls),some (.ref lh),some (.ref lt),none,none,some (.ref lp),some (.ref g),some (.ref lb),some (.ref lr),some (.ref go),some (.ref al),none,none,none,none,none,none,none,none,none]) ?m20 (fun N hN=>?m19)
  case m19=>
   have D9:=D8.same s89
   obtain⟨dx,dw,dy,vs,fpw,o1,_⟩:=id D9.O.ex
   refine⟨_,rfl,go,dx,_,rfl,o1,hno _ _ _ (by decide +kernel) (by decide +kernel) (by decide +kernel),go,po,hs.reverse,bk ts,qs,fo,rfl,D9.O,by omega,fun H10 s10=>?_⟩
   obtain⟨dx2,dw2,dy2,vs2,fpw2,g1,_⟩:=id (D9.G.same s10).ex
   refine⟨_,rfl,g,dx2,_,rfl,g1,hno _ _ _ (by decide +kernel) (by decide +kernel) (by decide +kernel),g,p,hs,ts,qs,fp,rfl,D9.G.same s10,by omega,fun H11 s11=>⟨rfl,_,rfl,?_⟩⟩
   refine ite2 (fun c=>by simp at c) (fun c=>?_)
   have s91:=s10.trans s11
   obtain⟨dx3,dw3,dy3,vs3,fpw3,o3,_⟩:=id (D9.O.same s91).ex
   refine⟨_,rfl,go,dx3,_,rfl,o3,hno _ _ _ (by decide +kernel) (by decide +kernel) (by decide +kernel),go,po,hs.reverse,bk ts,qs,fo,rfl,D9.O.same s91,fun l hl=>?_⟩
   have s12:=Same.new (o:=.lst ((qs.map (·.1)).map V.str)) hl
   have e12:upd H11 l (.lst ((qs.map (·.1)).map V.str)) l=some (.lst ((qs.map (·.1)).map V.str)):=a1_
   generalize upd H11 l (.lst ((qs.map (·.1)).map V.str))=H12 at s12 e12 ⊢
   have s92:=s91.trans s12
   refine⟨l,rfl,⟨_,.of e12⟩,fun D hD=>?_⟩
   refine dZ_ (K:=K) rfl e12 (D9.O.same s92) TG.cl ndq (by omega) wlq hD fun H13 out s13 e13 w13=>?_
   have s93:=s92.trans s13
   refine⟨_,rfl,D,al,out,ya,rfl,rfl,.of e13,.of (s93 _ _ ea),cY_ w13 (Paired.mapP wa fun _ _ z=>z.same s93),_,rfl,?_⟩
   exact ite2 (fun c=>by simp at c) (fun c=>hN _ _ ⟨s89.trans s93,rfl⟩)
  clear s89 ea wa wlq
  rintro σ Hb ⟨s8b,rfl⟩
  have Db:=D8.same s8b
  have sb:=s8.trans s8b
  have hls:=sb.seq hls
  clear D8 s8 s8b sb
  have hln:(ns.map V.int).length<=63:=by rw[List.length_map];exact h63
  have lyp:=Paired.length Db.pc
  have h8:=SS.Gd.h8
  have h1:=SS.Gd.h1
  have wq:=iC_ SS.gp SS.Q
  have nqs:(ps.map (·.1)).Perm (qs.map (·.1)):=by
   rw[SS.Q.nms]
   exact (ar_ _).symm
  refine seqG (fun σ H'=>True) (fun σ H' _=>k _) (fun N hN=>?_)
  refine⟨_,rfl,ls,_,rfl,.inl hls,_,_,rfl,_,_,rfl,_,_,rfl,?_,?_⟩
  ·refine⟨by decide,by decide,?_,?_⟩
   ·split
    ·split<;>omega
    ·decide
   ·split
    ·split<;>omega
    ·decide
  refine cF_ (lo:=2) (fun i σ H'=>∃v3 v4 v11 v12 v13 v14 v15 v16 v17 v18 v19:Option V,σ=[some (.ref ls),some (.ref lh),some (.ref lt),v3,v4,some (.ref lp),some (.ref g),some (.ref lb),some (.ref lr),some (.ref go),some (.ref al),v11,v12,v13,v14,v15,v16,v17,v18,v19]/\Same Hb H') ⟨none,none,none,none,none,none,none,none,none,none,none,rfl,Same.refl Hb⟩ ?_ (fun σ H' _=>hN _ _ trivial)
  rintro i σ Hi hi ⟨v3,v4,v11,v12,v13,v14,v15,v16,v17,v18,v19,rfl,si⟩
  have Di:=Db.same si
  refine setG ?_
  dsimp only
  refine seqG (fun σ H'=>∃l,Same Hi H'/\Hi l=none/\stt H' l/\σ=[some (.ref ls),some (.ref lh),some (.ref lt),v3,v4,some (.ref lp),some (.ref g),some (.ref lb),some (.ref lr),some (.ref go),some (.ref al),some (.int (2+(i:Int))),some (.ref l),v13,v14,v15,v16,v17,v18,v19]) ?p2 (fun N hN=>?p1)
  case p1=>
   refine⟨_,rfl,_,rfl,ls,ns,2+(i:Int),rfl,by omega,si.seq hls,fun n=>?_⟩
   refine⟨_,rfl,_,_,rfl,rfl,.inl ⟨by decide,by decide⟩,_,_,rfl,rfl,?_⟩
   dsimp only
   generalize n+11 * (2+(i:Int))=n'
   exact⟨by show 1<=sizeLine;decide,fun l hl=>hN _ _ ⟨l,Same.new hl,hl,.inl ⟨n',a1_⟩,rfl⟩⟩
  rintro σ H1 ⟨l,s1,hl,st,rfl⟩
  have nl:∀{b o},Hi b=some o->b≠l:=fun e=>a4_ e hl
  have D1:=Di.same s1
  refine⟨_,rfl,_,rfl,_,rfl,l,lp,lh,yp,yh,ps,hs,rfl,st,D1.hp,nl Di.hp,D1.pc,D1.hh,nl Di.hh,D1.th,by omega,h8,SS.h30,SS.nd,fun d f H2 b2 st2 hd0 e2 fm=>?_⟩
  refine setG ?_
  dsimp only
  have s2:Same Hi H2:=fun b o e=>b2 _ _ (s1 _ _ e) (nl e)
  have dl:d≠l:=by
   obtain⟨xs,e⟩:=st.some
   exact (a4_ e hd0).symm
  have hdi:Hi d=none:=s1.free hd0
  clear D1 s1 b2 hd0 st
  refine seqG (fun σ H'=>∃t:Int,1<=t/\t<=30/\Same Hi H'/\H' d=some (.dK (stF (ps.map (·.1)) f))/\σ=[some (.ref ls),some (.ref lh),some (.ref lt),v3,v4,some (.ref lp),some (.ref g),some (.ref lb),some (.ref lr),some (.ref go),some (.ref al),some (.int (2+(i:Int))),some (.ref l),some (.ref d),some (.int t),v15,v16,v17,v18,v19]) ?p4 (fun N hN=>?p3)
  case p3=>
   refine⟨_,rfl,by show 2<=sizeLine;decide,fun l3 n3=>?_⟩
   have s3:=Same.new (o:=.lst [.int 3,.int 30]) n3
   have e3:upd H2 l3 (.lst [.int 3,.int 30]) l3=some (.lst [.int 3,.int 30]):=a1_
   have l3l:l3≠l:=by
    obtain⟨xs,e⟩:=st2.some
    exact (a4_ e n3).symm
   generalize upd H2 l3 (.lst [.int 3,.int 30])=H3 at s3 e3 ⊢
   refine⟨_,rfl,l,2,rfl,by decide,by decide,st2.same s3,fun r H4 r0 r1 b4 st4=>?_⟩
   obtain⟨v,hv,t,rfl,t0,t1⟩:∃v:V,atI [V.int 3,.int 30] r=some v/\∃t:Int,v=.int t/\0<t/\t<=30:=by
    rcases hit2 (a:=V.int 3) (b:=.int 30) r0 r1 with e|e
    ·exact⟨_,e,3,rfl,by decide,by decide⟩
    ·exact⟨_,e,30,rfl,by decide,by decide⟩
   refine⟨l3,_,_,_,rfl,rfl,.of (b4 _ _ e3 l3l),hv,?_⟩
   refine⟨l,t,rfl,t0,by omega,st4,fun q H5 q0 q1 b5 st5=>?_⟩
   refine⟨_,_,rfl,rfl,hN _ _ ⟨1+q,by omega,by omega,fun b o e=>b5 _ _ (b4 _ _ ((s2.trans s3) _ _ e) (nl e)) (nl e),b5 _ _ (b4 _ _ (s3 _ _ e2) dl) dl,rfl⟩⟩
  clear st2 s2 e2 dl
  rintro σ H3 ⟨t,t1,t2,s3,e3,rfl⟩
  refine seqG (fun σ H'=>∃(mo pm:Addr) (qm:List Pc) (fm':List Addr),Same H3 H'/\GoodsAt K CG CW H' mo pm hs ts qm fm'/\Qs (ps.map (tmP t)) qm/\d∉fm'/\σ=[some (.ref ls),some (.ref lh),some (.ref lt),v3,v4,some (.ref lp),some (.ref g),some (.ref lb),some (.ref lr),some (.ref go),some (.ref al),some (.int (2+(i:Int))),some (.ref l),some (.ref d),some (.int t),some (.ref mo),v16,v17,v18,v19]) ?p6 (fun N hN=>?p5)
  case p5=>
   have D3:=Di.same s3
   refine⟨_,rfl,_,rfl,?_⟩
   refine fd_ SS.Gd D3.hh D3.th D3.ht D3.tt (fun p' fpw H4 s4 W fw=>?_)
   refine⟨_,rfl,lp,rfl,⟨_,.of (s4 _ _ D3.hp)⟩,fun D hD=>?_⟩
   refine dh_ (K:=K) (G:=tmP t) (fv:=[some (.int t)]) rfl (fun p hp v H Q wy q=>?_) (s4 _ _ D3.hp) (Paired.mapP D3.pc fun _ _ q=>q.same s4) (by have:=SS.h30;omega) hD fun H5 out s5 e5 t5=>?_
   ·exact⟨_,rfl,_,rfl,_,rfl,_,_,rfl,rfl,.inr ⟨by omega,by omega⟩,_,rfl,q v H (Same.refl _) wy (.inl rfl)⟩
   refine cq_ (W.same s5) SS.Gd e5 t5 (fun q hq=>?_) (by rw[List.map_map];exact SS.nd) (by rw[List.length_map];have:=SS.h30;omega) (fun g' qm fm' H6 s6 GA Qm fr=>?_)
   ·obtain⟨x,hx,rfl⟩:=List.mem_map.mp hq
    exact eG_ (SS.gp x hx) (SS.pb x hx) t1 t2
   ·refine hN _ _ ⟨g',p',qm,fm',(s4.trans s5).trans s6,GA,Qm,fun m=>?_,rfl⟩
    rcases fr d m with z|z
    ·have:=fw d z
     rw[e3] at this
     cases this
    ·rw[(s4.trans s5) _ _ e3] at z
     cases z
  rintro σ H4 ⟨mo,pm,qm,fmo,s4,GM,Qm,dm,rfl⟩
  have s04:=s3.trans s4
  have e4:=s4 _ _ e3
  refine seqG (fun σ H'=>∃(sg pg:Addr) (fg:List Addr),Same H4 H'/\GoodsAt K CG CW H' sg pg (hs.map (tmH t)) ts qs fg/\d∉fg/\σ=[some (.ref ls),some (.ref lh),some (.ref lt),v3,v4,some (.ref lp),some (.ref g),some (.ref lb),some (.ref lr),some (.ref go),some (.ref al),some (.int (2+(i:Int))),some (.ref l),some (.ref d),some (.int t),some (.ref mo),some (.ref sg),v17,v18,v19]) ?p8 (fun N hN=>?p7)
  case p7=>
   have D4:=Di.same s04
   refine⟨_,rfl,lh,rfl,⟨_,.of D4.hh⟩,fun D hD=>?_⟩
   refine d9_ (K:=K) (G:=tmH t) (fv:=[some (.int t)]) rfl (fun _=>rfl) (fun h hh H Q q=>?_) D4.hh D4.th (by omega) hD fun H5 out s5 e5 t5=>?_
   ·exact⟨_,rfl,_,rfl,_,_,rfl,rfl,.inr ⟨by omega,by omega⟩,q⟩
   have G':=gz_ SS.Gd SS.hb t1 t2
   refine⟨_,rfl,?_⟩
   refine fd_ G' e5 t5 (s5 _ _ D4.ht) (D4.tt.same s5) (fun p' fpw H6 s6 W fw=>?_)
   refine⟨_,rfl,?_⟩
   refine cq_ W G' ((s5.trans s6) _ _ D4.hp) (Paired.mapP D4.pc fun _ _ q=>q.same (s5.trans s6)) SS.gp SS.nd (by have:=SS.h30;omega) (fun g' qg fg H7 s7 GA Qg fr=>?_)
   rw[Qs.one SS.nd SS.Q Qg] at GA
   refine hN _ _ ⟨g',p',fg,(s5.trans s6).trans s7,GA,fun m=>?_,rfl⟩
   rcases fr d m with z|z
   ·have:=fw d z
    rw[s5 _ _ e4] at this
    cases this
   ·rw[(s5.trans s6) _ _ e4] at z
    cases z
  rintro σ H5 ⟨sg,pg,fg,s5,GS,dg,rfl⟩
  have s05:=s04.trans s5
  have e5:=s5 _ _ e4
  have GM5:=GM.same s5
  clear GM e4 e3 s3 s04 s4
  refine seqG (fun σ H'=>∃db:Addr,Same H5 H'/\H5 db=none/\H' db=some (.dK (stF (ps.map (·.1)).reverse f))/\σ=[some (.ref ls),some (.ref lh),some (.ref lt),v3,v4,some (.ref lp),some (.ref g),some (.ref lb),some (.ref lr),some (.ref go),some (.ref al),some (.int (2+(i:Int))),some (.ref l),some (.ref d),some (.int t),some (.ref mo),some (.ref sg),some (.ref db),v18,v19]) ?p10 (fun N hN=>?p9)
  case p9=>
   refine⟨_,rfl,d,_,rfl,e5,fun v1 hv1=>?_⟩
   have sA:=Same.new (o:=itemsV v1 d) hv1
   have eA:upd H5 v1 (itemsV v1 d) v1=some (itemsV v1 d):=a1_
   generalize upd H5 v1 (itemsV v1 d)=H6 at sA eA ⊢
   refine⟨v1,d,_,rfl,eA,.of (sA _ _ e5),fun l1 y1 H7 hl1 s7 e7 pa7=>?_⟩
   refine⟨_,rfl,rfl,l1,y1,rfl,.of e7,fun b hb=>?_⟩
   have s8:=Same.new (o:=.lst y1.reverse) hb
   have e8:upd H7 b (.lst y1.reverse) b=some (.lst y1.reverse):=a1_
   generalize upd H7 b (.lst y1.reverse)=H8 at s8 e8 ⊢
   have s58:=(sA.trans s7).trans s8
   have l1':=Paired.length pa7
   refine⟨b,_,_,rfl,e8,b4_ (ca_ pa7 s8),by rw[List.length_reverse,aL_,List.length_map];have:=SS.h30;omega,fun db ndb=>?_⟩
   rw[show (stF (ps.map (·.1)) f).reverse=stF (ps.map (·.1)).reverse f from (List.map_reverse ..).symm,b3_ (jt_ ((List.reverse_perm _).nodup_iff.mpr SS.nd) _)]
   exact hN _ _ ⟨db,s58.trans (Same.new ndb),s58.free ndb,a1_,rfl⟩
  rintro σ H6 ⟨db,s6,nb,e6,rfl⟩
  have s06:=s05.trans s6
  have D6:=Di.same s06
  have fmr:∀n∈(ps.map (·.1)).reverse,f n∈hs.reverse.map (·.1):=fun n hn=>by
   rw[List.map_reverse,List.mem_reverse]
   exact fm n (List.mem_reverse.mp hn)
  have fresh:∀{x:Addr} {L:List Addr},Hi x=none->(∀b∈L,∃o,Hi b=some o)->x∉L:=fun hx h m=>by
   obtain⟨o,e⟩:=h _ m
   rw[hx] at e
   cases e
  have S6:Std K CG CW H6 g p d hs ts qs fp (ps.map (·.1)) f:=eU_ D6.G SS.Gd SS.gp SS.nd SS.h30 SS.Q (fresh hdi Di.has) (s6 _ _ e5) (List.Perm.refl _) fm
  have O6:Std K CG CW H6 go po db hs.reverse (bk ts) qs fo (ps.map (·.1)).reverse f:=eU_ D6.O (ei_ SS.Gd) (fun q hq=>by
   obtain⟨x,hx,rfl⟩:=List.mem_map.mp hq
   exact fn_ (SS.gp x (List.mem_reverse.mp hx))) (by rw[dr_];exact (List.reverse_perm _).nodup_iff.mpr SS.nd) (by rw[List.length_map,List.length_reverse];exact SS.h30) SS.Q.fwd (fresh (s05.free nb) Di.hasO) e6 (List.Perm.of_eq (dr_ ps).symm) fmr
  have gpm:∀q∈ps.map (tmP t),GoodP ts q:=fun q hq=>by
   obtain⟨x,hx,rfl⟩:=List.mem_map.mp hq
   exact eG_ (SS.gp x hx) (SS.pb x hx) t1 t2
  have nmm:(ps.map (tmP t)).map (·.1)=ps.map (·.1):=by rw[List.map_map];rfl
  have M6:Std K CG CW H6 mo pm d hs ts qm fmo (ps.map (·.1)) f:=eU_ (GM5.same s6) SS.Gd gpm (by rw[nmm];exact SS.nd) (by rw[List.length_map];exact SS.h30) Qm dm (s6 _ _ e5) (List.Perm.of_eq nmm.symm) fm
  have N6:Std K CG CW H6 sg pg d (hs.map (tmH t)) ts qs fg (ps.map (·.1)) f:=eU_ (GS.same s6) (gz_ SS.Gd SS.hb t1 t2) SS.gp SS.nd SS.h30 SS.Q dg (s6 _ _ e5) (List.Perm.refl _) fun n hn=>by rw[bd_];exact fm n hn
  have wm:=iC_ gpm Qm
  have el:=fun h=>j6_ SS.nd SS.Q Qm f h
  clear fmr fresh GM5 GS gpm nmm dm dg nb e6 e5 s5
  refine seqG (fun σ H'=>Same H6 H'/\σ=[some (.ref ls),some (.ref lh),some (.ref lt),v3,v4,some (.ref lp),some (.ref g),some (.ref lb),some (.ref lr),some (.ref go),some (.ref al),some (.int (2+(i:Int))),some (.ref l),some (.ref d),some (.int t),some (.ref mo),some (.ref sg),some (.ref db),v18,v19]) ?p12 (fun N hN=>?p11)
  case p11=>
   refine⟨_,rfl,_,rfl,g,p,d,hs,ts,qs,fp,_,f,rfl,S6,wq,fun l1 H7 s7 T7=>?_⟩
   refine⟨_,rfl,_,rfl,go,po,db,hs.reverse,bk ts,qs,fo,_,f,rfl,O6.same s7,wq,fun l2 H8 s8 T8=>?_⟩
   obtain⟨xs,ys,ex,ey,pp⟩:=fp_ SS.Gd (T7.same s8) T8
   refine⟨l1,l2,xs,ys,rfl,rfl,.of ex,.of ey,pp _ rfl,_,rfl,?_⟩
   refine ite2 (fun c=>by simp at c) (fun c=>?_)
   have s68:=s7.trans s8
   exact⟨_,rfl,_,rfl,_,rfl,_,rfl,g,p,mo,pm,d,t,hs,ts,qs,qm,fp,fmo,_,f,rfl,S6.same s68,M6.same s68,wq,wm,t1,t2,el,fun H9 s9=>⟨_,rfl,iteF (hN _ _ ⟨s68.trans s9,rfl⟩)⟩⟩
  rintro σ H7 ⟨s7,rfl⟩
  refine seqG (fun σ H'=>Same H6 H'/\σ=[some (.ref ls),some (.ref lh),some (.ref lt),v3,v4,some (.ref lp),some (.ref g),some (.ref lb),some (.ref lr),some (.ref go),some (.ref al),some (.int (2+(i:Int))),some (.ref l),some (.ref d),some (.int t),some (.ref mo),some (.ref sg),some (.ref db),v18,v19]) ?p14 (fun N hN=>?p13)
  case p13=>
   exact⟨_,rfl,_,rfl,_,rfl,_,rfl,g,p,sg,pg,d,t,hs,ts,qs,fp,fg,_,f,rfl,S6.same s7,N6.same s7,wq,t1,t2,fun H9 s9=>⟨_,rfl,iteF (hN _ _ ⟨s7.trans s9,rfl⟩)⟩⟩
  clear s7 O6 M6 N6 wm el
  rintro σ H8 ⟨s8,rfl⟩
  have gl:∀m:Nat,(((hs.map (·.1)).take m).flatMap fun x=>(qs.map (·.1)).filter fun n=>decide (f n=x)).length<=30:=fun m=>by
   have pe:=(d4_ ndq SS.Gd.hnd f fun n hn=>fm n (nqs.mem_iff.mpr hn)).length_eq
   rw[List.length_map] at pe
   have e:=List.take_append_drop m (hs.map (·.1))
   have:((((hs.map (·.1)).take m)++(hs.map (·.1)).drop m).flatMap fun x=>(qs.map (·.1)).filter fun n=>decide (f n=x)).length=qs.length:=by rw[e];exact pe
   rw[List.flatMap_append,List.length_append] at this
   omega
  refine⟨by show 0<=sizeLine;decide,fun th0 nth=>?_⟩
  refine setG ?_
  dsimp only
  refine seqG (fun σ H'=>∃(v3 v4:Option V) (th:Addr),Same H6 H'/\H' th=some (.lst (((hs.map (·.1)).flatMap fun x=>(qs.map (·.1)).filter fun n=>decide (f n=x)).map V.str))/\σ=[some (.ref ls),some (.ref lh),some (.ref lt),v3,v4,some (.ref lp),some (.ref g),some (.ref lb),some (.ref lr),some (.ref go),some (.ref al),some (.int (2+(i:Int))),some (.ref l),some (.ref d),some (.int t),some (.ref mo),some (.ref sg),some (.ref db),some (.ref th),v19]) ?p16 (fun N hN=>?p15)
  case p15=>
   have s9:=Same.new (o:=.lst []) nth
   have e9:upd H8 th0 (.lst []) th0=some (.lst []):=a1_
   generalize upd H8 th0 (.lst [])=H9 at s9 e9 ⊢
   have D9:=D6.same (s8.trans s9)
   have lyh:=Paired.length D9.th
   rw[List.length_map] at lyh
   refine⟨_,rfl,lh,rfl,⟨_,.of D9.hh⟩,aR_ (K:=K) (a:=lh) (xs:=yh) (fun j σ H'=>∃(v3 v4:Option V) (th:Addr),Same H9 H'/\H' th=some (.lst ((((hs.map (·.1)).take j).flatMap fun x=>(qs.map (·.1)).filter fun n=>decide (f n=x)).map V.str))/\σ=[some (.ref ls),some (.ref lh),some (.ref lt),v3,v4,some (.ref lp),some (.ref g),some (.ref lb),some (.ref lr),some (.ref go),some (.ref al),some (.int (2+(i:Int))),some (.ref l),some (.ref d),some (.int t),some (.ref mo),some (.ref sg),some (.ref db),some (.ref th),v19]) ⟨_,_,th0,Same.refl _,e9,rfl⟩ (fun j σ H' _ ⟨_,_,_,z,_⟩=>.of (z _ _ D9.hh)) ?_ ?_⟩
   ·rintro j x σ HA hx ⟨v3,v4,th,sA,eA,rfl⟩
    obtain⟨h,hh,a,rfl,ha⟩:=aD_ D9.th hx
    have hm:h.1∈hs.map (·.1):=List.mem_map.mpr ⟨h,List.mem_of_getElem? hh,rfl⟩
    have hj:(hs.map (·.1))[j]? = some h.1:=by rw[List.getElem?_map,hh];rfl
    refine⟨a,_,rfl,.of (sA _ _ (hpH ha)),rfl,_,_,rfl,_,_,rfl,rfl,?_⟩
    dsimp only
    refine⟨_,rfl,_,rfl,_,rfl,_,rfl,g,p,d,hs,ts,qs,fp,_,f,h.1,rfl,S6.same ((s8.trans s9).trans sA),hm,fun lz HB sB nz ez=>?_⟩
    have b1:=gl j
    have b2:=List.length_filter_le (fun n=>decide (f n=h.1)) (qs.map (·.1))
    rw[List.length_map] at b2
    refine⟨th,lz,_,_,rfl,rfl,sB _ _ eA,ez,by rw[List.length_map,List.length_map];omega,fun lc nc=>?_⟩
    refine⟨_,_,lc,(sA.trans sB).trans (Same.new nc),?_,rfl⟩
    rw[a1_,aW_ hj,List.flatMap_append,List.flatMap_cons,List.flatMap_nil,List.append_nil,List.map_append]
   ·rintro σ HA ⟨v3,v4,th,sA,eA,rfl⟩
    rw[lyh,List.take_of_length_le (by rw[List.length_map];exact Nat.le_refl _)] at eA
    exact hN _ _ ⟨v3,v4,th,(s8.trans s9).trans sA,eA,rfl⟩
  clear s8 nth
  rintro σ H9 ⟨v3,v4,th,s9,e9,rfl⟩
  have D9:=D6.same s9
  have lyp:=Paired.length D9.pc
  refine seqG (fun σ H'=>Same H9 H'/\σ=[some (.ref ls),some (.ref lh),some (.ref lt),v3,v4,some (.ref lp),some (.ref g),some (.ref lb),some (.ref lr),some (.ref go),some (.ref al),some (.int (2+(i:Int))),some (.ref l),some (.ref d),some (.int t),some (.ref mo),some (.ref sg),some (.ref db),some (.ref th),some (.int (ps.map (·.2.1)).sum)]) ?p18 (fun N hN=>?p17)
  case p17=>
   refine⟨_,rfl,lp,rfl,⟨_,.of D9.hp⟩,fun D hD=>?_⟩
   refine aq_ (own:=1) (fv:=[]) (xs:=yp) rfl gok1 (fun j out H'=>Same H9 H'/\H' D=some (.lst out)/\out=((ps.map (·.2.1)).take j).map V.int) ⟨Same.new hD,a1_,rfl⟩ (fun j out H' _ ⟨sm,_⟩=>.of (sm _ _ D9.hp)) (fun out HA ⟨sA,dA,eo⟩=>?_) (fun j x out H' hx ⟨sm,hd,eo⟩=>?_)
   ·rw[lyp,List.take_of_length_le (by rw[List.length_map];exact Nat.le_refl _)] at eo
    subst eo
    exact⟨D,_,rfl,.of dA,hN _ _ ⟨sA,rfl⟩⟩
   ·have hj:j<yp.length:=(List.getElem?_eq_some_iff.mp hx).1
    have hp:ps[j]? = some (ps[j]'(by omega)):=List.getElem?_eq_getElem (by omega)
    obtain⟨a,v,ea,hta,_⟩:=ah_ D9.pc j hj (by omega)
    rw[(List.getElem?_eq_some_iff.mp hx).2] at ea
    subst ea
    generalize ps[j]'(by omega)=q at hp hta
    refine⟨_,rfl,rfl,fun Nx hN=>yesT ?_⟩
    refine⟨_,rfl,a,_,1,.int q.2.1,rfl,rfl,.of (sm _ _ hta),L2.atI_nat (j:=1) rfl,out,hd,?_,hN (out++[.int q.2.1]) _ ⟨al_ sm hD,a1_,?_⟩⟩
    ·rw[eo,List.length_map,List.length_take]
     have:=SS.h30
     omega
    ·rw[eo,List.take_add_one,show (ps.map (·.2.1))[j]? = some q.2.1 by rw[List.getElem?_map,hp];rfl,Option.toList_some,List.map_append]
     rfl
  rintro σ HA ⟨sA,rfl⟩
  have pe:=d4_ ndq SS.Gd.hnd f fun n hn=>fm n (nqs.mem_iff.mpr hn)
  have sq:sortS ((hs.map (·.1)).flatMap fun x=>(qs.map (·.1)).filter fun n=>decide (f n=x))=qs.map (·.1):=by
   rw[aY_ (pe.trans nqs.symm),SS.Q.nms]
  have s6A:=s9.trans sA
  have DA:=D6.same s6A
  have gl0:=gl hs.length
  rw[List.take_of_length_le (by rw[List.length_map];exact Nat.le_refl _)] at gl0
  refine⟨_,rfl,th,_,rfl,.of (sA _ _ e9),by omega,fun lq nq=>?_⟩
  rw[sq]
  have sB:=Same.new (o:=.lst ((qs.map (·.1)).map V.str)) nq
  have eB:upd HA lq (.lst ((qs.map (·.1)).map V.str)) lq=some (.lst ((qs.map (·.1)).map V.str)):=a1_
  generalize upd HA lq (.lst ((qs.map (·.1)).map V.str))=HB at sB eB ⊢
  have GB:=DA.G.same sB
  obtain⟨dx,dw,dy,vs,fpw,g1,_⟩:=id GB.ex
  refine⟨_,rfl,g,dx,_,rfl,g1,hno _ _ _ (by decide +kernel) (by decide +kernel) (by decide +kernel),g,p,hs,ts,qs,fp,rfl,GB,fun ln nln=>?_⟩
  have sC:=Same.new (o:=.lst ((qs.map (·.1)).map V.str)) nln
  have eC:upd HB ln (.lst ((qs.map (·.1)).map V.str)) ln=some (.lst ((qs.map (·.1)).map V.str)):=a1_
  generalize upd HB ln (.lst ((qs.map (·.1)).map V.str))=HC at sC eC ⊢
  refine⟨_,_,dU_ (sC _ _ eB),dU_ eC,_,rfl,?_⟩
  refine ite2 (fun c=>by simp at c) (fun c=>?_)
  have s6C:=(s6A.trans sB).trans sC
  refine⟨_,rfl,_,rfl,g,p,d,hs,ts,qs,fp,_,f,rfl,S6.same s6C,fun d1 HD sD n1 e1=>?_⟩
  refine⟨d1,_,rfl,e1,fun v nv=>?_⟩
  have sE:=Same.new (o:=valuesV v d1) nv
  have eE:upd HD v (valuesV v d1) v=some (valuesV v d1):=a1_
  generalize upd HD v (valuesV v d1)=HE at sE eE ⊢
  have tot:((nmsOf hs).map (ld f (qs.map wOf))).sum=(ps.map (·.2.1)).sum:=by
   rw[e6_ SS.Gd.nnd f fun x hx=>?_,fi_ ((SS.Q.ws SS.nd).map (·.2)),List.map_map]
   ·rfl
   ·obtain⟨q,hq,rfl⟩:=List.mem_map.mp hx
    exact (ak_ hs).mem_iff.mpr (fm q.1 (nqs.mem_iff.mpr (List.mem_map.mpr ⟨q,hq,rfl⟩)))
  refine⟨v,d1,(nmsOf hs).map fun h=>(Sum.inr h,ld f (qs.map wOf) h),rfl,eE,.inl (by rw[List.map_map];exact sE _ _ e1),_,rfl,rfl,_,rfl,?_⟩
  rw[List.map_map,show ((fun x:Key × Int=>x.2) ∘ fun h=>((Sum.inr h:Key),ld f (qs.map wOf) h))=ld f (qs.map wOf) from rfl,tot]
  refine ite2 (fun c=>by simp at c) (fun c=>?_)
  exact⟨_,_,_,_,_,_,_,_,_,_,_,rfl,si.trans (s06.trans ((s6C.trans sD).trans sE))⟩
end
end Ev
set_option Elab.async false
set_option linter.all false
set_option maxRecDepth 100000
namespace Ev
open PySem L2
structure Fd (K:PySem.W.Frag) (mg:Str->Option Value) (x:Str) (st:Stmt):Prop where
 ex:∃f fd,Fun K x x st f fd/\mg x=some (.ref f)/\PySem.W.keepIn K (.ref f)=true
theorem fd_mk{K:PySem.W.Frag}{h:Heap}{mg:Str->Option Value}{x:Str}{st:Stmt}(X:K.In h)(G:h.Ns mainGlobals mg){f:Addr}{oc:Value}{od an:Option Addr}{osl:Array (Option Value)}{kV doc pm cdv ct:Value}(a:PySem.W.nsIn K mainGlobals x=some (some (.ref f)))
  (l:K.lookup f=some ⟨oc,od,.func (PySem.W.fnOf x x (defArgs st) (defBody st) (defScope st) .none kV doc pm an cdv ct),osl⟩) (c:PySem.W.codeIn K cdv x=true) (k:PySem.W.keepIn K (.ref f)=true):Fd K mg x st:=⟨_,_,gd_ l c k,PySem.W.mg_of X G a,k⟩
structure Md (K:PySem.W.Frag) (C:Addr) (m qual:Str) (st:Stmt):Prop where
 ex:∃f fd,Fun K m qual st f fd/\Meth K C m f
theorem md_mk{K:PySem.W.Frag}{C:Addr}{m qual:Str}{st:Stmt}{f:Addr}{oc:Value}{od an:Option Addr}{osl:Array (Option Value)}{kV doc pm cdv ct:Value}(a:PySem.W.findIn K (.ref C) m=some (some (.ref f)))(i:PySem.W.isFn K (.ref f)=true)
  (l:K.lookup f=some ⟨oc,od,.func (PySem.W.fnOf m qual (defArgs st) (defBody st) (defScope st) .none kV doc pm an cdv ct),osl⟩) (c:PySem.W.codeIn K cdv qual=true) (k:PySem.W.keepIn K (.ref f)=true):Md K C m qual st:=⟨_,_,gd_ l c k,a,i,k⟩
theorem cal{P:Program}{w:World}{K:PySem.W.Frag}{mg:Str->Option Value}{base:Heap}{x:Str}{st:Stmt}{k:Nat}{ps:List Str}{sp:Sp}(d:Fd K mg x st)(ok:∀f fd,Fun K x x st f fd->FnOk P w K mg base CX0 k f fd ps sp)
  (h:∀(kV doc pm:Value) (an:Option Addr) (cdv ct:Value) (us:List Value),us.length=ps.length->bindArgs (PySem.W.fnOf x x (defArgs st) (defBody st) (defScope st) .none kV doc pm an cdv ct) ⟨us,[]⟩=pure (ps.zip us)):Cal P w K mg base k x ps sp:=by
 obtain⟨f,fd,F,m,kp⟩:=d.ex
 exact⟨f,fd,ok f fd F,m,kp,F.binds h⟩
theorem calM{P:Program}{w:World}{K:PySem.W.Frag}{mg:Str->Option Value}{base:Heap}{C:Addr}{m qual:Str}{st:Stmt}{k:Nat}{ps:List Str}{sp:Sp}(d:Md K C m qual st)(ok:∀f fd,Fun K m qual st f fd->FnOk P w K mg base CX0 k f fd ps sp)
  (h:∀(kV doc pm:Value) (an:Option Addr) (cdv ct:Value) (us:List Value),us.length=ps.length->bindArgs (PySem.W.fnOf m qual (defArgs st) (defBody st) (defScope st) .none kV doc pm an cdv ct) ⟨us,[]⟩=pure (ps.zip us)):CalM P w K mg base C k m ps sp:=by
 obtain⟨f,fd,F,m⟩:=d.ex
 exact⟨f,fd,ok f fd F,m,F.binds h⟩
theorem calX{P:Program}{w:World}{K:PySem.W.Frag}{mg:Str->Option Value}{base:Heap}{C:Addr}{m qual:Str}{st:Stmt}{k:Nat}{ps:List Str}{sp:Sp}(d:Md K C m qual st)(ok:∀f fd,Fun K m qual st f fd->FnOk P w K mg base (CX1 P w) k f fd ps sp)
  (h:∀(kV doc pm:Value) (an:Option Addr) (cdv ct:Value) (us:List Value),us.length=ps.length->bindArgs (PySem.W.fnOf m qual (defArgs st) (defBody st) (defScope st) .none kV doc pm an cdv ct) ⟨us,[]⟩=pure (ps.zip us)):CalX P w K mg base C k m ps sp:=by
 obtain⟨f,fd,F,m⟩:=d.ex
 exact⟨f,fd,ok f fd F,m,F.binds h⟩
theorem calC{P:Program}{w:World}{K:PySem.W.Frag}{mg:Str->Option Value}{base:Heap}{C:Addr}{x qual:Str}{st:Stmt}{k:Nat}{ps:List Str}{sp:Sp}(d:Md K C "__init__" qual st)(hx:mg x=some (.ref C))(mk:PySem.W.makesIn K C=true)(kc:PySem.W.keepIn K (.ref C)=true)(ok:∀f fd,Fun K "__init__" qual st f fd->FnOk P w K mg base CX0 k f fd ps sp)
  (h:∀(kV doc pm:Value) (an:Option Addr) (cdv ct:Value) (us:List Value),us.length=ps.length->bindArgs (PySem.W.fnOf "__init__" qual (defArgs st) (defBody st) (defScope st) .none kV doc pm an cdv ct) ⟨us,[]⟩=pure (ps.zip us)):CalC P w K mg base C k x ps sp:=by
 obtain⟨f,fd,F,m⟩:=d.ex
 exact⟨f,fd,ok f fd F,⟨mk,m.1,m.2,kc⟩,hx,F.binds h⟩
set_option maxHeartbeats 3200000 in
theorem all_mk{l:PySem.W.OpenLaw}{w:World}{K:PySem.W.Frag}{h:Heap}{mg:Str->Option Value}{fa CW CG CP fl:Addr}(X:K.In h)(G:h.Ns mainGlobals mg)(hfa:mg "law"=some (.ref fa))
  (f0:Fd K mg "is_whole" sIsW)
  (f1:Fd K mg "is_whole_within" sWhole)
  (f2:Fd K mg "is_name" sName)
  (f3:Fd K mg "lesser_first" sLesser)
  (f4:Fd K mg "is_pair_of_names" sPair)
  (f5:Fd K mg "sorted_ties" sSorted)
  (f6:Fd K mg "is_hand_with_strength" sHand)
  (f7:Fd K mg "checked_strengths" sStr)
  (f8:Fd K mg "checked_ties" sTies)
  (f9:Fd K mg "neighbours_of_all" sNear)
  (f10:Fd K mg "checked_ways" sCWays)
  (f11:Fd K mg "checked_piece" sCPiece)
  (f12:Fd K mg "checked_pieces" sCPieces)
  (f13:Fd K mg "ties_anew" sAnew)
  (f14:Fd K mg "greatest_divisor" sGd)
  (f15:Fd K mg "least_multiple" sLM)
  (f16:Fd K mg "fraction_of" sFrac)
  (f17:Fd K mg "checked_stand" sCStand)
  (f18:Fd K mg "loads_at" sLoadsAt)
  (f19:Fd K mg "multiple_of_strengths" sMult)
  (f20:Fd K mg "levels_at" sLevels)
  (f21:Fd K mg "heights_at" sHeightsAt)
  (f22:Fd K mg "rise_at" sRise)
  (f23:Fd K mg "spread_at" sSpreadAt)
  (f24:Fd K mg "sum_at" sSumAt)
  (f25:Fd K mg "loads" sLoads)
  (f26:Fd K mg "heights" sHeights)
  (f27:Fd K mg "pieces_at" sPiecesAt)
  (f28:Fd K mg "sum_of" sSumOf)
  (f29:Fd K mg "spread" sSpread)
  (f30:Fd K mg "steepest" sSteep)
  (f31:Fd K mg "_law_cell_at" sCell)
  (f32:Fd K mg "_law_digit" sDigit)
  (f33:Fd K mg "_law_names" sNames)
  (f34:Fd K mg "_law_web" sLWeb)
  (f35:Fd K mg "_law_ways" sWays)
  (f36:Fd K mg "_law_pieces" sPieces)
  (f37:Fd K mg "_law_stand" sStand)
  (f38:Fd K mg "_law_alike" sAlike)
  (f39:Fd K mg "_law_turned" sTurned)
  (f40:Fd K mg "_law_told" sTold)
  (f41:Fd K mg "_law_scaled" sScaled)
  (f42:Fd K mg "_law_stronger" sStronger)
  (m0:Md K CW "__init__" "Web.__init__" sInit)
  (m1:Md K CW "has_hand" "Web.has_hand" sHas)
  (m2:Md K CW "hands" "Web.hands" sHands)
  (m3:Md K CW "strength" "Web.strength" sStrength)
  (m4:Md K CW "are_tied" "Web.are_tied" sTied)
  (m5:Md K CG "__init__" "Goods.__init__" sGInit)
  (m6:Md K CG "has_piece" "Goods.has_piece" sGHas)
  (m7:Md K CG "names" "Goods.names" sGNames)
  (m8:Md K CG "weight" "Goods.weight" sGWeight)
  (m9:Md K CW "ties" "Web.ties" sTiesM)
  (m10:Md K CG "ways" "Goods.ways" sGWays)
  (m11:Md K CG "are_free" "Goods.are_free" sGFree)
  {ocl kVl dcl pml cdl ctl:Value} {odl anl:Option Addr} {sll:Array (Option Value)} {t8 t9 t10 t11:Tok}
  (al:PySem.W.nsIn K mainGlobals "law"=some (some (.ref fl))) (ll:K.lookup fl=some ⟨ocl,odl,.func (PySem.W.fnOf "law" "law" (defArgs sLaw) (defBody sLaw) (defScope sLaw) .none kVl dcl pml anl cdl ctl),sll⟩) (cl:PySem.W.codeIn K cdl "law"=true) (kl:PySem.W.keepIn K (.ref fl)=true) (aW:PySem.W.nsIn K mainGlobals "Web"=some (some (.ref CW))) (aG:PySem.W.nsIn K mainGlobals "Goods"=some (some (.ref CG))) (eP:PySem.W.nsIn K mainGlobals "NoPiece"=some (some (.ref CP))) (xP:PySem.W.excIn K CP [.type "ValueError",.type "Exception",.type "BaseException",.type "object"] "ValueError.__new__"=true) (c8:PySem.W.nsIn K mainGlobals "MOST_LETTERS"=some (some (.int 8 t8))) (c9:PySem.W.nsIn K mainGlobals "MOST_HANDS"=some (some (.int 8 t9))) (c10:PySem.W.nsIn K mainGlobals "MOST_STRENGTH"=some (some (.int 1000 t10))) (c11:PySem.W.nsIn K mainGlobals "MOST_WEIGHT"=some (some (.int 1000000000 t11))) (wpg:PySem.W.plainGet K CW Str.empty=true) (whd:PySem.W.hasDictIn K CW=true) (wpo:PySem.W.plainOver K CW=true) (wsa:PySem.W.findIn K (.ref CW) "__setattr__"=some (some (.builtin "object.__setattr__"))) (wmk:PySem.W.makesIn K CW=true) (wkc:PySem.W.keepIn K (.ref CW)=true) (nS:PySem.W.findIn K (.ref CW) "strength_by_hand"=some none) (nP:PySem.W.findIn K (.ref CW) "sorted_pairs"=some none) (nN:PySem.W.findIn K (.ref CW) "neighbours_by_hand"=some none) (wiha:PySem.W.findIn K (.ref CW) "__class__"=some (some (.builtin "object.__class__"))) (wimo:PySem.W.mroIn K CW (.type "object")=some true) (gpg:PySem.W.plainGet K CG Str.empty=true) (ghd:PySem.W.hasDictIn K CG=true) (gpo:PySem.W.plainOver K CG=true) (gsa:PySem.W.findIn K (.ref CG) "__setattr__"=some (some (.builtin "object.__setattr__"))) (gmk:PySem.W.makesIn K CG=true) (gkc:PySem.W.keepIn K (.ref CG)=true) (nW:PySem.W.findIn K (.ref CG) "web"=some none) (nG:PySem.W.findIn K (.ref CG) "weight_by_name"=some none) (nY:PySem.W.findIn K (.ref CG) "ways_by_name"=some none) (giha:PySem.W.findIn K (.ref CG) "__class__"=some (some (.builtin "object.__class__"))) (gimo:PySem.W.mroIn K CG (.type "object")=some true) (ihn:PySem.W.specialIn K (.builtin "object.__class__") "__get__"=some (some (.builtin "getset_descriptor.__get__"))) (itk:PySem.W.takesIn K (.builtin "object.__class__")=some true) (z0:PySem.W.nsIn K mainGlobals "isinstance"=some none) (z1:PySem.W.nsIn K mainGlobals "int"=some none) (z2:PySem.W.nsIn K mainGlobals "bool"=some none) (z3:PySem.W.nsIn K mainGlobals "str"=some none) (z4:PySem.W.nsIn K mainGlobals "tuple"=some none) (z5:PySem.W.nsIn K mainGlobals "list"=some none) (z6:PySem.W.nsIn K mainGlobals "dict"=some none) (z7:PySem.W.nsIn K mainGlobals "len"=some none) (z8:PySem.W.nsIn K mainGlobals "all"=some none) (z9:PySem.W.nsIn K mainGlobals "sorted"=some none) (z10:PySem.W.nsIn K mainGlobals "max"=some none) (z11:PySem.W.nsIn K mainGlobals "range"=some none) (z12:PySem.W.nsIn K mainGlobals "any"=some none) (z13:PySem.W.nsIn K mainGlobals "enumerate"=some none) (z14:PySem.W.nsIn K mainGlobals "min"=some none) (z15:PySem.W.nsIn K mainGlobals "sum"=some none) (z16:PySem.W.nsIn K mainGlobals "abs"=some none) :
  ∃fd:FuncData,(∀(s:Shared) (v:Value),BindsTo s fd ⟨[v],[]⟩ [("_law_script",v)])/\∀base:Heap,K.In base->base.Ns mainGlobals mg->FnOk l.prog w K mg base CX0 9 fa fd ["_law_script"] (spLaw K):=by
 have e:=hfa.symm.trans (PySem.W.mg_of X G al)
 cases e
 have B:Bi mg:=⟨PySem.W.mg_none_of X G z0,PySem.W.mg_none_of X G z1,PySem.W.mg_none_of X G z2,PySem.W.mg_none_of X G z3,PySem.W.mg_none_of X G z4,PySem.W.mg_none_of X G z5,PySem.W.mg_none_of X G z6,PySem.W.mg_none_of X G z7,PySem.W.mg_none_of X G z8,PySem.W.mg_none_of X G z9,PySem.W.mg_none_of X G z10,PySem.W.mg_none_of X G z11,PySem.W.mg_none_of X G z12,PySem.W.mg_none_of X G z13⟩
 have TW:Txt K mg CW:=⟨⟨wpg,whd,wpo,wsa⟩,nS,nP,nN⟩
 have IW:InsK K CW:=⟨wiha,ihn,itk,wimo⟩
 have T:TxtG K CG:=⟨⟨gpg,ghd,gpo,gsa⟩,nW,nG,nY⟩
 have IG:InsK K CG:=⟨giha,ihn,itk,gimo⟩
 have RP:Ref K mg "NoPiece" CP:=⟨PySem.W.mg_of X G eP,xP⟩
 have FL:=gd_ (st:=sLaw) ll cl kl
 refine⟨PySem.W.fnOf "law" "law" (defArgs sLaw) (defBody sLaw) (defScope sLaw) .none kVl dcl pml anl cdl ctl,fun s v=>.of_eq rfl,fun base _ _=>?_⟩
 have cIsW:Cal l.prog w K mg base 1 "is_whole" ["thing"] spIsW:=cal f0 (fun _ _ F=>jv_ F B) (fun _ _ _ _ _ _ us hl=>match us,hl with | [_],_=>rfl)
 have cWhole:Cal l.prog w K mg base 2 "is_whole_within" ["thing","least","most"] spWhole:=cal f1 (fun _ _ F=>hB_ F cIsW) (fun _ _ _ _ _ _ us hl=>match us,hl with | [_,_,_],_=>rfl)
 have cName:Cal l.prog w K mg base 1 "is_name" ["thing"] spName:=cal f2 (fun _ _ F=>io_ F B (PySem.W.mg_of X G c8)) (fun _ _ _ _ _ _ us hl=>match us,hl with | [_],_=>rfl)
 have cLess:Cal l.prog w K mg base 1 "lesser_first" ["one","other"] spLesser:=cal f3 (fun _ _ F=>gb_ F) (fun _ _ _ _ _ _ us hl=>match us,hl with | [_,_],_=>rfl)
 have cPair:Cal l.prog w K mg base 2 "is_pair_of_names" ["thing"] spPair:=cal f4 (fun _ _ F=>jj_ F B cName) (fun _ _ _ _ _ _ us hl=>match us,hl with | [_],_=>rfl)
 have cSort:Cal l.prog w K mg base 3 "sorted_ties" ["ties"] (spSorted K):=cal f5 (fun _ _ F=>gw_ F B cPair cLess) (fun _ _ _ _ _ _ us hl=>match us,hl with | [_],_=>rfl)
 have cHand:Cal l.prog w K mg base 3 "is_hand_with_strength" ["thing"] spHand:=cal f6 (fun _ _ F=>it_ F B cName cWhole (PySem.W.mg_of X G c10)) (fun _ _ _ _ _ _ us hl=>match us,hl with | [_],_=>rfl)
 have cStr:Cal l.prog w K mg base 4 "checked_strengths" ["hands"] (spStr K):=cal f7 (fun _ _ F=>jA_ F B cHand (PySem.W.mg_of X G c9)) (fun _ _ _ _ _ _ us hl=>match us,hl with | [_],_=>rfl)
 have cTies:Cal l.prog w K mg base 4 "checked_ties" ["ties","strengths"] (spTies K):=cal f8 (fun _ _ F=>iN_ F B cSort) (fun _ _ _ _ _ _ us hl=>match us,hl with | [_,_],_=>rfl)
 have cNear:Cal l.prog w K mg base 2 "neighbours_of_all" ["names","ties"] (spNear K):=cal f9 (fun _ _ F=>j9_ F cLess) (fun _ _ _ _ _ _ us hl=>match us,hl with | [_,_],_=>rfl)
 have cWeb:CalC l.prog w K mg base CW 5 "Web" ["self","hands","ties"] (spInit K CW):=calC m0 (PySem.W.mg_of X G aW) wmk wkc (fun _ _ F=>iz_ F TW B cStr cTies cNear) (fun _ _ _ _ _ _ us hl=>match us,hl with | [_,_,_],_=>rfl)
 have mHasA:CalM l.prog w K mg base CW 1 "has_hand" ["self","thing"] (spHasA K CW):=calM m1 (fun _ _ F=>iK_ F TW B) (fun _ _ _ _ _ _ us hl=>match us,hl with | [_,_],_=>rfl)
 have mHas:CalM l.prog w K mg base CW 1 "has_hand" ["self","thing"] (spHas K CW):=calM m1 (fun _ _ F=>jr_ F TW B) (fun _ _ _ _ _ _ us hl=>match us,hl with | [_,_],_=>rfl)
 have mHands:CalM l.prog w K mg base CW 1 "hands" ["self"] (spHands K CW):=calM m2 (fun _ _ F=>hv_ F TW B) (fun _ _ _ _ _ _ us hl=>match us,hl with | [_],_=>rfl)
 have mStr:CalM l.prog w K mg base CW 2 "strength" ["self","hand"] (spStrength K CW):=calM m3 (fun _ _ F=>em_ F TW mHas) (fun _ _ _ _ _ _ us hl=>match us,hl with | [_,_],_=>rfl)
 have mTied:CalM l.prog w K mg base CW 2 "are_tied" ["self","one","other"] (spTiedA K CW):=calM m4 (fun _ _ F=>hK_ F TW mHasA) (fun _ _ _ _ _ _ us hl=>match us,hl with | [_,_,_],_=>rfl)
 have cCW:Cal l.prog w K mg base 4 "checked_ways" ["web","ways"] (spCWays K CW):=cal f10 (fun _ _ F=>i3_ F TW cSort mTied) (fun _ _ _ _ _ _ us hl=>match us,hl with | [_,_],_=>rfl)
 have cCP:Cal l.prog w K mg base 5 "checked_piece" ["web","piece"] (spCPiece K CW):=cal f11 (fun _ _ F=>gP_ F B cName cWhole cCW (PySem.W.mg_of X G c11)) (fun _ _ _ _ _ _ us hl=>match us,hl with | [_,_],_=>rfl)
 have cCPs:Cal l.prog w K mg base 6 "checked_pieces" ["web","pieces"] (spCPieces K CW):=cal f12 (fun _ _ F=>fq_ F B cCP) (fun _ _ _ _ _ _ us hl=>match us,hl with | [_,_],_=>rfl)
 have cGoods:CalC l.prog w K mg base CG 7 "Goods" ["self","web","pieces"] (spGInit K CG CW):=calC m5 (PySem.W.mg_of X G aG) gmk gkc (fun _ _ F=>hu_ F T TW IW B (PySem.W.mg_of X G aW) cCPs) (fun _ _ _ _ _ _ us hl=>match us,hl with | [_,_,_],_=>rfl)
 have gHas:CalM l.prog w K mg base CG 1 "has_piece" ["self","thing"] (spGHas K CG CW):=calM m6 (fun _ _ F=>jb_ F T B) (fun _ _ _ _ _ _ us hl=>match us,hl with | [_,_],_=>rfl)
 have gNames:CalM l.prog w K mg base CG 1 "names" ["self"] (spGNames K CG CW):=calM m7 (fun _ _ F=>gR_ F T B) (fun _ _ _ _ _ _ us hl=>match us,hl with | [_],_=>rfl)
 have gWeight:CalX l.prog w K mg base CG 2 "weight" ["self","piece"] (spGWeight K CG CW CP):=calX m8 (fun _ _ F=>fC_ F T RP gHas) (fun _ _ _ _ _ _ us hl=>match us,hl with | [_,_],_=>rfl)
 have cAnew:Cal l.prog w K mg base 1 "ties_anew" ["ties"] (spAnew K):=cal f13 (fun _ _ F=>ji_ F) (fun _ _ _ _ _ _ us hl=>match us,hl with | [_],_=>rfl)
 have mTies:CalM l.prog w K mg base CW 2 "ties" ["self"] (spTiesM K CW):=calM m9 (fun _ _ F=>hW_ F TW cAnew) (fun _ _ _ _ _ _ us hl=>match us,hl with | [_],_=>rfl)
 have gWays:CalX l.prog w K mg base CG 2 "ways" ["self","piece"] (spGWays K CG CW CP):=calX m10 (fun _ _ F=>hZ_ F T RP gHas cAnew) (fun _ _ _ _ _ _ us hl=>match us,hl with | [_,_],_=>rfl)
 have gFree:CalM l.prog w K mg base CG 1 "are_free" ["self"] (spGFree K CG CW):=calM m11 (fun _ _ F=>hg_ F T B) (fun _ _ _ _ _ _ us hl=>match us,hl with | [_],_=>rfl)
 have cGd:Cal l.prog w K mg base 1 "greatest_divisor" ["one","other"] spGd:=cal f14 (fun _ _ F=>k1_ F) (fun _ _ _ _ _ _ us hl=>match us,hl with | [_,_],_=>rfl)
 have cFr:Cal l.prog w K mg base 2 "fraction_of" ["top","below"] spFrac:=cal f16 (fun _ _ F=>in_ F cGd) (fun _ _ _ _ _ _ us hl=>match us,hl with | [_,_],_=>rfl)
 have cFr2:Cal l.prog w K mg base 2 "fraction_of" ["top","below"] spFrac2:=cal f16 (fun _ _ F=>hN_ F cGd) (fun _ _ _ _ _ _ us hl=>match us,hl with | [_,_],_=>rfl)
 have cCS:Cal l.prog w K mg base 2 "checked_stand" ["goods","stand"] (spCStand K CG CW):=cal f17 (fun _ _ F=>gu_ F B T TW gHas mHas gNames) (fun _ _ _ _ _ _ us hl=>match us,hl with | [_,_],_=>rfl)
 have cLA:Cal l.prog w K mg base 3 "loads_at" ["goods","placed"] (spLoadsAt K CG CW):=cal f18 (fun _ _ F=>fx_ F B T TW mHands gWeight) (fun _ _ _ _ _ _ us hl=>match us,hl with | [_,_],_=>rfl)
 have cHA:Cal l.prog w K mg base 4 "heights_at" ["goods","placed"] (spHeightsAt K CG CW):=cal f21 (fun _ _ F=>ea_ F T TW cLA cFr mStr) (fun _ _ _ _ _ _ us hl=>match us,hl with | [_,_],_=>rfl)
 have cLM:Cal l.prog w K mg base 2 "least_multiple" ["numbers"] (spLM K):=cal f15 (fun _ _ F=>k3_ F cGd) (fun _ _ _ _ _ _ us hl=>match us,hl with | [_],_=>rfl)
 have cMu:Cal l.prog w K mg base 3 "multiple_of_strengths" ["web"] (spMult K CW):=cal f19 (fun _ _ F=>iX_ F TW cLM mHands mStr) (fun _ _ _ _ _ _ us hl=>match us,hl with | [_],_=>rfl)
 have cLv:Cal l.prog w K mg base 4 "levels_at" ["goods","placed"] (spLevels K CG CW):=cal f20 (fun _ _ F=>h9_ F T TW cLA cMu mStr) (fun _ _ _ _ _ _ us hl=>match us,hl with | [_,_],_=>rfl)
 have cRi:Cal l.prog w K mg base 5 "rise_at" ["goods","placed"] (spRise K CG CW):=cal f22 (fun _ _ F=>iM_ F B (PySem.W.mg_none_of X G z14) cLv) (fun _ _ _ _ _ _ us hl=>match us,hl with | [_,_],_=>rfl)
 have cSpA:Cal l.prog w K mg base 6 "spread_at" ["goods","placed"] (spSpreadAt K CG CW):=cal f23 (fun _ _ F=>eB_ F T cRi cMu cFr2) (fun _ _ _ _ _ _ us hl=>match us,hl with | [_,_],_=>rfl)
 have cSA:Cal l.prog w K mg base 5 "sum_at" ["goods","placed"] (spSumAt K CG CW):=cal f24 (fun _ _ F=>hy_ F (PySem.W.mg_none_of X G z15) cLA cLv) (fun _ _ _ _ _ _ us hl=>match us,hl with | [_,_],_=>rfl)
 have cLo:Cal l.prog w K mg base 4 "loads" ["goods","stand"] (spLoads K CG CW):=cal f25 (fun _ _ F=>hF_ F cCS cLA) (fun _ _ _ _ _ _ us hl=>match us,hl with | [_,_],_=>rfl)
 have cHe:Cal l.prog w K mg base 5 "heights" ["goods","stand"] (spHeights K CG CW):=cal f26 (fun _ _ F=>fu_ F cCS cHA) (fun _ _ _ _ _ _ us hl=>match us,hl with | [_,_],_=>rfl)
 have cPA:Cal l.prog w K mg base 3 "pieces_at" ["goods","stand","hand"] (spPiecesAt K CG CW):=cal f27 (fun _ _ F=>en_ F T TW cCS mHas) (fun _ _ _ _ _ _ us hl=>match us,hl with | [_,_,_],_=>rfl)
 have cSO:Cal l.prog w K mg base 6 "sum_of" ["goods","stand"] (spSumOf K CG CW):=cal f28 (fun _ _ F=>hX_ F cCS cSA) (fun _ _ _ _ _ _ us hl=>match us,hl with | [_,_],_=>rfl)
 have cSp:Cal l.prog w K mg base 7 "spread" ["goods","stand"] (spSpread K CG CW):=cal f29 (fun _ _ F=>fW_ F cCS cSpA) (fun _ _ _ _ _ _ us hl=>match us,hl with | [_,_],_=>rfl)
 have cSte:Cal l.prog w K mg base 5 "steepest" ["goods","stand"] (spSteep K CG CW):=cal f30 (fun _ _ F=>hj_ F B (PySem.W.mg_none_of X G z16) T TW cCS cLv mTies cMu cFr2) (fun _ _ _ _ _ _ us hl=>match us,hl with | [_,_],_=>rfl)
 have cCell:Cal l.prog w K mg base 1 "_law_cell_at" ["_law_script","_law_k"] (spCell K):=cal f31 (fun _ _ F=>iL_ F B) (fun _ _ _ _ _ _ us hl=>match us,hl with | [_,_],_=>rfl)
 have cDig:Cal l.prog w K mg base 1 "_law_digit" ["_law_state","_law_base"] spDigit:=cal f32 (fun _ _ F=>hY_ F B) (fun _ _ _ _ _ _ us hl=>match us,hl with | [_,_],_=>rfl)
 have cNms:Cal l.prog w K mg base 2 "_law_names" ["_law_state","_law_many"] spNames:=cal f33 (fun _ _ F=>ha_ F B cDig) (fun _ _ _ _ _ _ us hl=>match us,hl with | [_,_],_=>rfl)
 have cLW:Cal l.prog w K mg base 3 "_law_web" ["_law_state","_law_most"] (spLWeb K):=cal f34 (fun _ _ F=>j3_ F B cDig cNms) (fun _ _ _ _ _ _ us hl=>match us,hl with | [_,_],_=>rfl)
 have cLY:Cal l.prog w K mg base 2 "_law_ways" ["_law_state","_law_ties"] (spWays K):=cal f35 (fun _ _ F=>jc_ F B cDig) (fun _ _ _ _ _ _ us hl=>match us,hl with | [_,_],_=>rfl)
 have cLP:Cal l.prog w K mg base 3 "_law_pieces" ["_law_state","_law_ties","_law_most"] (spPieces K):=cal f36 (fun _ _ F=>h0_ F B cDig cNms cLY) (fun _ _ _ _ _ _ us hl=>match us,hl with | [_,_,_],_=>rfl)
 have cSt:Cal l.prog w K mg base 2 "_law_stand" ["_law_state","_law_pieces_here","_law_hands"] (spStand K):=cal f37 (fun _ _ F=>he_ F B cDig) (fun _ _ _ _ _ _ us hl=>match us,hl with | [_,_,_],_=>rfl)
 have cAl:Cal l.prog w K mg base 1 "_law_alike" ["_law_one","_law_other","_law_times"] spAlike:=cal f38 (fun _ _ F=>hU_ F) (fun _ _ _ _ _ _ us hl=>match us,hl with | [_,_,_],_=>rfl)
 have cTn:Cal l.prog w K mg base 1 "_law_turned" ["_law_ways_here"] (spTurned K):=cal f39 (fun _ _ F=>gZ_ F) (fun _ _ _ _ _ _ us hl=>match us,hl with | [_],_=>rfl)
 have cTo:Cal l.prog w K mg base 8 "_law_told" ["_law_goods","_law_stand_here"] (spTold K CG CW):=cal f40 (fun _ _ F=>iv_ F B cLo cHe cSO cSp cSte) (fun _ _ _ _ _ _ us hl=>match us,hl with | [_,_],_=>rfl)
 have cSc:Cal l.prog w K mg base 8 "_law_scaled" ["_law_goods","_law_more","_law_stand_here","_law_times"] (spScaled K CG CW):=cal f41 (fun _ _ F=>gX_ F cLo cHe cSO cSp cSte cAl) (fun _ _ _ _ _ _ us hl=>match us,hl with | [_,_,_,_],_=>rfl)
 have cSr:Cal l.prog w K mg base 8 "_law_stronger" ["_law_goods","_law_strong","_law_stand_here","_law_times"] (spStronger K CG CW):=cal f42 (fun _ _ F=>ex_ F cLo cHe cSp cAl) (fun _ _ _ _ _ _ us hl=>match us,hl with | [_,_,_,_],_=>rfl)
 exact jn_ FL B T (PySem.W.mg_none_of X G z14) (PySem.W.mg_none_of X G z15) cCell cDig cLW cLP cSt cTn cTo cSc cSr cWeb cGoods gNames gFree gWays cPA cLo
theorem walk{l:PySem.W.OpenLaw}{q:Program}{loose:List Str}{XP:(Str->Option Value)->Heap->Prop}{YP:World->Heap->Prop}{d:DefRec}{K:Params->PySem.W.Frag}(hn:l.most=some 63)(hdf:d.params.defaults=[])
  (hY:∀(w:World) (h:Heap),YP w h->(K w.params).In h)
  (F:∀(w:World) (mg:Str->Option Value) (fa:Addr) (h:Heap),(K w.params).In h->h.Ns mainGlobals mg->mg d.name=some (.ref fa)->
   ∃fd:FuncData,(∀(s:Shared) (u:Value),BindsTo s fd ⟨[u],[]⟩ [("_law_script",u)])/\∀base:Heap,(K w.params).In base->base.Ns mainGlobals mg->FnOk l.prog w (K w.params) mg base CX0 9 fa fd ["_law_script"] (spLaw (K w.params))) :
  PySem.W.WalkO q loose XP YP l.row.toRowW d [] (fun f vs=>PySem.call f vs):=
 L2.walk_of (n:=63) (k:=9) (x:="_law_script") (CX:=fun _=>CX0) (sp:=fun w=>spLaw (K w.params)) hn (by decide) hdf ⟨rfl,by decide,by decide⟩ hY F (fun _ _ a ns hl _ hS=>⟨a,ns,rfl,hS,hl,fun _=>rfl⟩) fun _ _ _ _ _ z=>z
end Ev
set_option Elab.async false
set_option linter.all false
namespace PySem.W.Fast
def tw3769646434022421826:Unit:=()
def tw10656167742475163011:Unit:=()
def tw15248946039138447811:Unit:=()
def tw12655682007307609923:Unit:=()
def tw3795810533649708196:Unit:=()
def tw3034545044224951620:Unit:=()
def tw11264416769899150116:Unit:=()
def tw8777670280275384997:Unit:=()
def tw7990177279849632551:Unit:=()
def tw9701344669362958442:Unit:=()
def tw10821772791116677355:Unit:=()
def tw8130494766267898988:Unit:=()
def tw11437115686689734252:Unit:=()
def tw14844187269116744654:Unit:=()
def tw8239563866792438895:Unit:=()
def tw1100191932194416015:Unit:=()
def tw16779521275061491407:Unit:=()
def tw8308592571360235315:Unit:=()
def tw3634514162632762229:Unit:=()
def tw18233467552490631350:Unit:=()
def tw14703964090045100022:Unit:=()
def tw13010094741669278327:Unit:=()
def tw5390650865032681271:Unit:=()
def tw4550817628017926266:Unit:=()
def tw12926567609387771546:Unit:=()
def tw9408363048107739931:Unit:=()
def tw1283550964397333213:Unit:=()
def tw3666370109399674430:Unit:=()
def tw3454603860129030910:Unit:=()
def tw18328088767109401919:Unit:=()
def tw14234803533966271423:Unit:=()
def tw4134345628196108004:Unit:=()
def tw10978146791275204816:Unit:=()
def tw8497105726002244959:Unit:=()
def tw2866357834948138536:Unit:=()
def tw13651505524879125159:Unit:=()
def tw17077732653995340811:Unit:=()
def tw16230070913949111001:Unit:=()
def tw7433567380066456011:Unit:=()
def tw90327516372282110:Unit:=()
def tw15601486712095532279:Unit:=()
def tw3167852198366571801:Unit:=()
def tw18185188629632584346:Unit:=()
def tw6163176139072273097:Unit:=()
def tw6188874705567416145:Unit:=()
def tw2829496143898956818:Unit:=()
def tw11105527093182670473:Unit:=()
def tw12781669917426715778:Unit:=()
def tw17079284694907515489:Unit:=()
def tw17975648420946591876:Unit:=()
def tw17156042633147349349:Unit:=()
def tw14672491243561255361:Unit:=()
def tw8071892203397400470:Unit:=()
def tw14707878778659667525:Unit:=()
def tw7670917868701583716:Unit:=()
def tw15727542152584409847:Unit:=()
def tw5025723287210095261:Unit:=()
def tw17427223459664944244:Unit:=()
def tw5588551365556752811:Unit:=()
def tw10991015212355870635:Unit:=()
def tw8233247946474351786:Unit:=()
def tw562609152431262970:Unit:=()
def tw363868612939316511:Unit:=()
def tw13128096600086307059:Unit:=()
def tw17997769787736580172:Unit:=()
def tw3489395946624489203:Unit:=()
def tw14382924911690276737:Unit:=()
def tw6669165682762939262:Unit:=()
def tw7139370024683699774:Unit:=()
def tw8701565221985839544:Unit:=()
def tw12983101760166343303:Unit:=()
def tw10908046520461086983:Unit:=()
def tw17163291165767629053:Unit:=()
def tw18283151489977896514:Unit:=()
def tw15106622022673840553:Unit:=()
def tw2885831366204987575:Unit:=()
def tw3055704307265462559:Unit:=()
def tw7292288659744075973:Unit:=()
def tw4837380225997130607:Unit:=()
def tw5253471355743700129:Unit:=()
def tw11208876680087944914:Unit:=()
def tw2281558456706577501:Unit:=()
def tw16392824059792598815:Unit:=()
def tw8831436881809575210:Unit:=()
def tw5620288934137187416:Unit:=()
def tw8777657477511235836:Unit:=()
def tw2272762515588786947:Unit:=()
def tw1937415562934447543:Unit:=()
def tw7482733029393231372:Unit:=()
def tw10521758861891662041:Unit:=()
def tw2457730800742456212:Unit:=()
def tw10653949533016935730:Unit:=()
def tw17371556450532505653:Unit:=()
def tw5304381469347622373:Unit:=()
def tw16840211350945247288:Unit:=()
def tw8116171420356875778:Unit:=()
def tw15280724276412403338:Unit:=()
def tw4683079525874389059:Unit:=()
def tw10416866700090492572:Unit:=()
def tw14105448287252350451:Unit:=()
def tw1302874741497330074:Unit:=()
def tw1834432689156436841:Unit:=()
def tw6503519438008678685:Unit:=()
def tw17979970700095280943:Unit:=()
def tw1317289019188932764:Unit:=()
def tw6158678003797673146:Unit:=()
def tw12439681205533777944:Unit:=()
def tw12620374569688522392:Unit:=()
def tw12608840185581725098:Unit:=()
def tw14333376650714026141:Unit:=()
def tw1600327754663679047:Unit:=()
def tw16367127321390496753:Unit:=()
def tw15253880073336289962:Unit:=()
def tw3348680724520248675:Unit:=()
def tw6258214873234650338:Unit:=()
def tw12822640572208180070:Unit:=()
def tw4780729353979840531:Unit:=()
def tw14913076246132856334:Unit:=()
def tw12432076138348486326:Unit:=()
def tw755581219387434260:Unit:=()
def tw12645136464553028271:Unit:=()
def tw2952428274016372898:Unit:=()
def tw17708344778519741854:Unit:=()
def tw820298614504508644:Unit:=()
def tw6869920023193537848:Unit:=()
def tw14977714199198794151:Unit:=()
def tw12639486889385205405:Unit:=()
def tw15120112121536749202:Unit:=()
def tw15572406408541822770:Unit:=()
def tw15677409723655196176:Unit:=()
def tw642628552546033040:Unit:=()
def tw12642049453974148643:Unit:=()
def tw9159083296088005793:Unit:=()
def tw16456456604414255609:Unit:=()
def tw1405252718922982696:Unit:=()
def tw9966492997433601403:Unit:=()
def tw8265663509001623648:Unit:=()
def tw9037839873885536157:Unit:=()
def tw5754073441070761473:Unit:=()
def tw4101640407294903178:Unit:=()
def tw5149927780830360742:Unit:=()
def tw17668782477730696244:Unit:=()
def tw1988344398783497146:Unit:=()
def tw5854844302701621875:Unit:=()
def tw7424539529389267164:Unit:=()
def tw1506960251496931330:Unit:=()
def tw9687727340792891861:Unit:=()
def tw13667700884334735444:Unit:=()
def tw6216343397714863973:Unit:=()
def tw4794322131041014628:Unit:=()
def tw17909770909550946403:Unit:=()
def tw10862989367467449380:Unit:=()
def tw5093978459151859995:Unit:=()
def tw14509700851249333755:Unit:=()
def tw9278194584919452689:Unit:=()
def tw4467569996942320427:Unit:=()
def tw14563039938659229372:Unit:=()
def tw13204421877430925883:Unit:=()
def tw12656234257504435242:Unit:=()
def tw12341927255190923276:Unit:=()
def tw12859977534291777086:Unit:=()
def tw18354440930924475454:Unit:=()
def tw10743771052582175788:Unit:=()
def tw15837301562859380453:Unit:=()
def tw7872971191023698119:Unit:=()
def tw16863628377144205348:Unit:=()
def tw12271327540360416760:Unit:=()
def tw3092178077147411006:Unit:=()
def tw13130691830987835802:Unit:=()
def tw3962174579943032560:Unit:=()
def tw7393501384268509972:Unit:=()
def tw15826495171747337610:Unit:=()
def tw17908387597409363976:Unit:=()
def tw17882161147451576254:Unit:=()
def tw6424269723856073604:Unit:=()
def tw1504499916777156646:Unit:=()
def tw12830558950774271576:Unit:=()
def tw6385022576446628572:Unit:=()
def tw13578210696527018843:Unit:=()
def tw14948057728714638282:Unit:=()
def tw10837739081329890236:Unit:=()
def tw2802727822587873415:Unit:=()
def tw16624002364260937812:Unit:=()
def tw14297045576158804049:Unit:=()
def tw11703763747551932633:Unit:=()
def tw4506709550269385915:Unit:=()
def tw17188845552732390564:Unit:=()
def tw33906898115325394:Unit:=()
def tw12438569777446747474:Unit:=()
def tw10226160357590145515:Unit:=()
def tw2108621087903424810:Unit:=()
def tw3341364748578926203:Unit:=()
def tw14862919680416632994:Unit:=()
def tw7881489440145110815:Unit:=()
def tw7540051939534014754:Unit:=()
def tw7924105080254452440:Unit:=()
def tw6841088164460290228:Unit:=()
def tw4431804912676453710:Unit:=()
def tw11909924152191568203:Unit:=()
def tw6721033598118250846:Unit:=()
def tw12287604747603963795:Unit:=()
def tw18428593008336849392:Unit:=()
def tw7060187064648650409:Unit:=()
def tw16677575097453722027:Unit:=()
def tw4171714461144897442:Unit:=()
def tw16178245775230987906:Unit:=()
def tw14882509025296821157:Unit:=()
def tw826818834081831463:Unit:=()
def tw5758241870902717816:Unit:=()
def tw14024218303708357626:Unit:=()
def tw8418863276819395406:Unit:=()
def tw16516698598100222006:Unit:=()
def tw888980597139253220:Unit:=()
def tw6265710889744617158:Unit:=()
def tw2351974264001969327:Unit:=()
def tw17770808349337211747:Unit:=()
def tw41891497827176331:Unit:=()
def tw8439394698104714698:Unit:=()
def tw2865598475726883468:Unit:=()
def tw17900083054680019635:Unit:=()
def tw6888534253219671359:Unit:=()
def tw904112349873916155:Unit:=()
def tw11931117517675852735:Unit:=()
def tw12582666763727505938:Unit:=()
def tw17002697729113690029:Unit:=()
def tw4538162073186026117:Unit:=()
def tw1404878711666881602:Unit:=()
def tw15350073002208896774:Unit:=()
def tw10832152577478409119:Unit:=()
def tw6739782550719367072:Unit:=()
def tw13264573019801902401:Unit:=()
def tw18037389481470923710:Unit:=()
def tw6665225545787574694:Unit:=()
def tw4463981833469037774:Unit:=()
def tw14586423041522261305:Unit:=()
def tw8007386387020297315:Unit:=()
def tw13323491624511475540:Unit:=()
def tw15571490563059992643:Unit:=()
def tw12975551512086394523:Unit:=()
def tw8288555105693703154:Unit:=()
def tw16598685900230755306:Unit:=()
def tw4571168063099655158:Unit:=()
def tw13285427587748145581:Unit:=()
def tw11977546367845931819:Unit:=()
def tw839497938906404729:Unit:=()
def tw6607383055484100406:Unit:=()
def tw14733462304723968874:Unit:=()
def tw15416221440822708269:Unit:=()
def tw9978080372150565805:Unit:=()
def tw15591773172058059747:Unit:=()
def tw7258099217731972170:Unit:=()
def tw1361348695448098686:Unit:=()
def tw6429645630592936323:Unit:=()
def tw7515559597294334697:Unit:=()
def tw16897865082092470479:Unit:=()
def tw6438889329302293497:Unit:=()
def tw573002758638457863:Unit:=()
def tw5029898853433988188:Unit:=()
def tw15400119574832322173:Unit:=()
def tw6810199075261662493:Unit:=()
def tw11778711106929883625:Unit:=()
def tw5847294720757186776:Unit:=()
def tw8961018451315079576:Unit:=()
def tw2051602567845253387:Unit:=()
def tw8141170430613349905:Unit:=()
def tw5331068647279997258:Unit:=()
def tw4459419074389400082:Unit:=()
def tw5721880905006537268:Unit:=()
def tw16902212661570016279:Unit:=()
def tw1251084841074200321:Unit:=()
def tw5033435415804797472:Unit:=()
def tw2060249672166750409:Unit:=()
def tw5109344687555903804:Unit:=()
def tw7910534567801645860:Unit:=()
def tw18269675051468406718:Unit:=()
def tw14113215915234507244:Unit:=()
def tw7496963966819254832:Unit:=()
def tw1688244389001156394:Unit:=()
def tw5855491954997497235:Unit:=()
def tw1301270488677781192:Unit:=()
def tw3183310054468441150:Unit:=()
def tw1888981302286200027:Unit:=()
def tw6794777551949425014:Unit:=()
def tw17033460877067618624:Unit:=()
def tw6164964697995535000:Unit:=()
def tw17023095782172982543:Unit:=()
def tw4239713898959467207:Unit:=()
def tw14853058855436056988:Unit:=()
def tw8548778805035912671:Unit:=()
def tw13061344712408927416:Unit:=()
def tw14528640548588831195:Unit:=()
def tw3281351652040953577:Unit:=()
def tw14891776671408316869:Unit:=()
def tw15329015658537125323:Unit:=()
def tw18126290184356403102:Unit:=()
def tw16393460020034796511:Unit:=()
def tw12234738631977871447:Unit:=()
def tw12103044311209637062:Unit:=()
def tw11846233516003770745:Unit:=()
def tw7959742055019752848:Unit:=()
def tw215542199610190529:Unit:=()
def tw17530342759707815714:Unit:=()
def tw16147847462876639082:Unit:=()
def tw4444205892001770542:Unit:=()
def tw5397050383100715388:Unit:=()
def tw17346626483746574688:Unit:=()
def tw15489814878173532897:Unit:=()
def tw10563812325236335555:Unit:=()
def tw1855601937691686475:Unit:=()
def tw16684436998422163543:Unit:=()
def tw4739770643272940446:Unit:=()
def tw16029718059721726507:Unit:=()
def tw10824406699655976359:Unit:=()
def tw9555511279242126595:Unit:=()
def tw5179170615447832712:Unit:=()
def tw4751354561790790006:Unit:=()
def tw12713903980127534333:Unit:=()
def tw586805000790385654:Unit:=()
def tw15719685625586183562:Unit:=()
def tw2409470811045555395:Unit:=()
def tw11439339383449876928:Unit:=()
def tw4283767282584086543:Unit:=()
def tw11749834044654147542:Unit:=()
def tw6183424969999924397:Unit:=()
def tw7107240708338879527:Unit:=()
def tw3645291440148098719:Unit:=()
def tw16026742682906605081:Unit:=()
def tw13705661281118762641:Unit:=()
def tw7334452449843409635:Unit:=()
def tw9182003889598162472:Unit:=()
def tw7998034964277443437:Unit:=()
def tw3502512061157109033:Unit:=()
def tw15507389388712036005:Unit:=()
def tw5467536764283314985:Unit:=()
def tw16985443495901329911:Unit:=()
def tw16139714750353105039:Unit:=()
def tw9353153761582961498:Unit:=()
def tw13066889673418512841:Unit:=()
def tw11213242615816922875:Unit:=()
def tw15563805381938742884:Unit:=()
def tw17127717501161217304:Unit:=()
def tw11438567905696608163:Unit:=()
def tw17837103630697016937:Unit:=()
def tw4167725070525533357:Unit:=()
def tw14390705523619189383:Unit:=()
def tw7701835019253923294:Unit:=()
def tw9682278618941720483:Unit:=()
def tw8890567880614591780:Unit:=()
def tw15406267862848586265:Unit:=()
def tw16928504312135378766:Unit:=()
def tw14303052173129062730:Unit:=()
def tw4538246706282262229:Unit:=()
def tw9456108111218924089:Unit:=()
def tw17160968206459816283:Unit:=()
def tw17045796839939697034:Unit:=()
def tw7441415243138821042:Unit:=()
def tw55790181479966803:Unit:=()
def tw14266023677723721452:Unit:=()
def tw4762749808426897233:Unit:=()
def tw374616135585612492:Unit:=()
def tw6142710453181997357:Unit:=()
def tw6186014881600996815:Unit:=()
def tw14878247167333047855:Unit:=()
def tw2216134766114142597:Unit:=()
def tw6009240787348692361:Unit:=()
def tw13024935981046896571:Unit:=()
def tw4331783037056861541:Unit:=()
def tw11647537351952252576:Unit:=()
def tw1851570859493598316:Unit:=()
def tw11532788690185932292:Unit:=()
def tw8436414394245438135:Unit:=()
def tw1622847931675996396:Unit:=()
def tw8806585091175429640:Unit:=()
def tw18129332530036644517:Unit:=()
def tw2685639835440024650:Unit:=()
def tw14348096844988965732:Unit:=()
def tw15429315775033425278:Unit:=()
def tw14173065768592105474:Unit:=()
def tw12718226117975640730:Unit:=()
def tw13530339057993619610:Unit:=()
def tw5890685287466412210:Unit:=()
def tw11302263047082011313:Unit:=()
def tw12749733643938472861:Unit:=()
def tw5500002735910233517:Unit:=()
def tw12193017748405434957:Unit:=()
def tw12808032568557484337:Unit:=()
def tw7369273966300914432:Unit:=()
def tw7798148537770409402:Unit:=()
def tw8659224235943627186:Unit:=()
def tw12779173293751582302:Unit:=()
def tw6550289672141485968:Unit:=()
def tw13527395867534758092:Unit:=()
def tw7633775000952646542:Unit:=()
def tw10272795733519108796:Unit:=()
def tw9418518223586604126:Unit:=()
def tw15112651674783924644:Unit:=()
def tw17430045592463879871:Unit:=()
def tw3053255200232841437:Unit:=()
def tw15596259366864182961:Unit:=()
def tw7048406944893014950:Unit:=()
def tw175128179300167815:Unit:=()
def tw9915778114634577195:Unit:=()
def tw1453654923463375046:Unit:=()
def tw479298125969205683:Unit:=()
def tw7567971334546221440:Unit:=()
def tw9054770094618368128:Unit:=()
def tw12214743996584884848:Unit:=()
def tw2924094636772394200:Unit:=()
def tw15642156484436495188:Unit:=()
def tw8735237652065355973:Unit:=()
def tw13095491653169616138:Unit:=()
def tw16336927022556752403:Unit:=()
def tw13258930672466194437:Unit:=()
def tw18311723782376243788:Unit:=()
def tw5691035257407567238:Unit:=()
def tw977471379981319923:Unit:=()
def tw10207442241484276196:Unit:=()
def tw8515059805030784684:Unit:=()
def tw9571032335798966399:Unit:=()
def tw7553870740961569842:Unit:=()
def tw11990863317306739810:Unit:=()
def tw2963372366235633956:Unit:=()
def tw5347988446100523532:Unit:=()
def tw3797715724164836873:Unit:=()
def tw14247865063743473576:Unit:=()
def tw14071486235060257039:Unit:=()
def tw14267029375271451639:Unit:=()
def tw14452249401548720850:Unit:=()
def tw14626619691226808137:Unit:=()
def tw17655072215048604585:Unit:=()
def tw486256292924109305:Unit:=()
def tw10077818995405735143:Unit:=()
def tw11749071123944048889:Unit:=()
def tw8168261211490821290:Unit:=()
def tw14083306316746786962:Unit:=()
def tw15124271033013489939:Unit:=()
def tw13243411725970007979:Unit:=()
def tw6133118858515405487:Unit:=()
def tw9945133230367985249:Unit:=()
def tw17904525235818873822:Unit:=()
def tw2623006804433553960:Unit:=()
def tw10131534998069954367:Unit:=()
def tw11030019781807636651:Unit:=()
def tw8210384201189381080:Unit:=()
def tw6930244381837278999:Unit:=()
def tw11338210553691532462:Unit:=()
def tw8350748317686048793:Unit:=()
def tw17304266507734539616:Unit:=()
def tw7836823811989619951:Unit:=()
def tw17575373535383654815:Unit:=()
def tw1129250442324842483:Unit:=()
def tw12155969956102111269:Unit:=()
def tw3222685092341257581:Unit:=()
def tw3803693343100139775:Unit:=()
def tw607262731618791127:Unit:=()
def tw5215636336618089038:Unit:=()
def tw13197762578706916649:Unit:=()
def tw13639784917970214835:Unit:=()
def tw2241639858659492875:Unit:=()
def tw793320961001736194:Unit:=()
def tw4714039749736066850:Unit:=()
def tw671502989775664882:Unit:=()
def tw11353494883680105428:Unit:=()
def tw6150593309115827198:Unit:=()
def tw15106404708533671411:Unit:=()
def tw3282455707870904017:Unit:=()
def tw220772305916906767:Unit:=()
def tw247427410766393136:Unit:=()
def tw359587642903500916:Unit:=()
def tw17631234034126581065:Unit:=()
def tw11505123488056031108:Unit:=()
def tw11347499932222845812:Unit:=()
def tw6877758858024846611:Unit:=()
def tw16560294608800742115:Unit:=()
def tw13250396116648395626:Unit:=()
def tw291143996425807280:Unit:=()
def tw11852158539610779035:Unit:=()
def tw9613445935076466111:Unit:=()
def tw9188951893001760717:Unit:=()
def tw9301369377027726087:Unit:=()
def tw9476367585375769221:Unit:=()
def tw7024950508778655726:Unit:=()
end PySem.W.Fast
open PySem PySem.W PyProof.Rows
set_option maxRecDepth 100000 in
set_option maxHeartbeats 0 in
theorem PySem.Challenge.cw_evenpieces_k17_whole_stands_put_otherwis_holds : PySem.Challenge.rw_evenpieces_k17_whole_stands_put_otherwis.Holds := by
 w_on;o_law;k_head;(case hw=>w_witness2)
 k_fill
 refine Ev.walk (l:=PySem.Challenge.rw_evenpieces_k17_whole_stands_put_otherwis) rfl rfl (fun w h Y=>PySem.W.kIn_of Y) ?F
 case F=>
  intro w mg fa h KX G hmg
  refine' Ev.all_mk KX G hmg (Ev.fd_mk KX G ?f0a ?f0l ?f0c ?f0k) (Ev.fd_mk KX G ?f1a ?f1l ?f1c ?f1k) (Ev.fd_mk KX G ?f2a ?f2l ?f2c ?f2k) (Ev.fd_mk KX G ?f3a ?f3l ?f3c ?f3k) (Ev.fd_mk KX G ?f4a ?f4l ?f4c ?f4k) (Ev.fd_mk KX G ?f5a ?f5l ?f5c ?f5k) (Ev.fd_mk KX G ?f6a ?f6l ?f6c ?f6k) (Ev.fd_mk KX G ?f7a ?f7l ?f7c ?f7k) (Ev.fd_mk KX G ?f8a ?f8l ?f8c ?f8k) (Ev.fd_mk KX G ?f9a ?f9l ?f9c ?f9k) (Ev.fd_mk KX G ?f10a ?f10l ?f10c ?f10k) (Ev.fd_mk KX G ?f11a ?f11l ?f11c ?f11k) (Ev.fd_mk KX G ?f12a ?f12l ?f12c ?f12k) (Ev.fd_mk KX G ?f13a ?f13l ?f13c ?f13k) (Ev.fd_mk KX G ?f14a ?f14l ?f14c ?f14k) (Ev.fd_mk KX G ?f15a ?f15l ?f15c ?f15k) (Ev.fd_mk KX G ?f16a ?f16l ?f16c ?f16k) (Ev.fd_mk KX G ?f17a ?f17l ?f17c ?f17k) (Ev.fd_mk KX G ?f18a ?f18l ?f18c ?f18k) (Ev.fd_mk KX G ?f19a ?f19l ?f19c ?f19k) (Ev.fd_mk KX G ?f20a ?f20l ?f20c ?f20k) (Ev.fd_mk KX G ?f21a ?f21l ?f21c ?f21k) (Ev.fd_mk KX G ?f22a ?f22l ?f22c ?f22k) (Ev.fd_mk KX G ?f23a ?f23l ?f23c ?f23k) (Ev.fd_mk KX G ?f24a ?f24l ?f24c ?f24k) (Ev.fd_mk KX G ?f25a ?f25l ?f25c ?f25k) (Ev.fd_mk KX G ?f26a ?f26l ?f26c ?f26k) (Ev.fd_mk KX G ?f27a ?f27l ?f27c ?f27k) (Ev.fd_mk KX G ?f28a ?f28l ?f28c ?f28k) (Ev.fd_mk KX G ?f29a ?f29l ?f29c ?f29k) (Ev.fd_mk KX G ?f30a ?f30l ?f30c ?f30k) (Ev.fd_mk KX G ?f31a ?f31l ?f31c ?f31k) (Ev.fd_mk KX G ?f32a ?f32l ?f32c ?f32k) (Ev.fd_mk KX G ?f33a ?f33l ?f33c ?f33k) (Ev.fd_mk KX G ?f34a ?f34l ?f34c ?f34k) (Ev.fd_mk KX G ?f35a ?f35l ?f35c ?f35k) (Ev.fd_mk KX G ?f36a ?f36l ?f36c ?f36k) (Ev.fd_mk KX G ?f37a ?f37l ?f37c ?f37k) (Ev.fd_mk KX G ?f38a ?f38l ?f38c ?f38k) (Ev.fd_mk KX G ?f39a ?f39l ?f39c ?f39k) (Ev.fd_mk KX G ?f40a ?f40l ?f40c ?f40k) (Ev.fd_mk KX G ?f41a ?f41l ?f41c ?f41k) (Ev.fd_mk KX G ?f42a ?f42l ?f42c ?f42k) (Ev.md_mk ?m0a ?m0i ?m0l ?m0c ?m0k) (Ev.md_mk ?m1a ?m1i ?m1l ?m1c ?m1k) (Ev.md_mk ?m2a ?m2i ?m2l ?m2c ?m2k) (Ev.md_mk ?m3a ?m3i ?m3l ?m3c ?m3k) (Ev.md_mk ?m4a ?m4i ?m4l ?m4c ?m4k) (Ev.md_mk ?m5a ?m5i ?m5l ?m5c ?m5k) (Ev.md_mk ?m6a ?m6i ?m6l ?m6c ?m6k) (Ev.md_mk ?m7a ?m7i ?m7l ?m7c ?m7k) (Ev.md_mk ?m8a ?m8i ?m8l ?m8c ?m8k) (Ev.md_mk ?m9a ?m9i ?m9l ?m9c ?m9k) (Ev.md_mk ?m10a ?m10i ?m10l ?m10c ?m10k) (Ev.md_mk ?m11a ?m11i ?m11l ?m11c ?m11k) ?al ?ll ?cl ?kl ?aW ?aG ?eP ?xP ?c8 ?c9 ?c10 ?c11 ?wpg ?whd ?wpo ?wsa ?wmk ?wkc ?nS ?nP ?nN ?wiha ?wimo ?gpg ?ghd ?gpo ?gsa ?gmk ?gkc ?nW ?nG ?nY ?giha ?gimo ?ihn ?itk ?z0 ?z1 ?z2 ?z3 ?z4 ?z5 ?z6 ?z7 ?z8 ?z9 ?z10 ?z11 ?z12 ?z13 ?z14 ?z15 ?z16
  (case aW=>k_is);(case aG=>k_is);(case eP=>k_is)
  (case f0a=>k_is);(case f0l=>k_is);(case f0c=>k_is);(case f0k=>k_is)
  (case f1a=>k_is);(case f1l=>k_is);(case f1c=>k_is);(case f1k=>k_is)
  (case f2a=>k_is);(case f2l=>k_is);(case f2c=>k_is);(case f2k=>k_is)
  (case f3a=>k_is);(case f3l=>k_is);(case f3c=>k_is);(case f3k=>k_is)
  (case f4a=>k_is);(case f4l=>k_is);(case f4c=>k_is);(case f4k=>k_is)
  (case f5a=>k_is);(case f5l=>k_is);(case f5c=>k_is);(case f5k=>k_is)
  (case f6a=>k_is);(case f6l=>k_is);(case f6c=>k_is);(case f6k=>k_is)
  (case f7a=>k_is);(case f7l=>k_is);(case f7c=>k_is);(case f7k=>k_is)
  (case f8a=>k_is);(case f8l=>k_is);(case f8c=>k_is);(case f8k=>k_is)
  (case f9a=>k_is);(case f9l=>k_is);(case f9c=>k_is);(case f9k=>k_is)
  (case f10a=>k_is);(case f10l=>k_is);(case f10c=>k_is);(case f10k=>k_is)
  (case f11a=>k_is);(case f11l=>k_is);(case f11c=>k_is);(case f11k=>k_is)
  (case f12a=>k_is);(case f12l=>k_is);(case f12c=>k_is);(case f12k=>k_is)
  (case f13a=>k_is);(case f13l=>k_is);(case f13c=>k_is);(case f13k=>k_is)
  (case f14a=>k_is);(case f14l=>k_is);(case f14c=>k_is);(case f14k=>k_is)
  (case f15a=>k_is);(case f15l=>k_is);(case f15c=>k_is);(case f15k=>k_is)
  (case f16a=>k_is);(case f16l=>k_is);(case f16c=>k_is);(case f16k=>k_is)
  (case f17a=>k_is);(case f17l=>k_is);(case f17c=>k_is);(case f17k=>k_is)
  (case f18a=>k_is);(case f18l=>k_is);(case f18c=>k_is);(case f18k=>k_is)
  (case f19a=>k_is);(case f19l=>k_is);(case f19c=>k_is);(case f19k=>k_is)
  (case f20a=>k_is);(case f20l=>k_is);(case f20c=>k_is);(case f20k=>k_is)
  (case f21a=>k_is);(case f21l=>k_is);(case f21c=>k_is);(case f21k=>k_is)
  (case f22a=>k_is);(case f22l=>k_is);(case f22c=>k_is);(case f22k=>k_is)
  (case f23a=>k_is);(case f23l=>k_is);(case f23c=>k_is);(case f23k=>k_is)
  (case f24a=>k_is);(case f24l=>k_is);(case f24c=>k_is);(case f24k=>k_is)
  (case f25a=>k_is);(case f25l=>k_is);(case f25c=>k_is);(case f25k=>k_is)
  (case f26a=>k_is);(case f26l=>k_is);(case f26c=>k_is);(case f26k=>k_is)
  (case f27a=>k_is);(case f27l=>k_is);(case f27c=>k_is);(case f27k=>k_is)
  (case f28a=>k_is);(case f28l=>k_is);(case f28c=>k_is);(case f28k=>k_is)
  (case f29a=>k_is);(case f29l=>k_is);(case f29c=>k_is);(case f29k=>k_is)
  (case f30a=>k_is);(case f30l=>k_is);(case f30c=>k_is);(case f30k=>k_is)
  (case f31a=>k_is);(case f31l=>k_is);(case f31c=>k_is);(case f31k=>k_is)
  (case f32a=>k_is);(case f32l=>k_is);(case f32c=>k_is);(case f32k=>k_is)
  (case f33a=>k_is);(case f33l=>k_is);(case f33c=>k_is);(case f33k=>k_is)
  (case f34a=>k_is);(case f34l=>k_is);(case f34c=>k_is);(case f34k=>k_is)
  (case f35a=>k_is);(case f35l=>k_is);(case f35c=>k_is);(case f35k=>k_is)
  (case f36a=>k_is);(case f36l=>k_is);(case f36c=>k_is);(case f36k=>k_is)
  (case f37a=>k_is);(case f37l=>k_is);(case f37c=>k_is);(case f37k=>k_is)
  (case f38a=>k_is);(case f38l=>k_is);(case f38c=>k_is);(case f38k=>k_is)
  (case f39a=>k_is);(case f39l=>k_is);(case f39c=>k_is);(case f39k=>k_is)
  (case f40a=>k_is);(case f40l=>k_is);(case f40c=>k_is);(case f40k=>k_is)
  (case f41a=>k_is);(case f41l=>k_is);(case f41c=>k_is);(case f41k=>k_is)
  (case f42a=>k_is);(case f42l=>k_is);(case f42c=>k_is);(case f42k=>k_is)
  (case m0a=>k_is);(case m0i=>k_is);(case m0l=>k_is);(case m0c=>k_is);(case m0k=>k_is)
  (case m1a=>k_is);(case m1i=>k_is);(case m1l=>k_is);(case m1c=>k_is);(case m1k=>k_is)
  (case m2a=>k_is);(case m2i=>k_is);(case m2l=>k_is);(case m2c=>k_is);(case m2k=>k_is)
  (case m3a=>k_is);(case m3i=>k_is);(case m3l=>k_is);(case m3c=>k_is);(case m3k=>k_is)
  (case m4a=>k_is);(case m4i=>k_is);(case m4l=>k_is);(case m4c=>k_is);(case m4k=>k_is)
  (case m5a=>k_is);(case m5i=>k_is);(case m5l=>k_is);(case m5c=>k_is);(case m5k=>k_is)
  (case m6a=>k_is);(case m6i=>k_is);(case m6l=>k_is);(case m6c=>k_is);(case m6k=>k_is)
  (case m7a=>k_is);(case m7i=>k_is);(case m7l=>k_is);(case m7c=>k_is);(case m7k=>k_is)
  (case m8a=>k_is);(case m8i=>k_is);(case m8l=>k_is);(case m8c=>k_is);(case m8k=>k_is)
  (case m9a=>k_is);(case m9i=>k_is);(case m9l=>k_is);(case m9c=>k_is);(case m9k=>k_is)
  (case m10a=>k_is);(case m10i=>k_is);(case m10l=>k_is);(case m10c=>k_is);(case m10k=>k_is)
  (case m11a=>k_is);(case m11i=>k_is);(case m11l=>k_is);(case m11c=>k_is);(case m11k=>k_is)
  (case al=>k_is);(case ll=>k_is);(case cl=>k_is);(case kl=>k_is);(case xP=>k_exc);(case c8=>k_is);(case c9=>k_is);(case c10=>k_is);(case c11=>k_is);(case wpg=>k_is);(case whd=>k_is);(case wpo=>k_is);(case wsa=>k_is);(case wmk=>k_is);(case wkc=>k_is);(case nS=>k_is);(case nP=>k_is);(case nN=>k_is);(case wiha=>k_is);(case wimo=>k_is);(case gpg=>k_is);(case ghd=>k_is);(case gpo=>k_is);(case gsa=>k_is);(case gmk=>k_is);(case gkc=>k_is);(case nW=>k_is);(case nG=>k_is);(case nY=>k_is);(case giha=>k_is);(case gimo=>k_is);(case ihn=>k_is);(case itk=>k_is);(case z0=>k_is);(case z1=>k_is);(case z2=>k_is);(case z3=>k_is);(case z4=>k_is);(case z5=>k_is);(case z6=>k_is);(case z7=>k_is);(case z8=>k_is);(case z9=>k_is);(case z10=>k_is);(case z11=>k_is);(case z12=>k_is);(case z13=>k_is);(case z14=>k_is);(case z15=>k_is);(case z16=>k_is)

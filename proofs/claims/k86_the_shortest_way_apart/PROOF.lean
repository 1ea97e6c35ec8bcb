import PyProof.Rows.All
import Wide.All
import OpenK.AllK
import Wide.FinOn
import Lean
import PyProof.EqAt
import PyProof.EqKinds
import PyProof.TupleCall
import PyProof.FitsReplace
import PySem.Challenge.RW_evenpieces_k86_the_shortest_way_apart
set_option Elab.async false
set_option linter.all false
set_option maxRecDepth 100000
namespace L2
open PySem PySem.Spec PyProof.Rows
abbrev Key := Sum Int Str
def keyIs : Key -> Value -> Bool
 | .inl k, v => Value.isInt k v
 | .inr x, v => Value.isStrOf x v
def keyH (w : World) : Key -> Int
 | .inl k => hashInt k
 | .inr x => hashStr w x
theorem keyIs_shape : ∀ {k : Key} {v : Value}, keyIs k v = true -> (∃ i t, k = Sum.inl i /\ v = Value.int i t) ∨ (∃ x t, k = Sum.inr x /\ v = Value.str x t)
 | .inl i, v, h => by
  obtain ⟨t, e⟩ := Value.isInt_shape (k := i) (v := v) h
  exact .inl ⟨i, t, rfl, e⟩
 | .inr x, v, h => by
  obtain ⟨t, e⟩ := Value.isStrOf_shape (x := x) (v := v) h
  exact .inr ⟨x, t, rfl, e⟩
theorem keyIs_int (i : Int) (t : Tok) : keyIs (.inl i) (.int i t) = true := by simp [keyIs, Value.isInt]
theorem keyIs_str (x : Str) (t : Tok) : keyIs (.inr x) (.str x t) = true := by simp [keyIs, Value.isStrOf]
theorem key_ll (a b : Int) : decide ((Sum.inl a : Key) = Sum.inl b) = (a == b) := by
 by_cases e : a = b
 ·subst e; simp
 ·have h : ¬ (Sum.inl a : Key) = Sum.inl b := fun q => e (Sum.inl.inj q)
  rw [decide_eq_false h]
  exact (beq_eq_false_iff_ne.mpr e).symm
theorem key_rr (a b : Str) : decide ((Sum.inr a : Key) = Sum.inr b) = decide (a = b) := by
 by_cases e : a = b
 ·subst e; simp
 ·have h : ¬ (Sum.inr a : Key) = Sum.inr b := fun q => e (Sum.inr.inj q)
  rw [decide_eq_false h, decide_eq_false e]
theorem key_lr (a : Int) (b : Str) : decide ((Sum.inl a : Key) = Sum.inr b) = false := decide_eq_false (fun q => nomatch q)
theorem key_rl (a : Str) (b : Int) : decide ((Sum.inr a : Key) = Sum.inl b) = false := decide_eq_false (fun q => nomatch q)
def mixKind (prog : Program) (w : World) : PySem.KeyKind prog w Key where
 is := keyIs
 hash := keyH w
 inj := fun v a b ha hb => by
  rcases keyIs_shape ha with ⟨i, t, rfl, rfl⟩ | ⟨x, t, rfl, rfl⟩
  ·rcases keyIs_shape hb with ⟨j, u, rfl, e⟩ | ⟨y, u, rfl, e⟩
   ·injection e with e1 _; rw [e1]
   ·exact nomatch e
  ·rcases keyIs_shape hb with ⟨j, u, rfl, e⟩ | ⟨y, u, rfl, e⟩
   ·exact nomatch e
   ·injection e with e1 _; rw [e1]
 byValue := fun k v h => by
  rcases keyIs_shape h with ⟨i, t, rfl, rfl⟩ | ⟨x, t, rfl, rfl⟩ <;> rfl
 pyHash := fun hv h => by
  rcases keyIs_shape hv with ⟨i, t, rfl, rfl⟩ | ⟨x, t, rfl, rfl⟩
  ·exact wpAny_pyHash_int h
  ·exact wpAny_pyHash_str h
 eqBool := fun hu hv h => by
  rcases keyIs_shape hu with ⟨i, t, rfl, rfl⟩ | ⟨x, t, rfl, rfl⟩
  ·rcases keyIs_shape hv with ⟨j, u, rfl, rfl⟩ | ⟨y, u, rfl, rfl⟩
   ·rw [key_ll] at h; exact wpAny_eqBool_int h
   ·rw [key_lr] at h; exact SeqAt.EqAt.int_str i t y u _ _ _ _ h
  ·rcases keyIs_shape hv with ⟨j, u, rfl, rfl⟩ | ⟨y, u, rfl, rfl⟩
   ·rw [key_rl] at h; exact SeqAt.EqAt.str_int x t j u _ _ _ _ h
   ·rw [key_rr] at h; exact wpAny_eqBool_str h
 «strs» := fun k x t v h => by
  rcases keyIs_shape h with ⟨i, u, rfl, e⟩ | ⟨y, u, rfl, e⟩
  ·exact nomatch e
  ·injection e with e1 _
   subst e1
   cases v <;> rfl
theorem mixKind_int (prog : Program) (w : World) (i : Int) (t : Tok) : (mixKind prog w).is (.inl i) (.int i t) = true := keyIs_int i t
theorem mixKind_str (prog : Program) (w : World) (x : Str) (t : Tok) : (mixKind prog w).is (.inr x) (.str x t) = true := keyIs_str x t
end L2
namespace L2
open PySem PySem.Spec PyProof.Rows
inductive V where
 | non | bl (b : Bool) | int (i : Int) | str (x : Str) | byt (b : Array UInt8) | flt (b : UInt64) | ref (a : Addr) | ty (n : String)
 deriving DecidableEq
def RelV : V -> Value -> Prop
 | .non, u => u = Value.none
 | .bl b, u => u = Value.bool b
 | .int i, u => ∃ t, u = Value.int i t
 | .str x, u => ∃ t, u = Value.str x t
 | .byt b, u => ∃ t, u = Value.bytes b t
 | .flt b, u => ∃ t, u = Value.float b t
 | .ref a, u => u = Value.ref a
 | .ty n, u => u = Value.type n
abbrev Vals : List V -> List Value -> Prop := Paired RelV
theorem Vals.length {xs : List V} {us : List Value} (r : Vals xs us) : xs.length = us.length := Paired.length r
theorem Vals.get : ∀ {xs : List V} {us : List Value} {i : Nat} {x : V}, Vals xs us -> xs[i]? = some x -> ∃ u, us[i]? = some u /\ RelV x u
 | _, _, _, _, .nil, e => by simp at e
 | _, _, 0, _, .cons r _, e => by simp at e; subst e; exact ⟨_, rfl, r⟩
 | _, _, i + 1, x, .cons _ t, e => by
  obtain ⟨u, h1, h2⟩ := Vals.get (i := i) (x := x) t (by simpa using e)
  exact ⟨u, by simpa using h1, h2⟩
theorem Vals.set {x : V} {u : Value} (r : RelV x u) : ∀ {xs : List V} {us : List Value} (i : Nat), Vals xs us -> Vals (xs.set i x) (us.set i u)
 | _, _, _, .nil => .nil
 | _, _, 0, .cons _ t => .cons r t
 | _, _, i + 1, .cons q t => .cons q (Vals.set r i t)
theorem Vals.append : ∀ {xs ys : List V} {us ws : List Value}, Vals xs us -> Vals ys ws -> Vals (xs ++ ys) (us ++ ws)
 | _, _, _, _, .nil, s => s
 | _, _, _, _, .cons r t, s => .cons r (Vals.append t s)
theorem Vals.take : ∀ {xs : List V} {us : List Value} (n : Nat), Vals xs us -> Vals (xs.take n) (us.take n)
 | _, _, 0, _ => .nil
 | _, _, _ + 1, .nil => .nil
 | _, _, n + 1, .cons r t => .cons r (Vals.take n t)
theorem Vals.drop : ∀ {xs : List V} {us : List Value} (n : Nat), Vals xs us -> Vals (xs.drop n) (us.drop n)
 | _, _, 0, r => r
 | _, _, _ + 1, .nil => .nil
 | _, _, n + 1, .cons _ t => Vals.drop n t
def RelO : Option V -> Option Value -> Prop
 | some v, some u => RelV v u
 | none, none => True
 | _, _ => False
def KV {κ : Type} : List (κ × V) -> List (κ × Value) -> Prop := Paired fun (p : κ × V) (q : κ × Value) => p.1 = q.1 /\ RelV p.2 q.2
def kV : Key -> V
 | .inl i => .int i
 | .inr x => .str x
inductive HO where
  | lst (xs : List V)
  | tup (xs : List V)
  | dK (kvs : List (Key × V)) | dT (kvs : List (List Key × V))
  | set (S : Int -> Bool) (n : Nat)
  | ins (C dx : Addr) (fs : List (Str × V))
  | own (x : Addr)
  | xd (fs : List (Str × V))
  | met (f x : Addr)
  | rng (lo hi : Int)
  | frz (o : Obj) (u : HO)
  | tbl (ps : Array Value)
  | ext (φ : Heap -> Prop)
abbrev Hp := Addr -> Option HO
def upd (H : Hp) (a : Addr) (o : HO) : Hp := fun b => if b = a then some o else H b
theorem upd_same {H : Hp} {a : Addr} {o : HO} : upd H a o a = some o := by unfold upd; rw [if_pos rfl]
theorem upd_ne {H : Hp} {a b : Addr} {o : HO} (h : b ≠ a) : upd H a o b = H b := by unfold upd; rw [if_neg h]
theorem upd_upd {H : Hp} {a : Addr} {o u : HO} : upd (upd H a o) a u = upd H a u := by
 funext b; unfold upd; split <;> rfl
theorem ne_of {H : Hp} {a b : Addr} {o u : HO} (h : H a = some o) (h' : H b = some u) (d : o ≠ u) : a ≠ b := by
 intro e; subst e; rw [h] at h'; exact d (Option.some.inj h')
theorem ne_of_none {H : Hp} {a b : Addr} {o : HO} (h : H a = some o) (h' : H b = none) : a ≠ b := by
 intro e; subst e; rw [h] at h'; cases h'
section
variable (P : Program) (w : World)
def ObjOk (H : Hp) (h : Heap) (a : Addr) : HO -> Prop
 | .lst xs => xs.length <= sizeLine /\ ∃ (its : List Value) (n : Nat), Vals xs its /\ h.get? a = some { cls := .type "list", data := .seq its.toArray n }
 | .tup xs => xs.length <= sizeLine /\ ∃ its : List Value, Vals xs its /\ IsTup h a its.toArray /\ ∃ o, h.get? a = some o /\ o.dict = none
 | .dK kvs => kvs.length <= sizeLine /\ (a == sysModules) = false /\ ∃ vs, KV kvs vs /\ h.DictOf (mixKind P w) a vs
 | .dT kvs => kvs.length <= sizeLine /\ (a == sysModules) = false /\ ∃ xs : List (List Key × Addr × Value),
   Paired (fun (p : List Key × V) (q : List Key × Addr × Value) => p.1 = q.1 /\ H q.2.1 = some (.tup (p.1.map kV)) /\ RelV p.2 q.2.2) kvs xs /\
   ∃ o es ep, h.get? a = some o /\ o.ExactDict /\ o.data = .dict es ep /\ es.toList = xs.map (entryOfKey (tupleKind (mixKind P w))) /\ (xs.map (·.1)).Nodup
 | .set S n => h.SetOf (intKind P w) a S n
 | .ins C dx fs => H dx = some (.own a) /\ fs.length <= 1000 /\ dx ≠ a /\ h.get? a = some (PySem.W.instObj C dx) /\
   ∃ mA, h.Ns1 dx mA /\ (∀ f, RelO (fs.lookup f) (mA f)) /\ PySem.Within mA (fs.map (·.1))
 | .own _ => ∃ o, h.get? a = some o
 | .xd fs => ∃ mA, h.Ns1 a mA /\ ∀ f, RelO (fs.lookup f) (mA f)
 | .rng lo hi => ∃ t u v, h.get? a = some { cls := .type "range", data := .fields #[.int lo t, .int hi u, .int 1 v] }
 | .frz o u => h.get? a = some o /\ ObjOk H h a u
 | .tbl ps => h.get? a = some { cls := .none, data := .fields ps }
 | .met f x => h.get? a = some (PySem.W.methodObj (.ref f) (.ref x))
 | .ext φ => φ h /\ (∃ o, h.get? a = some o) /\ ∀ h1 h2 : Heap, φ h1 -> (∀ o, h1.get? a = some o -> h2.get? a = some o) -> φ h2
def HOk (H : Hp) (h : Heap) : Prop := ∀ a o, H a = some o -> ObjOk P w H h a o
end
section
variable {P : Program} {w : World} {H H' : Hp} {h h' : Heap} {a : Addr} {o : HO}
theorem ObjOk.lt (x : ObjOk P w H h a o) : a < h.objs.size := by
 cases o with
 | lst xs => obtain ⟨_, _, _, _, e⟩ := x; exact Heap.lt_size e
 | tup xs => obtain ⟨_, _, _, p, _⟩ := x; exact p.lt
 | dK kvs => obtain ⟨_, _, _, _, o, _, _, e, _⟩ := x; exact Heap.lt_size e
 | dT kvs => obtain ⟨_, _, _, _, o, _, _, e, _⟩ := x; exact Heap.lt_size e
 | set S n => obtain ⟨o, _, _, _, e, _⟩ := x; exact Heap.lt_size e
 | ins C dx fs => obtain ⟨_, _, _, e, _⟩ := x; exact Heap.lt_size e
 | own y => obtain ⟨_, e⟩ := x; exact Heap.lt_size e
 | xd fs => obtain ⟨_, ⟨_, _, _, e, _⟩, _⟩ := x; exact Heap.lt_size e
 | rng lo hi => obtain ⟨_, _, _, e⟩ := x; exact Heap.lt_size e
 | frz ob u => obtain ⟨e, _⟩ := x; exact Heap.lt_size e
 | tbl ps => exact Heap.lt_size (show h.get? a = some _ from x)
 | met f y => exact Heap.lt_size (show h.get? a = some _ from x)
 | ext φ => obtain ⟨_, ⟨_, e⟩, _⟩ := x; exact Heap.lt_size e
theorem Paired.mapP {α β : Type} {F G : α -> β -> Prop} : ∀ {l₁ : List α} {l₂ : List β}, Paired F l₁ l₂ -> (∀ a b, F a b -> G a b) -> Paired G l₁ l₂
 | _, _, .nil, _ => .nil
 | _, _, .cons r t, f => .cons (f _ _ r) (Paired.mapP t f)
theorem ObjOk.stay (x : ObjOk P w H h a o) (k : ∀ b u, (b = a ∨ H b = some (.own a)) -> h.get? b = some u -> h'.get? b = some u)
  (ho : ∀ b, H b = some (.own a) -> H' b = some (.own a)) (ht : ∀ b xs, H b = some (.tup xs) -> H' b = some (.tup xs)) : ObjOk P w H' h' a o := by
 induction o with
 | lst xs => obtain ⟨z, its, n, r, e⟩ := x; exact ⟨z, its, n, r, k _ _ (.inl rfl) e⟩
 | tup xs => obtain ⟨z, its, r, ⟨ob, e, c⟩, o2, e2, c2⟩ := x; exact ⟨z, its, r, ⟨ob, k _ _ (.inl rfl) e, c⟩, o2, k _ _ (.inl rfl) e2, c2⟩
 | dK kvs => obtain ⟨z, y, vs, r, ob, es, ep, e, c⟩ := x; exact ⟨z, y, vs, r, ob, es, ep, k _ _ (.inl rfl) e, c⟩
 | dT kvs =>
  obtain ⟨z, y, xs, r, ob, es, ep, e, c⟩ := x
  exact ⟨z, y, xs, Paired.mapP r fun p q z => ⟨z.1, ht _ _ z.2.1, z.2.2⟩, ob, es, ep, k _ _ (.inl rfl) e, c⟩
 | set S n => obtain ⟨ob, es, ep, t, e, c⟩ := x; exact ⟨ob, es, ep, t, k _ _ (.inl rfl) e, c⟩
 | ins C dx fs =>
  obtain ⟨d, z, ne, e, mA, ⟨od, es, ep, e2, c⟩, r⟩ := x
  exact ⟨ho _ d, z, ne, k _ _ (.inl rfl) e, mA, ⟨od, es, ep, k _ _ (.inr d) e2, c⟩, r⟩
 | own y => obtain ⟨ob, e⟩ := x; exact ⟨ob, k _ _ (.inl rfl) e⟩
 | xd fs => obtain ⟨mA, ⟨od, es, ep, e, c⟩, r⟩ := x; exact ⟨mA, ⟨od, es, ep, k _ _ (.inl rfl) e, c⟩, r⟩
 | rng lo hi => obtain ⟨t, u, v, e⟩ := x; exact ⟨t, u, v, k _ _ (.inl rfl) e⟩
 | frz ob u ih => obtain ⟨e, q⟩ := x; exact ⟨k _ _ (.inl rfl) e, ih q⟩
 | tbl ps =>
  have e : h.get? a = some { cls := .none, data := .fields ps } := x
  show h'.get? a = some { cls := .none, data := .fields ps }
  exact k a _ (.inl rfl) e
 | met f y =>
  have e : h.get? a = some (PySem.W.methodObj (.ref f) (.ref y)) := x
  show h'.get? a = some (PySem.W.methodObj (.ref f) (.ref y))
  exact k a _ (.inl rfl) e
 | ext φ => obtain ⟨p, ⟨o, e⟩, st⟩ := x; exact ⟨st _ _ p fun o q => k _ _ (.inl rfl) q, ⟨o, k _ _ (.inl rfl) e⟩, st⟩
theorem HOk.lt (x : HOk P w H h) (e : H a = some o) : a < h.objs.size := (x a o e).lt
theorem HOk.fresh (x : HOk P w H h) (e : h.objs.size <= a) : H a = none := by
 cases q : H a with
 | none => rfl
 | some u => exact absurd (Nat.lt_of_lt_of_le (x.lt q) e) (Nat.lt_irrefl _)
theorem HOk.kept (x : HOk P w H h) (k : ∀ b u, h.get? b = some u -> h'.get? b = some u) : HOk P w H h' := fun a o e =>
 (x a o e).stay (fun b u _ q => k b u q) (fun _ q => q) fun _ _ q => q
theorem HOk.laid (x : HOk P w H h) (k : ∀ b u, h.get? b = some u -> h'.get? b = some u) (hp : h.objs.size <= a) (new : ObjOk P w (upd H a o) h' a o) : HOk P w (upd H a o) h' := fun b u e => by
 have hn := x.fresh hp
 by_cases hb : b = a
 ·subst hb; rw [upd_same] at e; cases e; exact new
 ·rw [upd_ne hb] at e
  exact (x b u e).stay (fun c v _ q => k c v q) (fun c q => by rw [upd_ne (ne_of_none q hn)]; exact q) fun c xs q => by rw [upd_ne (ne_of_none q hn)]; exact q
end
def Rd (H : Hp) (a : Addr) (u : HO) : Prop := H a = some u ∨ ∃ o, H a = some (.frz o u)
theorem Rd.ok {P : Program} {w : World} {H : Hp} {h : Heap} {a : Addr} {u : HO} (r : Rd H a u) (x : HOk P w H h) : ObjOk P w H h a u := by
 rcases r with r | ⟨o, r⟩
 ·exact x a u r
 ·obtain ⟨_, q⟩ := x a _ r
  exact q
def Mut : Option HO -> Prop
 | some (.lst _) => True
 | some (.dK _) => True
 | some (.dT _) => True
 | some (.set _ _) => True
 | some (.ins _ _ _) => True
 | some (.ext _) => True
 | _ => False
section
variable {P : Program} {w : World} {H : Hp} {h h' : Heap} {x e : Addr} {o' : HO}
theorem HOk.write (ok : HOk P w H h) (mu : Mut (H x)) (he : e = x ∨ H e = some (.own x)) (k : ∀ b u, b ≠ e -> h.get? b = some u -> h'.get? b = some u) (heo : ∃ u, h'.get? e = some u)
  (new : ObjOk P w (upd H x o') h' x o') : HOk P w (upd H x o') h' := fun b u q => by
 have nown : ∀ c y, H c = some (.own y) -> c ≠ x := fun c y r z => by subst z; rw [r] at mu; exact mu
 have ntup : ∀ c xs, H c = some (.tup xs) -> c ≠ x := fun c xs r z => by subst z; rw [r] at mu; exact mu
 by_cases hb : b = x
 ·subst hb; rw [upd_same] at q; cases q; exact new
 ·rw [upd_ne hb] at q
  by_cases hbe : b = e
  ·have q' : H b = some (.own x) := by
    rcases he with z | z
    ·exact absurd (hbe.trans z) hb
    ·rw [hbe]; exact z
   rw [q] at q'; cases q'
   obtain ⟨v, hv⟩ := heo
   exact ⟨v, by rw [hbe]; exact hv⟩
  ·refine (ok b u q).stay (fun c v hc r => k c v ?_ r) (fun c r => by rw [upd_ne (nown c b r)]; exact r) fun c xs r => by rw [upd_ne (ntup c xs r)]; exact r
   rcases hc with rfl | hc
   ·exact hbe
   ·rintro rfl
    rcases he with z | z
    ·exact nown c b hc z
    ·rw [hc] at z; cases z; exact hb rfl
end
structure Un (fs ex : List Addr) (H H' : Hp) (h h' : Heap) : Prop where
 keep : ∀ b o, h.get? b = some o -> H b = none -> b ∉ fs -> b ∉ ex -> h'.get? b = some o
 slot : ∀ b o, h.get? b = some o -> H b = none -> b ∈ fs -> b ∉ ex -> ∃ sl, h'.get? b = some { o with slots := sl }
 free : ∀ b o, h.get? b = some o -> H b = none -> b ∉ ex -> H' b = none
 there : ∀ b o, h.get? b = some o -> b ∉ ex -> ∃ o', h'.get? b = some o'
 tups : ∀ b xs, H b = some (.tup xs) -> H' b = some (.tup xs)
 frzs : ∀ b o u, H b = some (.frz o u) -> H' b = some (.frz o u)
 tbls : ∀ b ps, H b = some (.tbl ps) -> ∃ more, H' b = some (.tbl (ps ++ more))
section
variable {fs fs' ex ex' : List Addr} {H H1 H2 : Hp} {h h1 h2 h' : Heap} {a x e : Addr} {o : HO}
theorem Un.any (u : Un fs ex H H1 h h1) {b : Addr} {ob : Obj} (q : h.get? b = some ob) (n : H b = none) (hx : b ∉ ex) : ∃ sl, h1.get? b = some { ob with slots := sl } := by
 by_cases hb : b ∈ fs
 ·exact u.slot b ob q n hb hx
 ·exact ⟨ob.slots, u.keep b ob q n hb hx⟩
theorem Un.kept (k : ∀ b u, h.get? b = some u -> h'.get? b = some u) : Un fs ex H H h h' :=
 ⟨fun b ob q _ _ _ => k b ob q, fun b ob q _ _ _ => ⟨ob.slots, k b ob q⟩, fun _ _ _ n _ => n, fun b ob q _ => ⟨ob, k b ob q⟩, fun _ _ q => q, fun _ _ _ q => q, fun _ ps q => ⟨#[], by rw [q]; simp⟩⟩
theorem Un.refl : Un fs ex H H h h := Un.kept fun _ _ q => q
theorem Un.laid (k : ∀ b u, h.get? b = some u -> h'.get? b = some u) (hp : h.objs.size <= a) (hn : H a = none) : Un fs ex H (upd H a o) h h' where
 keep := fun b u q _ _ _ => k b u q
 slot := fun b u q _ _ _ => ⟨u.slots, k b u q⟩
 free := fun b u q n _ => by rw [upd_ne (Nat.ne_of_lt (Nat.lt_of_lt_of_le (Heap.lt_size q) hp))]; exact n
 there := fun b u q _ => ⟨u, k b u q⟩
 tups := fun b xs q => by rw [upd_ne (ne_of_none q hn)]; exact q
 frzs := fun b u xs q => by rw [upd_ne (ne_of_none q hn)]; exact q
 tbls := fun b ps q => ⟨#[], by rw [upd_ne (ne_of_none q hn), q]; simp⟩
theorem Un.write (mu : Mut (H x)) (he : e = x ∨ H e = some (.own x)) (k : ∀ b u, b ≠ e -> h.get? b = some u -> h'.get? b = some u) (heo : ∃ u, h'.get? e = some u) : Un fs ex H (upd H x o) h h' := by
 have hx : ∀ b, H b = none -> b ≠ x := fun b n z => by subst z; rw [n] at mu; exact mu
 have hb : ∀ b, H b = none -> b ≠ e := fun b n z => by
  subst z
  rcases he with r | r
  ·exact hx b n r
  ·rw [n] at r; cases r
 have hm : ∀ b u, H b = some u -> ¬ Mut (some u) -> b ≠ x := fun b u q nm z => by subst z; rw [q] at mu; exact nm mu
 refine ⟨fun b u q n _ _ => k b u (hb b n) q, fun b u q n _ _ => ⟨u.slots, k b u (hb b n) q⟩, fun b u q n _ => by rw [upd_ne (hx b n)]; exact n, fun b u q _ => ?_,
  fun b xs q => by rw [upd_ne (hm b _ q fun z => z)]; exact q, fun b u xs q => by rw [upd_ne (hm b _ q fun z => z)]; exact q, fun b ps q => ⟨#[], by rw [upd_ne (hm b _ q fun z => z), q]; simp⟩⟩
 by_cases hbe : b = e
 ·subst hbe; exact heo
 ·exact ⟨u, k b u hbe q⟩
end
def trk (h : Heap) (H : Hp) : List Addr := (List.range h.objs.size).filter fun a => (H a).isSome
def hidT (h : Heap) (H : Hp) : Heap := PySem.W.hideAll h (trk h H)
theorem hidT_size (h : Heap) (H : Hp) : (hidT h H).objs.size = h.objs.size := PySem.W.hideAll_size _ _
theorem hidT_get {h : Heap} {H : Hp} {b : Addr} {o : Obj} (e : h.get? b = some o) (n : H b = none) : (hidT h H).get? b = some o :=
 PySem.W.hideAll_get _ e fun hm => by
  have q : (H b).isSome = true := (List.mem_filter.mp hm).2
  rw [n] at q; simp at q
theorem of_hidT {h : Heap} {H : Hp} {b : Addr} {o : Obj} (e : (hidT h H).get? b = some o) : h.get? b = some o /\ H b = none := by
 have e' : h.get? b = some o := PySem.W.of_hideAll (trk h H) e
 refine ⟨e', ?_⟩
 cases q : H b with
 | none => rfl
 | some x =>
  have hm : b ∈ trk h H := List.mem_filter.mpr ⟨List.mem_range.mpr (Heap.lt_size e'), by simp [q]⟩
  have z : (hidT h H).get? b = none := PySem.W.hideAll_none (trk h H) hm
  rw [z] at e; cases e
end L2
namespace L2
open PySem PySem.Spec PyProof.Rows
structure Mod (K : PySem.W.Frag) (mg : Str -> Option Value) (base : Heap) : Prop where
 kin : K.In base
 glob : base.Ns mainGlobals mg
 blt : ∃ mb, base.Ns builtinsNs mb /\ ∀ x : Str, x ≠ "__name__" -> mb x = bootBuiltins x
 nolimit : base.NoLimit
structure Cx where
 prog : Program
 w : World
 K : PySem.W.Frag
 mg : Str -> Option Value
 base : Heap
 A : Around
 N : List Str
 s₀ : Shared
 H₀ : Hp
 env : Env
 outer : List Env
 stack : List Env
 ex : List Addr
 fn : Str -> Bool
 calm : Bool
 pn : List (Addr × Obj)
 xe : Value -> Shared -> Prop
def frs (l : List Env) : List Addr := l.filterMap (·.frame)
abbrev Cx.fs (X : Cx) : List Addr := frs X.outer
def Vis (sc : Scope) (x : Str) : Prop := sc.names.lookup x = some .local ∨ sc.names.lookup x = some .cell ∨ sc.names.lookup x = some .free
def Loc (sc : Scope) (x : Str) : Prop := sc.names.lookup x = some .local ∨ sc.names.lookup x = some .cell
def Look (env : Env) (h : Heap) (m : Str -> Option Value) (x : Str) (u : Value) : Prop :=
 (env.kindOf x = some .local /\ m x = some u) ∨ ((env.kindOf x = some .cell ∨ env.kindOf x = some .free) /\ ∃ c, env.cells.lookup x = some c /\ h.IsCell c (some u))
structure Cx.Ok (X : Cx) : Prop where
 mod : Mod X.K X.mg X.base
 kind : X.env.scope.kind = .function
 glob : X.env.globals = mainGlobals
 blt : X.env.builtins = builtinsNs
 above : X.s₀.heap.objs.size <= X.env.locals
 inj : ∀ x y c, X.env.cells.lookup x = some c -> X.env.cells.lookup y = some c -> x = y
 has : ∀ x, (X.env.kindOf x = some .cell ∨ X.env.kindOf x = some .free) -> ∃ c, X.env.cells.lookup x = some c
 cab : ∀ x c, X.fn x = true -> X.env.cells.lookup x = some c -> X.s₀.heap.objs.size <= c
 hd : X.calm = true -> X.A.handled = none
 frames : X.A.frames = some X.stack
 stk : X.stack = X.outer ∨ (X.stack = X.env :: X.outer /\ X.env.frame = some X.env.locals)
 exf : ∀ b ∈ X.ex, b ≠ X.env.locals /\ ∀ x c, X.env.cells.lookup x = some c -> c ≠ b
 bs : ∀ b o, X.base.get? b = some o -> X.s₀.heap.get? b = some o /\ X.H₀ b = none
 bsz : X.base.objs.size <= X.s₀.heap.objs.size
 noex : ∀ b o, X.base.get? b = some o -> b ∉ X.ex
 exfs : ∀ b ∈ X.ex, b ∉ X.fs
 funs : X.s₀.heap.FunFrames X.base X.outer
 frf : ∀ b ∈ X.fs, X.H₀ b = none
structure Inv (X : Cx) (pins : List (Addr × Obj)) (σ : List (Option V)) (H : Hp) (s : Shared) : Prop where
 ok : X.Ok
 os : s.os = X.s₀.os
 bare : AllBare s.gens
 base : Un X.fs X.ex X.H₀ H X.s₀.heap s.heap
 loc : ∃ m, s.heap.Ns X.env.locals m /\ ∀ (i : Nat) (x : Str) (v : V), X.N[i]? = some x -> σ[i]? = some (some v) -> Vis X.env.scope x -> ∃ u, RelV v u /\ Look X.env s.heap m x u
 cell : ∀ x c, X.env.cells.lookup x = some c -> ∃ v, s.heap.IsCell c v
 free : H X.env.locals = none
 freeC : ∀ x c, X.env.cells.lookup x = some c -> H c = none
 pin : ∀ p ∈ X.pn ++ pins, s.heap.get? p.1 = some p.2 /\ H p.1 = none /\ p.1 ≠ X.env.locals /\ p.1 ∉ X.fs /\ ∀ v, p.2.data ≠ .cell v
 hok : HOk X.prog X.w H s.heap
 len : σ.length = X.N.length
section
variable {X : Cx} {pins : List (Addr × Obj)} {σ : List (Option V)} {H H' : Hp} {s : Shared} {h' : Heap}
theorem Cx.Ok.nofr (ok : X.Ok) {b : Addr} {o : Obj} (e : X.base.get? b = some o) : b ∉ X.fs := fun hb => by
 have := (ok.funs.mem hb).1
 rw [e] at this; cases this
theorem Inv.bs (I : Inv X pins σ H s) : ∀ b o, X.base.get? b = some o -> s.heap.get? b = some o /\ H b = none := fun b o e =>
 ⟨I.base.keep b o (I.ok.bs b o e).1 (I.ok.bs b o e).2 (I.ok.nofr e) (I.ok.noex b o e), I.base.free b o (I.ok.bs b o e).1 (I.ok.bs b o e).2 (I.ok.noex b o e)⟩
theorem Inv.bk (I : Inv X pins σ H s) : ∀ b o, X.base.get? b = some o -> s.heap.get? b = some o := fun b o e => (I.bs b o e).1
theorem Inv.mod (I : Inv X pins σ H s) : Mod X.K X.mg X.base := I.ok.mod
theorem Inv.kIn (I : Inv X pins σ H s) : X.K.In s.heap := I.ok.mod.kin.keeps I.bk
theorem Inv.lt (I : Inv X pins σ H s) : X.env.locals < s.heap.objs.size := let ⟨_, hn, _⟩ := I.loc; hn.lt
theorem Inv.sz (I : Inv X pins σ H s) : X.s₀.heap.objs.size <= s.heap.objs.size := Nat.le_trans I.ok.above (Nat.le_of_lt I.lt)
theorem Inv.nofs (I : Inv X pins σ H s) {a : Addr} (h : s.heap.objs.size <= a) : a ∉ X.fs := fun hb => by
 obtain ⟨_, o, ho, _⟩ := I.ok.funs.mem hb
 exact absurd (Nat.lt_of_lt_of_le (Heap.lt_size ho) (Nat.le_trans I.sz h)) (Nat.lt_irrefl _)
theorem Inv.cne (I : Inv X pins σ H s) : ∀ x c, X.env.cells.lookup x = some c -> c ≠ X.env.locals := fun x c e z => by
 obtain ⟨v, o, ho, hd⟩ := I.cell x c e
 obtain ⟨m, ⟨o', es, ep, ho', hd', _⟩, _⟩ := I.loc
 rw [z, ho'] at ho; cases ho; rw [hd'] at hd; cases hd
theorem Inv.funs (I : Inv X pins σ H s) : s.heap.FunFrames X.base X.outer := by
 have all : ∀ (l : List Env), (∀ b ∈ frs l, b ∈ X.fs) -> X.s₀.heap.FunFrames X.base l -> s.heap.FunFrames X.base l := by
  intro l
  induction l with
  | nil => intro _ _; trivial
  | cons env r ih =>
   intro hs hl
   obtain ⟨hk, ⟨L, o, hf, hn, ho, hd⟩, hr⟩ := hl
   have hL : L ∈ X.fs := hs L (by unfold frs; rw [List.filterMap_cons, hf]; exact List.mem_cons_self)
   obtain ⟨sl, e⟩ := I.base.slot L o ho (I.ok.frf L hL) hL fun z => I.ok.exfs L z hL
   exact ⟨hk, ⟨L, _, hf, hn, e, hd⟩, ih (fun b hb => hs b (by unfold frs; rw [List.filterMap_cons, hf]; exact List.mem_cons_of_mem _ hb)) hr⟩
 exact all X.outer (fun _ hb => hb) I.ok.funs
theorem Inv.stack (I : Inv X pins σ H s) : s.heap.FunFrames X.base X.stack := by
 rcases I.ok.stk with e | ⟨e, hf⟩
 ·rw [e]; exact I.funs
 ·rw [e]
  obtain ⟨m, hn, _⟩ := I.loc
  refine .cons (by rw [I.ok.kind]; decide) hf hn ?_ I.funs
  exact Heap.get?_none_of_le (Nat.le_trans I.ok.bsz I.ok.above)
theorem Inv.stkSub (I : Inv X pins σ H s) : ∀ b ∈ frs X.stack, b ∈ X.env.locals :: X.fs := fun b hb => by
 rcases I.ok.stk with e | ⟨e, hf⟩
 ·rw [e] at hb; exact List.mem_cons_of_mem _ hb
 ·rw [e] at hb
  unfold frs at hb
  rw [List.filterMap_cons, hf] at hb
  exact hb
theorem Inv.stkFree (I : Inv X pins σ H s) : ∀ b ∈ frs X.stack, H b = none := fun b hb => by
 rcases List.mem_cons.mp (I.stkSub b hb) with e | hb
 ·rw [e]; exact I.free
 ·obtain ⟨_, o, ho, _⟩ := I.ok.funs.mem hb
  exact I.base.free b o ho (I.ok.frf b hb) fun z => I.ok.exfs b z hb
theorem Inv.step {g' : Array GenState} {t' : Nat} {d' : Drawn} {ch : List Addr} (I : Inv X pins σ H s)
  (hch : ∀ b ∈ ch, (b ∈ X.ex ∨ X.s₀.heap.objs.size <= b) /\ b ≠ X.env.locals /\ (∀ x c, X.env.cells.lookup x = some c -> c ≠ b) /\ ∀ p ∈ X.pn ++ pins, p.1 ≠ b)
  (keep : ∀ b o, b ≠ X.env.locals -> b ∉ X.fs -> b ∉ ch -> s.heap.get? b = some o -> H b = none -> h'.get? b = some o)
  (slot : ∀ b o, b ≠ X.env.locals -> b ∈ X.fs -> b ∉ ch -> s.heap.get? b = some o -> H b = none -> ∃ sl, h'.get? b = some { o with slots := sl }) (free : ∀ b o, b ∉ ch -> s.heap.get? b = some o -> H b = none -> H' b = none)
  (there : ∀ b o, b ∉ ch -> s.heap.get? b = some o -> ∃ o', h'.get? b = some o')
  (tups : ∀ b xs, H b = some (.tup xs) -> H' b = some (.tup xs)) (frzs : ∀ b o u, H b = some (.frz o u) -> H' b = some (.frz o u)) (tbls : ∀ b ps, H b = some (.tbl ps) -> ∃ more, H' b = some (.tbl (ps ++ more)))
  (ns : ∀ m, s.heap.Ns X.env.locals m -> h'.Ns X.env.locals m) (hok : HOk X.prog X.w H' h') (hg : AllBare g') :
  Inv X pins σ H' { s with heap := h', gens := g', drawn := d', toks := t' } := by
 have neL : ∀ b o, X.s₀.heap.get? b = some o -> b ≠ X.env.locals := fun b o e => Nat.ne_of_lt (Nat.lt_of_lt_of_le (Heap.lt_size e) I.ok.above)
 have neC : ∀ b o, X.s₀.heap.get? b = some o -> b ∉ X.ex -> b ∉ ch := fun b o e hx hb => by
  rcases (hch b hb).1 with z | z
  ·exact hx z
  ·exact absurd (Nat.lt_of_lt_of_le (Heap.lt_size e) z) (Nat.lt_irrefl _)
 have cellK : ∀ x c, X.env.cells.lookup x = some c -> ∀ v, s.heap.IsCell c v -> h'.IsCell c v := fun x c e v ⟨o, ho, hd⟩ => by
  have nch : c ∉ ch := fun z => (hch c z).2.2.1 x c e rfl
  by_cases hc : c ∈ X.fs
  ·obtain ⟨sl, q⟩ := slot c o (I.cne x c e) hc nch ho (I.freeC x c e)
   exact ⟨_, q, hd⟩
  ·exact ⟨o, keep c o (I.cne x c e) hc nch ho (I.freeC x c e), hd⟩
 refine ⟨I.ok, I.os, hg, ⟨fun b o e n hb hx => ?_, fun b o e n hb hx => ?_, fun b o e n hx => ?_, fun b o e hx => ?_, fun b xs e => tups b xs (I.base.tups b xs e), fun b o xs e => frzs b o xs (I.base.frzs b o xs e), fun b ps e => ?_⟩, ?_, fun x c e => ?_, ?_, fun x c e => ?_, fun p hp => ?_, hok, I.len⟩
 ·exact keep b o (neL b o e) hb (neC b o e hx) (I.base.keep b o e n hb hx) (I.base.free b o e n hx)
 ·obtain ⟨sl, e1⟩ := I.base.slot b o e n hb hx
  obtain ⟨sl', e2⟩ := slot b _ (neL b o e) hb (neC b o e hx) e1 (I.base.free b o e n hx)
  exact ⟨sl', e2⟩
 ·obtain ⟨o', e1⟩ := I.base.there b o e hx
  exact free b o' (neC b o e hx) e1 (I.base.free b o e n hx)
 ·obtain ⟨o', e1⟩ := I.base.there b o e hx
  exact there b o' (neC b o e hx) e1
 ·obtain ⟨m1, e1⟩ := I.base.tbls b ps e
  obtain ⟨m2, e2⟩ := tbls b _ e1
  exact ⟨m1 ++ m2, by rw [e2, Array.append_assoc]⟩
 ·obtain ⟨m, hn, hl⟩ := I.loc
  refine ⟨m, ns m hn, fun i x v e1 e2 e3 => ?_⟩
  obtain ⟨u, r, l⟩ := hl i x v e1 e2 e3
  refine ⟨u, r, ?_⟩
  rcases l with l | ⟨k, c, e, z⟩
  ·exact .inl l
  ·exact .inr ⟨k, c, e, cellK x c e _ z⟩
 ·obtain ⟨v, z⟩ := I.cell x c e
  exact ⟨v, cellK x c e v z⟩
 ·obtain ⟨m, ⟨o, _, _, ho, _⟩, _⟩ := I.loc
  exact free _ o (fun z => (hch _ z).2.1 rfl) ho I.free
 ·obtain ⟨v, o, ho, hd⟩ := I.cell x c e
  exact free c o (fun z => (hch c z).2.2.1 x c e rfl) ho (I.freeC x c e)
 ·obtain ⟨e, n, ne, nf, d⟩ := I.pin p hp
  have nch : p.1 ∉ ch := fun z => (hch p.1 z).2.2.2 p hp rfl
  exact ⟨keep p.1 p.2 ne nf nch e n, free p.1 p.2 nch e n, ne, nf, d⟩
theorem Inv.un {t' : Nat} (I : Inv X pins σ H s) (u : Un X.fs [] H H' s.heap h') (hok : HOk X.prog X.w H' h') : Inv X pins σ H' { s with heap := h', toks := t' } := by
 obtain ⟨m, ⟨o, es, ep, ho, r⟩, _⟩ := id I.loc
 obtain ⟨sl, hL⟩ := u.any ho I.free (by simp)
 exact I.step (g' := s.gens) (d' := s.drawn) (ch := []) (fun _ z => nomatch z) (fun b o _ hb _ e n => u.keep b o e n hb (by simp)) (fun b o _ hb _ e n => u.slot b o e n hb (by simp)) (fun b o _ e n => u.free b o e n (by simp)) (fun b o _ e => u.there b o e (by simp)) u.tups u.frzs u.tbls (fun m' hm => by
  obtain ⟨o', es', ep', ho', r'⟩ := hm
  rw [ho] at ho'; cases ho'
  exact ⟨_, es', ep', hL, r'⟩) hok I.bare
theorem Inv.call {g' : Array GenState} {t' : Nat} {d' : Drawn} {ch : List Addr} (I : Inv X pins σ H s) (u : Un (frs X.stack) ch H H' s.heap h') (hok : HOk X.prog X.w H' h') (hg : AllBare g')
  (hch : ∀ b ∈ ch, (b ∈ X.ex ∨ X.s₀.heap.objs.size <= b) /\ b ≠ X.env.locals /\ (∀ x c, X.env.cells.lookup x = some c -> c ≠ b) /\ ∀ p ∈ X.pn ++ pins, p.1 ≠ b) :
  Inv X pins σ H' { s with heap := h', gens := g', drawn := d', toks := t' } := by
 obtain ⟨m, ⟨o, es, ep, ho, r⟩, _⟩ := id I.loc
 obtain ⟨sl, hL⟩ := u.any ho I.free fun z => (hch _ z).2.1 rfl
 exact I.step (ch := ch) hch (fun b o hL hb hc e n => u.keep b o e n (fun z => (List.mem_cons.mp (I.stkSub b z)).elim hL hb) hc) (fun b o _ _ hc e n => u.any e n hc) (fun b o hc e n => u.free b o e n hc) (fun b o hc e => u.there b o e hc) u.tups u.frzs u.tbls (fun m' hm => by
  obtain ⟨o', es', ep', ho', r'⟩ := hm
  rw [ho] at ho'; cases ho'
  exact ⟨_, es', ep', hL, r'⟩) hok hg
theorem Inv.turned {t' : Nat} {it : Addr} (I : Inv X pins σ H s) (k : ∀ b o, b ≠ it -> s.heap.get? b = some o -> h'.get? b = some o) (hn : H it = none) (hL : it ≠ X.env.locals)
  (h1 : it ∈ X.ex ∨ X.s₀.heap.objs.size <= it) (h2 : ∀ x c, X.env.cells.lookup x = some c -> c ≠ it) (h3 : ∀ p ∈ X.pn ++ pins, p.1 ≠ it) : Inv X pins σ H { s with heap := h', toks := t' } := by
 have nit : ∀ b u, H b = some u -> b ≠ it := fun b u e z => by rw [z, hn] at e; cases e
 refine I.step (g' := s.gens) (d' := s.drawn) (ch := [it]) (fun b hb => ?_) (fun b o _ _ hc e _ => k b o (fun z => hc (by simp [z])) e) (fun b o _ _ hc e _ => ⟨o.slots, k b o (fun z => hc (by simp [z])) e⟩) (fun _ _ _ _ n => n)
  (fun b o hc e => ⟨o, k b o (fun z => hc (by simp [z])) e⟩) (fun _ _ e => e) (fun _ _ _ e => e) (fun b ps e => ⟨#[], by rw [e]; simp⟩) (fun m hm => ?_) (fun b u e => ?_) I.bare
 ·have e : b = it := by simpa using hb
  subst e
  exact ⟨h1, hL, h2, h3⟩
 ·obtain ⟨o, es, ep, ho, r⟩ := hm
  exact ⟨o, es, ep, k _ o (Ne.symm hL) ho, r⟩
 ·refine (I.hok b u e).stay (fun c v hc q => k c v ?_ q) (fun _ q => q) fun _ _ q => q
  rcases hc with z | z
  ·rw [z]; exact nit b u e
  ·exact nit c _ z
theorem Inv.tok (I : Inv X pins σ H s) (t : Nat) : Inv X pins σ H { s with toks := t } := I.un (h' := s.heap) (t' := t) Un.refl I.hok
theorem Inv.kept {t' : Nat} (I : Inv X pins σ H s) (k : ∀ b u, s.heap.get? b = some u -> h'.get? b = some u) : Inv X pins σ H { s with heap := h', toks := t' } := I.un (Un.kept k) (I.hok.kept k)
theorem Inv.laid {a : Addr} {o : HO} {t' : Nat} (I : Inv X pins σ H s) (k : ∀ b u, s.heap.get? b = some u -> h'.get? b = some u) (hp : s.heap.objs.size <= a) (new : ObjOk X.prog X.w (upd H a o) h' a o) :
  Inv X pins σ (upd H a o) { s with heap := h', toks := t' } := I.un (Un.laid k hp (I.hok.fresh hp)) (I.hok.laid k hp new)
theorem Inv.write {x e : Addr} {o : HO} {t' : Nat} (I : Inv X pins σ H s) (mu : Mut (H x)) (he : e = x ∨ H e = some (.own x)) (k : ∀ b u, b ≠ e -> s.heap.get? b = some u -> h'.get? b = some u) (heo : ∃ u, h'.get? e = some u)
  (new : ObjOk X.prog X.w (upd H x o) h' x o) : Inv X pins σ (upd H x o) { s with heap := h', toks := t' } := I.un (Un.write mu he k heo) (I.hok.write mu he k heo new)
theorem Inv.pins_of {pins' : List (Addr × Obj)} (I : Inv X pins σ H s) (h : ∀ p ∈ pins', s.heap.get? p.1 = some p.2 /\ H p.1 = none /\ p.1 ≠ X.env.locals /\ p.1 ∉ X.fs /\ ∀ v, p.2.data ≠ .cell v) : Inv X pins' σ H s :=
 ⟨I.ok, I.os, I.bare, I.base, I.loc, I.cell, I.free, I.freeC, fun p hp => (List.mem_append.mp hp).elim (fun z => I.pin p (List.mem_append_left _ z)) (h p), I.hok, I.len⟩
theorem nodup_ix {N : List Str} (hN : N.Nodup) {i j : Nat} {x : Str} (a : N[i]? = some x) (b : N[j]? = some x) : i = j := by
 obtain ⟨h1, e1⟩ := List.getElem?_eq_some_iff.mp a
 obtain ⟨h2, e2⟩ := List.getElem?_eq_some_iff.mp b
 exact (List.getElem_inj hN).mp (e1.trans e2.symm)
theorem store_ok2 {M : Model} {A : Around} {E : Value -> Shared -> Prop} {i : Nat} {x : Str} {v : V} {u : Value} {Q : Unit -> Shared -> Prop} (I : Inv X pins σ H s) (hN : X.N.Nodup) (hi : X.N[i]? = some x) (hx : Loc X.env.scope x) (r : RelV v u)
  (h : ∀ s', Inv X pins (σ.set i (some v)) H s' -> (∃ a, Heap.SameBut a s.heap s'.heap /\ (a = X.env.locals ∨ X.env.cells.lookup x = some a)) -> Q () s') (hf : X.fn x = true ∨ X.env.scope.names.lookup x = some .local := by first | exact .inl rfl | exact .inr rfl | assumption) : wpAny M A (storeName X.env x u) Q E s := by
 obtain ⟨m, hn, hl⟩ := id I.loc
 have hcls : (X.env.scope.kind == .class || (X.env.scope.kind == .module && X.env.locals != X.env.globals)) = false := by rw [I.ok.kind]; rfl
 have hiσ : i < σ.length := by rw [I.len]; exact (List.getElem?_eq_some_iff.mp hi).1
 have cne := I.cne
 have tracked : ∀ {a : Addr} {h' : Heap}, (∃ o, s.heap.get? a = some o /\ H a = none) -> Heap.SameBut a s.heap h' -> HOk X.prog X.w H h' := fun {a h'} ha hs b ob e => by
  obtain ⟨_, _, hfree⟩ := ha
  refine (I.hok b ob e).stay (fun c w' hc q => (hs.2 c ?_).trans q) (fun _ q => q) fun _ _ q => q
  rintro rfl
  rcases hc with rfl | hc
  ·rw [hfree] at e; cases e
  ·rw [hfree] at hc; cases hc
 rcases hx with hk | hk
 ·refine wpAny_storeName_local hk hn (fun h' hn' hs => ?_) hcls
  obtain ⟨oL, _, _, hoL, _⟩ := id hn
  refine h _ ⟨I.ok, I.os, I.bare, ⟨fun b o e n hb hx => ?_, fun b o e n hb hx => ?_, I.base.free, fun b o e hx => ?_, I.base.tups, I.base.frzs, I.base.tbls⟩, ⟨_, hn', fun j y v' e1 e2 e3 => ?_⟩, fun y c e => ?_, I.free, I.freeC, fun p hp => ?_, tracked ⟨oL, hoL, I.free⟩ hs, by simpa using I.len⟩ ⟨_, hs, .inl rfl⟩
  ·exact (hs.2 b (Nat.ne_of_lt (Nat.lt_of_lt_of_le (Heap.lt_size e) I.ok.above))).trans (I.base.keep b o e n hb hx)
  ·obtain ⟨sl, e1⟩ := I.base.slot b o e n hb hx
   exact ⟨sl, (hs.2 b (Nat.ne_of_lt (Nat.lt_of_lt_of_le (Heap.lt_size e) I.ok.above))).trans e1⟩
  ·obtain ⟨o', e1⟩ := I.base.there b o e hx
   exact ⟨o', (hs.2 b (Nat.ne_of_lt (Nat.lt_of_lt_of_le (Heap.lt_size e) I.ok.above))).trans e1⟩
  ·by_cases hj : j = i
   ·subst hj
    rw [hi] at e1; cases e1
    rw [List.getElem?_set_self hiσ] at e2
    cases e2
    exact ⟨u, r, .inl ⟨hk, by simp⟩⟩
   ·rw [List.getElem?_set_ne (Ne.symm hj)] at e2
    obtain ⟨u', r', q⟩ := hl j y v' e1 e2 e3
    refine ⟨u', r', ?_⟩
    rcases q with ⟨k, e⟩ | ⟨k, c, e, z⟩
    ·refine .inl ⟨k, ?_⟩
     have : y ≠ x := fun e => hj (nodup_ix hN e1 (e ▸ hi))
     simp [this, e]
    ·exact .inr ⟨k, c, e, z.sameBut hs (cne y c e)⟩
  ·obtain ⟨w', z⟩ := I.cell y c e
   exact ⟨w', z.sameBut hs (cne y c e)⟩
  ·obtain ⟨e, n, ne, nf, d⟩ := I.pin p hp
   exact ⟨(hs.2 p.1 ne).trans e, n, ne, nf, d⟩
 ·have hfn : X.fn x = true := by
   rcases hf with z | z
   ·exact z
   ·rw [z] at hk; cases hk
  obtain ⟨c, hc⟩ := I.ok.has x (.inl hk)
  obtain ⟨w', z⟩ := I.cell x c hc
  refine wpAny_storeName_cell I.ok.kind hk hc z (fun h' hc' hs => ?_)
  obtain ⟨oc, hoc, hocd⟩ := id z
  refine h { s with heap := h' } ⟨I.ok, I.os, I.bare, ⟨fun b o e n hb hx => ?_, fun b o e n hb hx => ?_, I.base.free, fun b o e hx => ?_, I.base.tups, I.base.frzs, I.base.tbls⟩, ⟨m, hn.sameBut hs (Ne.symm (cne x c hc)), fun j y v' e1 e2 e3 => ?_⟩, fun y c' e => ?_, I.free, I.freeC, fun p hp => ?_, tracked ⟨oc, hoc, I.freeC x c hc⟩ hs, by simpa using I.len⟩ ⟨c, hs, .inr hc⟩
  ·exact (hs.2 b (Nat.ne_of_lt (Nat.lt_of_lt_of_le (Heap.lt_size e) (I.ok.cab x c hfn hc)))).trans (I.base.keep b o e n hb hx)
  ·obtain ⟨sl, e1⟩ := I.base.slot b o e n hb hx
   exact ⟨sl, (hs.2 b (Nat.ne_of_lt (Nat.lt_of_lt_of_le (Heap.lt_size e) (I.ok.cab x c hfn hc)))).trans e1⟩
  ·obtain ⟨o', e1⟩ := I.base.there b o e hx
   exact ⟨o', (hs.2 b (Nat.ne_of_lt (Nat.lt_of_lt_of_le (Heap.lt_size e) (I.ok.cab x c hfn hc)))).trans e1⟩
  ·by_cases hj : j = i
   ·subst hj
    rw [hi] at e1; cases e1
    rw [List.getElem?_set_self hiσ] at e2
    cases e2
    exact ⟨u, r, .inr ⟨.inl hk, c, hc, hc'⟩⟩
   ·rw [List.getElem?_set_ne (Ne.symm hj)] at e2
    obtain ⟨u', r', q⟩ := hl j y v' e1 e2 e3
    refine ⟨u', r', ?_⟩
    rcases q with q | ⟨k, c', e, z'⟩
    ·exact .inl q
    ·refine .inr ⟨k, c', e, z'.sameBut hs ?_⟩
     rintro rfl
     exact hj (nodup_ix hN e1 (I.ok.inj _ _ _ e hc ▸ hi))
  ·by_cases hcc : c' = c
   ·subst hcc; exact ⟨_, hc'⟩
   ·obtain ⟨w2, z2⟩ := I.cell y c' e
    exact ⟨w2, z2.sameBut hs hcc⟩
  ·obtain ⟨e, n, ne, nf, d⟩ := I.pin p hp
   refine ⟨(hs.2 p.1 ?_).trans e, n, ne, nf, d⟩
   intro q
   rw [q, hoc] at e
   have q' : oc = p.2 := Option.some.inj e
   exact d w' (by rw [<- q']; exact hocd)
theorem store_ok {M : Model} {A : Around} {E : Value -> Shared -> Prop} {i : Nat} {x : Str} {v : V} {u : Value} {Q : Unit -> Shared -> Prop} (I : Inv X pins σ H s) (hN : X.N.Nodup) (hi : X.N[i]? = some x) (hx : Loc X.env.scope x) (r : RelV v u)
  (h : ∀ s', Inv X pins (σ.set i (some v)) H s' -> Q () s') (hf : X.fn x = true ∨ X.env.scope.names.lookup x = some .local := by first | exact .inl rfl | exact .inr rfl | assumption) : wpAny M A (storeName X.env x u) Q E s :=
 store_ok2 I hN hi hx r (fun s' I' _ => h s' I') hf
theorem Inv.call' {s' : Shared} {ch : List Addr} (I : Inv X pins σ H s) (ho : s'.os = s.os) (u : Un (frs X.stack) ch H H' s.heap s'.heap) (hok : HOk X.prog X.w H' s'.heap) (hg : AllBare s'.gens)
  (hch : ∀ b ∈ ch, (b ∈ X.ex ∨ X.s₀.heap.objs.size <= b) /\ b ≠ X.env.locals /\ (∀ x c, X.env.cells.lookup x = some c -> c ≠ b) /\ ∀ p ∈ X.pn ++ pins, p.1 ≠ b) : Inv X pins σ H' s' := by
 obtain ⟨h', g', d', t', o'⟩ := s'
 have e : o' = s.os := ho
 subst e
 exact I.call (g' := g') (t' := t') (d' := d') u hok hg hch
end
abbrev XK := Value -> Option Addr -> Hp -> Prop
abbrev St := List (Option V)
abbrev VK := V -> Hp -> Prop
abbrev TE := St -> Hp -> VK -> Prop
abbrev TT := St -> Hp -> (Bool -> Hp -> Prop) -> Prop
abbrev TA := St -> Hp -> (List V -> Hp -> Prop) -> Prop
structure Ends where
 nx : St -> Hp -> Prop
 rt : VK
 bk : St -> Hp -> Prop := fun _ _ => False
 ct : St -> Hp -> Prop := fun _ _ => False
abbrev TS := Ends -> St -> Hp -> Prop
def EP (X : Cx) (pins : List (Addr × Obj)) (σ : St) (Q : VK) (u : Value) (s' : Shared) : Prop := ∃ v H', Inv X pins σ H' s' /\ RelV v u /\ Q v H'
def TP (X : Cx) (pins : List (Addr × Obj)) (σ : St) (Q : Bool -> Hp -> Prop) (b : Bool) (s' : Shared) : Prop := ∃ H', Inv X pins σ H' s' /\ Q b H'
def AP (X : Cx) (pins : List (Addr × Obj)) (σ : St) (Q : List V -> Hp -> Prop) (us : List Value) (s' : Shared) : Prop := ∃ vs H', Inv X pins σ H' s' /\ Vals vs us /\ Q vs H'
def SP (X : Cx) (pins : List (Addr × Obj)) (D : Ends) (f : Flow) (s' : Shared) : Prop :=
 match f with
 | .next => ∃ σ' H', Inv X pins σ' H' s' /\ D.nx σ' H'
 | .brk => ∃ σ' H', Inv X pins σ' H' s' /\ D.bk σ' H'
 | .cont => ∃ σ' H', Inv X pins σ' H' s' /\ D.ct σ' H'
 | .ret u => ∃ v σ' H', Inv X pins σ' H' s' /\ RelV v u /\ D.rt v H'
def PE (X : Cx) (e : Expr) (t : TE) : Prop :=
 ∀ (pins : List (Addr × Obj)) (s : Shared) (σ : St) (H : Hp) (Q : VK), Inv X pins σ H s -> t σ H Q -> wpAny (model X.prog X.w) X.A (eval e X.env) (EP X pins σ Q) X.xe s
def PT (X : Cx) (e : Expr) (t : TT) : Prop :=
 ∀ (pins : List (Addr × Obj)) (s : Shared) (σ : St) (H : Hp) (Q : Bool -> Hp -> Prop), Inv X pins σ H s -> t σ H Q -> wpAny (model X.prog X.w) X.A (isTrue e X.env (eval e X.env)) (TP X pins σ Q) X.xe s
def PW (X : Cx) (e : Expr) (t : TT) : Prop :=
 ∀ (whole : Sem Value) (pins : List (Addr × Obj)) (s : Shared) (σ : St) (H : Hp) (Q : Bool -> Hp -> Prop), Inv X pins σ H s -> t σ H Q -> wpAny (model X.prog X.w) X.A (isTrue e X.env whole) (TP X pins σ Q) X.xe s
theorem PW.pt {X : Cx} {e : Expr} {t : TT} (h : PW X e t) : PT X e t := h _
def PA (X : Cx) (es : List Expr) (t : TA) : Prop :=
 ∀ (pos : Pos) (pins : List (Addr × Obj)) (s : Shared) (σ : St) (H : Hp) (Q : List V -> Hp -> Prop), Inv X pins σ H s -> t σ H Q -> wpAny (model X.prog X.w) X.A (spliced (backTo pos (starEach es X.env))) (AP X pins σ Q) X.xe s
def PS (X : Cx) (st : Stmt) (t : TS) : Prop :=
 ∀ (pins : List (Addr × Obj)) (s : Shared) (σ : St) (H : Hp) (D : Ends), Inv X pins σ H s -> t D σ H -> wpAny (model X.prog X.w) X.A (exec st X.env) (SP X pins D) X.xe s
def PSs (X : Cx) (st : List Stmt) (t : TS) : Prop :=
 ∀ (pins : List (Addr × Obj)) (s : Shared) (σ : St) (H : Hp) (D : Ends), Inv X pins σ H s -> t D σ H -> wpAny (model X.prog X.w) X.A (execs st X.env) (SP X pins D) X.xe s
theorem thn {α : Type} {t : Sem α} {Q Q' : α -> Shared -> Prop} {M : Model} {A : Around} {E : Value -> Shared -> Prop} {s : Shared} (h : wpAny M A t Q E s) (hQ : ∀ a s, Q a s -> Q' a s) : wpAny M A t Q' E s := wpAny_mono h hQ fun _ _ x => x
end L2
namespace L2
open PySem PySem.Spec PyProof.Rows
section
variable {X : Cx}
def tVar (i : Nat) : TE := fun σ H Q => ∃ v, σ[i]? = some (some v) /\ Q v H
def tC (v : V) : TE := fun _ H Q => Q v H
theorem pe_var {i : Nat} {x : Str} {pos : Pos} (hN : X.N[i]? = some x) (hv : Vis X.env.scope x) (hd : (x == ("__debug__" : Str)) = false := by decide) (hcd : (x == ("__classdict__" : Str)) = false := by decide) : PE X (.Name x pos) (tVar i) := by
 intro pins s σ H Q I h
 obtain ⟨v, e, h⟩ := h
 obtain ⟨m, hn, hl⟩ := I.loc
 obtain ⟨u, r, l⟩ := hl i x v hN e hv
 have fin : EP X pins σ Q u s := ⟨v, H, I, r, h⟩
 rcases l with ⟨hk, hm⟩ | ⟨hk, c, hc, hcell⟩
 ·exact wpAny_Name (wpAny_loadName_local I.ok.kind hk hn hm fin) hd
 ·rcases hk with hk | hk
  ·exact wpAny_Name (wpAny_loadName_cell I.ok.kind hk hc hcell fin) hd
  ·exact wpAny_Name (wpAny_loadName_free I.ok.kind hk hc hcell fin hcd) hd
theorem pe_int {i j pos} : PE X (.Constant (.int i) j pos) (tC (.int i)) := fun _ _ _ H _ I h => wpAny_Constant_int ⟨.int i, H, I.tok _, ⟨_, rfl⟩, h⟩
theorem pe_bl {b j pos} : PE X (.Constant (.bool b) j pos) (tC (.bl b)) := fun _ _ _ H _ I h => Constant_bool ⟨.bl b, H, I, rfl, h⟩
theorem pe_str {x j pos} : PE X (.Constant (.str x) j pos) (tC (.str x)) := fun _ _ _ H _ I h => Calls.Constant_str ⟨.str x, H, I.tok _, ⟨_, rfl⟩, h⟩
def Gl (X : Cx) (x : Str) : Prop := X.env.kindOf x = some .globalImplicit
theorem ld_glob {E : Value -> Shared -> Prop} {pins : List (Addr × Obj)} {s : Shared} {σ : St} {H : Hp} {x : Str} {u : Value} {pos : Pos} {Q : Value -> Shared -> Prop} (I : Inv X pins σ H s) (hg : Gl X x) (hm : X.mg x = some u) (h : Q u s)
  (hd : (x == ("__debug__" : Str)) = false := by decide) : wpAny (model X.prog X.w) X.A (eval (.Name x pos) X.env) Q E s :=
 Calls.Name_function_global I.ok.kind hg (Calls.loadGlobal_global (by rw [I.ok.glob]; exact I.mod.glob.keeps I.bk) hm h) hd
theorem ld_blt {E : Value -> Shared -> Prop} {pins : List (Addr × Obj)} {s : Shared} {σ : St} {H : Hp} {x : Str} {u : Value} {pos : Pos} {Q : Value -> Shared -> Prop} (I : Inv X pins σ H s) (hg : Gl X x) (hm : X.mg x = none) (hv : bootBuiltins x = some u) (h : Q u s)
  (hn : x ≠ "__name__" := by decide) (hd : (x == ("__debug__" : Str)) = false := by decide) : wpAny (model X.prog X.w) X.A (eval (.Name x pos) X.env) Q E s := by
 obtain ⟨mb, h1, h2⟩ := I.mod.blt
 exact Calls.Name_function_global I.ok.kind hg (Calls.loadGlobal_builtin (by rw [I.ok.glob]; exact I.mod.glob.keeps I.bk) hm (by rw [I.ok.blt]; exact h1.keeps I.bk) ((h2 x hn).trans hv) h) hd
theorem pe_glob {x : Str} {v : V} {u : Value} {pos : Pos} (hg : Gl X x) (hm : X.mg x = some u) (r : RelV v u) (hd : (x == ("__debug__" : Str)) = false := by decide) : PE X (.Name x pos) (tC v) :=
 fun _ _ _ H _ I h => ld_glob I hg hm ⟨v, H, I, r, h⟩ hd
theorem pe_bltn {x : Str} {v : V} {u : Value} {pos : Pos} (hg : Gl X x) (hm : X.mg x = none) (hv : bootBuiltins x = some u) (r : RelV v u) (hn : x ≠ "__name__" := by decide) (hd : (x == ("__debug__" : Str)) = false := by decide) : PE X (.Name x pos) (tC v) :=
 fun _ _ _ H _ I h => ld_blt I hg hm hv ⟨v, H, I, r, h⟩ hn hd
variable {a b : Expr} {ta tb : TE} {pos : Pos}
def PC (X : Cx) (op : CmpOp) (a b : Expr) (t : TE) : Prop :=
 ∀ (pins : List (Addr × Obj)) (s : Shared) (σ : St) (H : Hp) (Q : VK), Inv X pins σ H s -> t σ H Q ->
  wpAny (model X.prog X.w) X.A (eval a X.env) (fun v s₁ => wpAny (model X.prog X.w) X.A (eval b X.env) (fun u s₂ => wpAny (model X.prog X.w) X.A (compareOp op v u) (EP X pins σ Q) X.xe s₂) X.xe s₁) X.xe s
theorem nobehind (b : Expr) {op : CmpOp} (h : op ≠ .In) (h2 : op ≠ .NotIn) : behindInMarks op b = false := by
 have e1 : (op == CmpOp.In) = false := by cases op <;> first | rfl | exact absurd rfl h
 have e2 : (op == CmpOp.NotIn) = false := by cases op <;> first | rfl | exact absurd rfl h2
 cases b <;> simp [behindInMarks, e1, e2]
def tIsN (ta : TE) : TE := fun σ H Q => ta σ H fun x H1 => Q (.bl (decide (x = .non))) H1
theorem RelV.none_iff {x : V} {v : Value} (r : RelV x v) : (v == Value.none) = decide (x = .non) := by
 cases x with
 | non => cases r; rfl
 | bl _ => cases r; rfl
 | int _ => obtain ⟨t, rfl⟩ := r; rfl
 | str _ => obtain ⟨t, rfl⟩ := r; rfl
 | byt _ => obtain ⟨t, rfl⟩ := r; rfl
 | flt _ => obtain ⟨t, rfl⟩ := r; rfl
 | ref _ => cases r; rfl
 | ty _ => cases r; rfl
theorem pc_isN {j pos'} (ha : PE X a ta) : PC X .Is a (.Constant .none j pos') (tIsN ta) := by
 intro pins s σ H Q I h
 refine thn (ha pins s σ H _ I h) fun v s1 ⟨x, H1, I1, r1, q1⟩ => ?_
 exact Constant_none (is_none_gen ⟨.bl _, H1, I1, by rw [r1.none_iff]; rfl, q1⟩)
def tB (t : TE) : TT := fun σ H Q => t σ H fun x H1 => ∃ c, x = .bl c /\ Q c H1
theorem pe_cmp {op : CmpOp} {t : TE} (h : PC X op a b t) (h1 : behindInMarks op b = false := by first | exact nobehind _ (by decide) (by decide) | rfl) : PE X (.Compare a [op] [b] pos) t := fun pins s σ H Q I hw => wpAny_Compare1 (h pins s σ H Q I hw) h1
theorem pt_cmp {op : CmpOp} {t : TE} (h : PC X op a b t) (h1 : behindInMarks op b = false := by first | exact nobehind _ (by decide) (by decide) | rfl) : PT X (.Compare a [op] [b] pos) (tB t) := by
 intro pins s σ H Q I hw
 refine wpAny_isTrue_Compare1 (thn (h pins s σ H _ I hw) fun v s1 h1 => thn h1 fun u s2 h2 => thn h2 fun c s3 ⟨x, H1, I1, r1, q1⟩ => ?_) h1
 obtain ⟨d, rfl, q⟩ := q1
 cases r1
 exact wpAny_truthy_bool ⟨H1, I1, q⟩
theorem pt_val {e : Expr} {t : TE} (h : PE X e t) (he : ∀ whole, isTrue e X.env whole = (do let v <- whole; standAt e.pos; holding [v] (truthy v)) := by intro _; rfl) : PT X e (tB t) := by
 intro pins s σ H Q I hw
 refine isTrue_plain (thn (h pins s σ H _ I hw) fun v s1 ⟨x, H1, I1, r1, q1⟩ => ?_) (he _)
 obtain ⟨d, rfl, q⟩ := q1
 cases r1
 exact wpAny_truthy_bool ⟨H1, I1, q⟩
variable {tA tB' : TT} {rest : List Expr}
def tAnd (t u : TT) : TT := fun σ H Q => t σ H fun c H1 => if c = true then u σ H1 Q else Q false H1
def tOr (t u : TT) : TT := fun σ H Q => t σ H fun c H1 => if c = true then Q true H1 else u σ H1 Q
def tNot (t : TT) : TT := fun σ H Q => t σ H fun c H1 => Q (!c) H1
theorem pw_and1 (ha : PT X a tA) : PW X (.BoolOp .And [a] pos) tA := by
 intro wh pins s σ H Q I h
 refine isTrue_and (thn (ha pins s σ H Q I h) fun c s1 e => ?_)
 cases c with
 | true => exact isTrue_and_nil e
 | false => exact e
theorem pw_or1 (ha : PT X a tA) : PW X (.BoolOp .Or [a] pos) tA := by
 intro wh pins s σ H Q I h
 refine isTrue_or (thn (ha pins s σ H Q I h) fun c s1 e => ?_)
 cases c with
 | false => exact isTrue_or_nil e
 | true => exact e
theorem pw_and (ha : PT X a tA) (hb : PW X (.BoolOp .And (b :: rest) pos) tB') : PW X (.BoolOp .And (a :: b :: rest) pos) (tAnd tA tB') := by
 intro wh pins s σ H Q I h
 refine isTrue_and (thn (ha pins s σ H _ I h) fun c s1 ⟨H1, I1, q1⟩ => ?_)
 cases c with
 | true => exact hb wh pins s1 σ H1 Q I1 q1
 | false => exact ⟨H1, I1, q1⟩
theorem pw_or (ha : PT X a tA) (hb : PW X (.BoolOp .Or (b :: rest) pos) tB') : PW X (.BoolOp .Or (a :: b :: rest) pos) (tOr tA tB') := by
 intro wh pins s σ H Q I h
 refine isTrue_or (thn (ha pins s σ H _ I h) fun c s1 ⟨H1, I1, q1⟩ => ?_)
 cases c with
 | true => exact ⟨H1, I1, q1⟩
 | false => exact hb wh pins s1 σ H1 Q I1 q1
theorem pt_not (ha : PT X a tA) : PT X (.UnaryOp .Not a pos) (tNot tA) := by
 intro pins s σ H Q I h
 exact isTrue_not (ha pins s σ H (fun c H1 => Q (!c) H1) I h)
def tAndV (ta tb : TE) : TE := fun σ H Q => ta σ H fun x H1 => ∃ c, x = .bl c /\ if c = true then tb σ H1 Q else Q (.bl false) H1
def tOrV (ta tb : TE) : TE := fun σ H Q => ta σ H fun x H1 => ∃ c, x = .bl c /\ if c = true then Q (.bl true) H1 else tb σ H1 Q
def tNotV (ta : TE) : TE := fun σ H Q => ta σ H fun x H1 => ∃ c, x = .bl c /\ Q (.bl (!c)) H1
theorem pe_one {op} {t : TE} (h : PE X a t) : PE X (.BoolOp op [a] pos) t := fun pins s σ H Q I hw => BoolOp_one (h pins s σ H Q I hw)
theorem pe_and (ha : PE X a ta) (hb : PE X (.BoolOp .And (b :: rest) pos) tb) : PE X (.BoolOp .And (a :: b :: rest) pos) (tAndV ta tb) := by
 intro pins s σ H Q I h
 refine BoolOp_and (thn (ha pins s σ H _ I h) fun v s1 ⟨x, H1, I1, r1, q1⟩ => ?_)
 obtain ⟨c, rfl, q1⟩ := q1
 cases r1
 refine wpAny_truthy_bool ?_
 cases c with
 | true => exact hb pins s1 σ H1 Q I1 q1
 | false => exact ⟨.bl false, H1, I1, rfl, q1⟩
theorem pe_or (ha : PE X a ta) (hb : PE X (.BoolOp .Or (b :: rest) pos) tb) : PE X (.BoolOp .Or (a :: b :: rest) pos) (tOrV ta tb) := by
 intro pins s σ H Q I h
 refine BoolOp_or (thn (ha pins s σ H _ I h) fun v s1 ⟨x, H1, I1, r1, q1⟩ => ?_)
 obtain ⟨c, rfl, q1⟩ := q1
 cases r1
 refine wpAny_truthy_bool ?_
 cases c with
 | false => exact hb pins s1 σ H1 Q I1 q1
 | true => exact ⟨.bl true, H1, I1, rfl, q1⟩
theorem pe_not (ha : PE X a ta) : PE X (.UnaryOp .Not a pos) (tNotV ta) := by
 intro pins s σ H Q I h
 refine UnaryOp_ (thn (ha pins s σ H _ I h) fun v s1 ⟨x, H1, I1, r1, q1⟩ => ?_)
 obtain ⟨c, rfl, q1⟩ := q1
 cases r1
 exact not_of (wpAny_truthy_bool ⟨.bl (!c), H1, I1, rfl, q1⟩)
def tIf (t : TT) (ta tb : TE) : TE := fun σ H Q => t σ H fun c H1 => if c = true then ta σ H1 Q else tb σ H1 Q
theorem pe_ifExp {c : Expr} (hc : PT X c tA) (ha : PE X a ta) (hb : PE X b tb) : PE X (.IfExp c a b pos) (tIf tA ta tb) := by
 intro pins s σ H Q I h
 refine wpAny_IfExp (thn (hc pins s σ H _ I h) fun d s1 ⟨H1, I1, q1⟩ => ?_)
 cases d with
 | true => exact ha pins s1 σ H1 Q I1 q1
 | false => exact hb pins s1 σ H1 Q I1 q1
end
end L2
namespace L2
open PySem PySem.Spec PyProof.Rows
def SqL (K : PySem.W.Frag) (H : Hp) (a : Addr) (xs : List V) : Prop :=
 Rd H a (.lst xs) ∨
  ∃ (o : Obj) (its : Array Value) (n : Nat), K.lookup a = some o /\ o.cls = .type "list" /\ o.dict = none /\ o.data = .seq its n /\ its.size <= sizeLine /\ Vals xs its.toList
def SqT (K : PySem.W.Frag) (H : Hp) (a : Addr) (xs : List V) : Prop :=
 Rd H a (.tup xs) ∨
  ∃ (o : Obj) (its : Array Value) (n : Nat), K.lookup a = some o /\ o.cls = .type "tuple" /\ o.data = .seq its n /\ its.size <= sizeLine /\ Vals xs its.toList
def absV : Value -> Option V
 | .none => some .non
 | .bool b => some (.bl b)
 | .int i _ => some (.int i)
 | .str x _ => some (.str x)
 | .bytes b _ => some (.byt b)
 | .float b _ => some (.flt b)
 | .ref a => some (.ref a)
 | .type n => some (.ty n)
 | _ => none
theorem RelV.abs {x : V} {u : Value} (r : RelV x u) : absV u = some x := by
 cases x with
 | non => cases r; rfl
 | bl _ => cases r; rfl
 | int _ => obtain ⟨t, rfl⟩ := r; rfl
 | str _ => obtain ⟨t, rfl⟩ := r; rfl
 | byt _ => obtain ⟨t, rfl⟩ := r; rfl
 | flt _ => obtain ⟨t, rfl⟩ := r; rfl
 | ref _ => cases r; rfl
 | ty _ => cases r; rfl
theorem RelV.inj {x y : V} {u : Value} (r : RelV x u) (q : RelV y u) : x = y := Option.some.inj (r.abs.symm.trans q.abs)
theorem Vals.inj : ∀ {xs ys : List V} {us : List Value}, Vals xs us -> Vals ys us -> xs = ys
 | _, _, _, .nil, .nil => rfl
 | _, _, _, .cons r t, .cons r' t' => by rw [r.inj r', Vals.inj t t']
section
variable {X : Cx} {pins : List (Addr × Obj)} {σ : St} {H : Hp} {s : Shared} {a : Addr} {xs ys : List V}
theorem SqL.of {K : PySem.W.Frag} (h : H a = some (.lst xs)) : SqL K H a xs := .inl (.inl h)
theorem SqT.of {K : PySem.W.Frag} (h : H a = some (.tup xs)) : SqT K H a xs := .inl (.inl h)
theorem Inv.list (I : Inv X pins σ H s) (h : SqL X.K H a xs) : ∃ its : List Value, Vals xs its /\ PlainL s.heap a its.toArray /\ xs.length <= sizeLine := by
 rcases h with h | ⟨o, its, n, hk, hc, hd, hs, hz, r⟩
 ·obtain ⟨z, its, n, r, e⟩ := h.ok I.hok
  exact ⟨its, r, ⟨_, n, e, rfl, rfl, rfl⟩, z⟩
 ·refine ⟨its.toList, r, ⟨o, n, I.kIn a o hk, hc, hd, by simpa using hs⟩, ?_⟩
  have e := r.length
  simp only [Array.length_toList] at e
  omega
theorem Inv.tuple (I : Inv X pins σ H s) (h : SqT X.K H a xs) : ∃ its : List Value, Vals xs its /\ IsTup s.heap a its.toArray /\ xs.length <= sizeLine := by
 rcases h with h | ⟨o, its, n, hk, hc, hs, hz, r⟩
 ·obtain ⟨z, its, r, p, _⟩ := h.ok I.hok
  exact ⟨its, r, p, z⟩
 ·refine ⟨its.toList, r, ⟨o, I.kIn a o hk, hc, n, by simpa using hs⟩, ?_⟩
  have e := r.length
  simp only [Array.length_toList] at e
  omega
theorem Inv.list_inj (I : Inv X pins σ H s) (h : SqL X.K H a xs) (h' : SqL X.K H a ys) : xs = ys := by
 obtain ⟨its, r, ⟨o, n, e, _, _, d⟩, _⟩ := I.list h
 obtain ⟨its', r', ⟨o', n', e', _, _, d'⟩, _⟩ := I.list h'
 rw [e] at e'; cases e'
 rw [d] at d'
 injection d' with d1 _
 have : its = its' := by simpa using congrArg Array.toList d1
 subst this
 exact r.inj r'
theorem Inv.tuple_inj (I : Inv X pins σ H s) (h : SqT X.K H a xs) (h' : SqT X.K H a ys) : xs = ys := by
 obtain ⟨its, r, ⟨o, e, _, n, d⟩, _⟩ := I.tuple h
 obtain ⟨its', r', ⟨o', e', _, n', d'⟩, _⟩ := I.tuple h'
 rw [e] at e'; cases e'
 rw [d] at d'
 injection d' with d1 _
 have : its = its' := by simpa using congrArg Array.toList d1
 subst this
 exact r.inj r'
end
abbrev Cx.wish (X : Cx) (E : Value -> Shared -> Prop) : Cx := { X with xe := E }
abbrev Cx.nox (X : Cx) : Cx := X.wish fun _ _ => False
theorem Cx.Ok.wish {X : Cx} (ok : X.Ok) (E : Value -> Shared -> Prop) : (X.wish E).Ok :=
 ⟨ok.mod, ok.kind, ok.glob, ok.blt, ok.above, ok.inj, ok.has, ok.cab, ok.hd, ok.frames, ok.stk, ok.exf, ok.bs, ok.bsz, ok.noex, ok.exfs, ok.funs, ok.frf⟩
theorem Cx.Ok.unwish {X : Cx} {E : Value -> Shared -> Prop} (ok : (X.wish E).Ok) : X.Ok :=
 ⟨ok.mod, ok.kind, ok.glob, ok.blt, ok.above, ok.inj, ok.has, ok.cab, ok.hd, ok.frames, ok.stk, ok.exf, ok.bs, ok.bsz, ok.noex, ok.exfs, ok.funs, ok.frf⟩
section
variable {X : Cx} {pins : List (Addr × Obj)} {σ : St} {H : Hp} {s : Shared} {E : Value -> Shared -> Prop}
theorem Inv.wish (I : Inv X pins σ H s) (E : Value -> Shared -> Prop) : Inv (X.wish E) pins σ H s := ⟨I.ok.wish E, I.os, I.bare, I.base, I.loc, I.cell, I.free, I.freeC, I.pin, I.hok, I.len⟩
theorem Inv.unwish (I : Inv (X.wish E) pins σ H s) : Inv X pins σ H s := ⟨I.ok.unwish, I.os, I.bare, I.base, I.loc, I.cell, I.free, I.freeC, I.pin, I.hok, I.len⟩
theorem SP.unwish {D : Ends} {f : Flow} {s' : Shared} (h : SP (X.wish E) pins D f s') : SP X pins D f s' := by
 cases f with
 | next => obtain ⟨σ', H', I, q⟩ := h; exact ⟨σ', H', I.unwish, q⟩
 | brk => obtain ⟨σ', H', I, q⟩ := h; exact ⟨σ', H', I.unwish, q⟩
 | cont => obtain ⟨σ', H', I, q⟩ := h; exact ⟨σ', H', I.unwish, q⟩
 | ret u => obtain ⟨v, σ', H', I, r, q⟩ := h; exact ⟨v, σ', H', I.unwish, r, q⟩
theorem PSs.nox {st : List Stmt} {t : TS} (h : PSs X.nox st t) : PSs X st t := fun pins s σ H D I hw =>
 wpAny_mono (h pins s σ H D (I.wish _) hw) (fun _ _ q => q.unwish) fun _ _ z => False.elim z
end
section
variable {X : Cx} {st : Stmt} {rest : List Stmt} {t u : TS} {e : Expr} {te : TE} {pos : Pos}
def tNext : TS := fun D σ H => D.nx σ H
def tSeq (t u : TS) : TS := fun D σ H => t { D with nx := u D } σ H
theorem pss_nil : PSs X [] tNext := fun _ _ σ H _ I h => wpAny_execs_nil ⟨σ, H, I, h⟩
theorem pss_cons (h1 : PS X st t) (h2 : PSs X rest u) : PSs X (st :: rest) (tSeq t u) := by
 intro pins s σ H D I h
 refine wpAny_execs_cons (thn (h1 pins s σ H { D with nx := u D } I h) fun f s1 q => ?_)
 cases f with
 | next =>
  obtain ⟨σ', H', I', q⟩ := q
  exact h2 pins s1 σ' H' D I' q
 | ret v => exact q
 | brk => exact q
 | cont => exact q
theorem pss_one (h1 : PS X st t) : PSs X [st] t := by
 intro pins s σ H D I h
 refine wpAny_execs_cons (thn (h1 pins s σ H D I h) fun f s1 q => ?_)
 cases f with
 | next => exact wpAny_execs_nil q
 | ret v => exact q
 | brk => exact q
 | cont => exact q
theorem Inv.quiet {pins : List (Addr × Obj)} {σ : St} {H : Hp} {s : Shared} (I : Inv X pins σ H s) : interactive X.env = false := by simp [interactive, I.ok.kind]
def tDrop (te : TE) : TS := fun D σ H => te σ H fun _ H1 => D.nx σ H1
theorem ps_expr (he : PE X e te) (hs : swapsWith e none pos.line X.env = pure false := by rfl) : PS X (.Expr e pos) (tDrop te) := by
 intro pins s σ H D I h
 exact wpAny_Expr_any (thn (he pins s σ H _ I h) fun v s1 ⟨x, H1, I1, r1, q1⟩ => ⟨σ, H1, I1, q1⟩) I.quiet hs
def tRet (te : TE) : TS := fun D σ H => te σ H D.rt
theorem ps_ret (he : PE X e te) : PS X (.Return (some e) pos) (tRet te) := by
 intro pins s σ H D I h
 exact wpAny_Return_some (thn (he pins s σ H _ I h) fun v s1 ⟨x, H1, I1, r1, q1⟩ => ⟨x, σ, H1, I1, r1, q1⟩)
def tIfS (c : TT) (t u : TS) : TS := fun D σ H => c σ H fun b H1 => if b = true then t D σ H1 else u D σ H1
theorem ps_if {c : Expr} {a b : List Stmt} {tc : TT} (hc : PT X c tc) (ha : PSs X a t) (hb : PSs X b u) : PS X (.If c a b pos) (tIfS tc t u) := by
 intro pins s σ H D I h
 refine wpAny_If (thn (hc pins s σ H _ I h) fun d s1 ⟨H1, I1, q1⟩ => ?_)
 cases d with
 | true => exact ha pins s1 σ H1 D I1 q1
 | false => exact hb pins s1 σ H1 D I1 q1
def tNever : TS := fun _ _ _ => False
theorem ps_never : PS X st tNever := fun _ _ _ _ _ _ h => h.elim
theorem pss_never {sts : List Stmt} : PSs X sts tNever := fun _ _ _ _ _ _ h => h.elim
end
abbrev TG := V -> St -> Hp -> (St -> Hp -> Prop) -> Prop
abbrev TGs := List V -> St -> Hp -> (St -> Hp -> Prop) -> Prop
def PG (X : Cx) (target : Expr) (t : TG) : Prop :=
 ∀ (pins : List (Addr × Obj)) (s : Shared) (σ : St) (H : Hp) (v : V) (u : Value) (Q : St -> Hp -> Prop), Inv X pins σ H s -> RelV v u -> t v σ H Q ->
  wpAny (model X.prog X.w) X.A (assign target X.env u) (fun _ s' => ∃ σ' H', Inv X pins σ' H' s' /\ Q σ' H') X.xe s
def PGs (X : Cx) (ts : List Expr) (t : TGs) : Prop :=
 ∀ (pins : List (Addr × Obj)) (s : Shared) (σ : St) (H : Hp) (vs : List V) (us : List Value) (Q : St -> Hp -> Prop), Inv X pins σ H s -> Vals vs us -> t vs σ H Q ->
  wpAny (model X.prog X.w) X.A (assignInOrder ((assignEach ts X.env).map (·.2)) us) (fun _ s' => ∃ σ' H', Inv X pins σ' H' s' /\ Q σ' H') X.xe s
abbrev TSet := V -> V -> V -> Hp -> (Hp -> Prop) -> Prop
def PSet (X : Cx) (t : TSet) : Prop :=
 ∀ (pins : List (Addr × Obj)) (s : Shared) (σ : St) (H : Hp) (o i v : V) (ov iv u : Value) (Q : Hp -> Prop), Inv X pins σ H s -> RelV o ov -> RelV i iv -> RelV v u -> t o i v H Q ->
  wpAny (model X.prog X.w) X.A (setItem ov iv u) (fun _ s' => ∃ H', Inv X pins σ H' s' /\ Q H') X.xe s
section
variable {X : Cx} {pos : Pos}
def gName (i : Nat) : TG := fun v σ H Q => Q (σ.set i (some v)) H
theorem pg_name {i : Nat} {x : Str} (hN : X.N.Nodup) (hi : X.N[i]? = some x) (hx : Loc X.env.scope x) (hf : X.fn x = true ∨ X.env.scope.names.lookup x = some .local := by first | exact .inl rfl | exact .inr rfl | assumption) : PG X (.Name x pos) (gName i) := by
 intro pins s σ H v u Q I r h
 exact wpAny_assign_Name (store_ok I hN hi hx r (fun s' I' => ⟨_, H, I', h⟩) hf)
def gNil : TGs := fun vs σ H Q => vs = [] /\ Q σ H
def gCons (t : TG) (u : TGs) : TGs := fun vs σ H Q => ∃ v r, vs = v :: r /\ t v σ H fun σ' H' => u r σ' H' Q
theorem pgs_nil : PGs X [] gNil := by
 intro pins s σ H vs us Q I r h
 obtain ⟨e, h⟩ := h
 subst e
 cases r
 exact assignInOrder_nil ⟨σ, H, I, h⟩
theorem pgs_cons {e : Expr} {es : List Expr} {t : TG} {u : TGs} (h1 : PG X e t) (h2 : PGs X es u)
  (hs : (assignEach (e :: es) X.env).map (·.2) = assign e X.env :: (assignEach es X.env).map (·.2) := by rfl) : PGs X (e :: es) (gCons t u) := by
 intro pins s σ H vs us Q I r h
 obtain ⟨v, vr, e1, h⟩ := h
 subst e1
 cases r with
 | cons r rr =>
  rw [hs]
  refine assignInOrder_cons (thn (h1 pins s σ H _ _ _ I r h) fun _ s1 ⟨σ1, H1, I1, q1⟩ => ?_)
  exact h2 pins s1 σ1 H1 _ _ Q I1 rr q1
def gTup (K : PySem.W.Frag) (n : Nat) (t : TGs) : TG := fun v σ H Q => ∃ a xs, v = .ref a /\ SqT K H a xs /\ xs.length = n /\ t xs σ H Q
theorem pg_tup {es : List Expr} {k : Nat} {t : TGs} {n : Nat} (hc : X.calm = true) (h : PGs X es t)
  (hn : (assignEach es X.env).length = n := by rfl) (hst : (assignEach es X.env).findIdx? (·.1) = none := by rfl) : PG X (.Tuple es k pos) (gTup X.K n t) := by
 intro pins s σ H v u Q I r hw
 obtain ⟨a, xs, e1, hq, hl, hw⟩ := hw
 subst e1
 cases r
 obtain ⟨its, rv, ht, hz⟩ := I.tuple hq
 refine assign_Tuple_tuple (I.ok.hd hc) ht (by simp [hn, <- hl, rv.length]) hst fun h' hx => ?_
 have I1 : Inv X pins σ H { s with heap := h' } := I.kept (t' := s.toks) fun b o e => hx b o (Nat.ne_of_lt (Heap.lt_size e)) e
 exact h pins _ σ H xs _ Q I1 (by simpa using rv) hw
def gSub (to ti : TE) (t : TSet) : TG := fun v σ H Q => to σ H fun o H1 => ti σ H1 fun i H2 => t o i v H2 fun H3 => Q σ H3
theorem pg_sub {o i : Expr} {to ti : TE} {t : TSet} (ho : PE X o to) (hi : PE X i ti) (hs : PSet X t)
  (ha : ∀ v, assign (.Subscript o i pos) X.env v = (do
   let ov <- holding [v] (eval o X.env)
   let iv <- holding [v, ov] (eval i X.env)
   standAt pos
   holding [v, ov, iv] (setItem ov iv v)
   release [v, ov, iv] []) := by intro _; rfl) : PG X (.Subscript o i pos) (gSub to ti t) := by
 intro pins s σ H v u Q I r h
 rw [ha]
 refine wpAny_bind (wpAny_holding (thn (ho pins s σ H _ I h) fun ov s1 ⟨x, H1, I1, r1, q1⟩ => ?_))
 refine wpAny_bind (wpAny_holding (thn (hi pins s1 σ H1 _ I1 q1) fun iv s2 ⟨y, H2, I2, r2, q2⟩ => ?_))
 refine wpAny_bind (wpAny_standAt (wpAny_bind (wpAny_holding (thn (hs pins s2 σ H2 x y v ov iv u _ I2 r1 r2 r q2) fun _ s3 ⟨H3, I3, q3⟩ => ?_))))
 exact wpAny_release ⟨σ, H3, I3, q3⟩
def tAsg (te : TE) (g : TG) : TS := fun D σ H => te σ H fun x H1 => g x σ H1 D.nx
theorem ps_asg {tg e : Expr} {te : TE} {g : TG} (he : PE X e te) (hg : PG X tg g) (hs : swapsWithSole [tg] e pos.line X.env = pure false := by rfl) (hw : swappedStores [tg] e X.env = pure none := by rfl)
  (h1 : (assignEach [tg] X.env).map (·.2) = [assign tg X.env] := by rfl) : PS X (.Assign [tg] e pos) (tAsg te g) := by
 intro pins s σ H D I h
 refine wpAny_Assign_stores (thn (he pins s σ H _ I h) fun v s1 ⟨x, H1, I1, r1, q1⟩ => ?_) hs hw
 rw [h1]
 exact thn (hg pins s1 σ H1 x v _ I1 r1 q1) fun _ s2 q => q
theorem ps_set {i : Nat} {x : Str} {e : Expr} {te : TE} {pos' : Pos} (hN : X.N.Nodup) (hi : X.N[i]? = some x) (hx : Loc X.env.scope x) (he : PE X e te) (hs : swapsWith e (some (.Name x pos')) pos.line X.env = pure false := by rfl) (hf : X.fn x = true ∨ X.env.scope.names.lookup x = some .local := by first | exact .inl rfl | exact .inr rfl | assumption) :
  PS X (.Assign [.Name x pos'] e pos) (tAsg te (gName i)) := by
 intro pins s σ H D I h
 refine wpAny_Assign_Name (thn (he pins s σ H _ I h) fun v s1 ⟨y, H1, I1, r1, q1⟩ => ?_) hs
 exact store_ok I1 hN hi hx r1 (fun s2 I2 => ⟨_, H1, I2, q1⟩) hf
def tPar (i j : Nat) (ta : TA) : TS := fun D σ H => ta σ H fun vs H1 => ∃ v w, vs = [v, w] /\ D.nx ((σ.set i (some v)).set j (some w)) H1
theorem ps_par {i j : Nat} {x y : Str} {a b : Expr} {ta : TA} {px py pt : Pos} {kt k2 pt2} (hc : X.calm = true) (hN : X.N.Nodup) (hi : X.N[i]? = some x) (hj : X.N[j]? = some y) (hij : i ≠ j)
  (hx : X.env.scope.names.lookup x = some .local) (hy : X.env.scope.names.lookup y = some .local) (ha : PA X [a, b] ta)
  (hw : swappedStores [.Tuple [.Name x px, .Name y py] kt pt] (.Tuple [a, b] k2 pt2) X.env = pure (some [x, y]))
  (hs : swapsWithSole [.Tuple [.Name x px, .Name y py] kt pt] (.Tuple [a, b] k2 pt2) pos.line X.env = pure false := by rfl) :
  PS X (.Assign [.Tuple [.Name x px, .Name y py] kt pt] (.Tuple [a, b] k2 pt2) pos) (tPar i j ta) := by
 intro pins s σ H D I h
 rw [exec_Assign_arm]
 refine wpAny_bind (wpAny_standAt ?_)
 rw [hs]
 refine wpAny_bind (wpAny_pure ?_)
 rw [if_neg (by decide)]
 refine wpAny_bind (Tuple_ (thn (ha _ pins s σ H _ I h) fun us s1 ⟨vs, H1, I1, r1, q1⟩ => ?_))
 obtain ⟨v, w, e1, q1⟩ := q1
 subst e1
 obtain ⟨u1, u2, rfl, rv, rw'⟩ : ∃ u1 u2, us = [u1, u2] /\ RelV v u1 /\ RelV w u2 := by
  cases r1 with
  | cons p q =>
   cases q with
   | cons p' q' =>
    cases q'
    exact ⟨_, _, rfl, p, p'⟩
 refine wpAny_newObj_type ?_ (by show 2 <= sizeLine; decide)
 have I2 : Inv X pins σ H1 { s1 with heap := s1.heap.push { cls := .type "tuple", data := .seq [u1, u2].toArray } } := I1.kept (t' := s1.toks) fun b o e => Heap.get?_push_of_some _ e
 rw [hw]
 refine wpAny_bind (wpAny_pure ?_)
 show wpAny (model X.prog X.w) X.A (do rule "assign.swapped-stores"; let items <- unpackItems (.ref s1.heap.objs.size) 2 none; assignInOrder [fun v => bindName X.env y v, fun v => bindName X.env x v] items.reverse; pure Flow.next) _ _ _
 refine wpAny_bind (wpAny_rule (wpAny_bind (unpackItems_tuple (items := #[u1, u2]) (I.ok.hd hc) (IsTup.new s1.heap _) fun h' hx' => ?_)))
 have I3 := I2.kept (h' := h') (t' := s1.toks) fun b o e => hx' b o (Nat.ne_of_lt (Heap.lt_size e)) e
 show wpAny _ _ (assignInOrder [fun v => bindName X.env y v, fun v => bindName X.env x v] [u2, u1] >>= fun _ => pure Flow.next) _ _ _
 refine wpAny_bind (assignInOrder_cons (wpAny_bindName (store_ok I3 hN hj (.inl hy) rw' (fun s2 I4 => ?_) (.inr hy))))
 refine assignInOrder_cons (wpAny_bindName (store_ok I4 hN hi (.inl hx) rv (fun s3 I5 => assignInOrder_nil (wpAny_pure ?_)) (.inr hx)))
 rw [List.set_comm _ _ (Ne.symm hij)] at I5
 exact ⟨_, H1, I5, q1⟩
end
section
variable {X : Cx} {pos : Pos}
def tWhile (c : TT) (tb : TS) : TS := fun D σ H => ∃ W : Nat -> St -> Hp -> Prop, (∃ m, W m σ H) /\ ∀ m σ H, W m σ H ->
 c σ H fun b H1 => if b = true then ∃ N : St -> Hp -> Prop, (∀ σ' H', N σ' H' -> ∃ m', m' < m /\ W m' σ' H') /\ tb { D with nx := N, ct := N, bk := D.nx } σ H1 else D.nx σ H1
theorem ps_while {c : Expr} {body : List Stmt} {tc : TT} {tb : TS} (hp : PassesOwn (model X.prog X.w) X.A X.env X.xe) (hc : PT X c tc) (hb : PSs X body tb) : PS X (.While c body [] pos) (tWhile tc tb) := by
 intro pins s σ H D I h
 obtain ⟨W, ⟨m0, w0⟩, turn⟩ := h
 refine wpAny_While (codeAny_whileLoop (fun n s' => ∃ σ' H', Inv X pins σ' H' s' /\ W n σ' H') ?_ m0 ⟨σ, H, I, w0⟩)
 rintro n s1 ⟨σ1, H1, I1, w1⟩
 refine wpAny_passesOwn hp (thn (hc pins s1 σ1 H1 _ I1 (turn n σ1 H1 w1)) fun b s2 ⟨H2, I2, q2⟩ => ?_)
 cases b with
 | true =>
  obtain ⟨N, hN, q2⟩ := q2
  rw [if_pos rfl]
  refine wpAny_passesOwn hp (thn (hb pins s2 σ1 H2 _ I2 q2) fun f s3 q3 => ?_)
  cases f with
  | next =>
   obtain ⟨σ3, H3, I3, n3⟩ := q3
   obtain ⟨m', hm, w3⟩ := hN σ3 H3 n3
   exact ⟨m', hm, σ3, H3, I3, w3⟩
  | cont =>
   obtain ⟨σ3, H3, I3, n3⟩ := q3
   obtain ⟨m', hm, w3⟩ := hN σ3 H3 n3
   exact ⟨m', hm, σ3, H3, I3, w3⟩
  | brk => exact q3
  | ret v => exact q3
 | false =>
  rw [if_neg Bool.false_ne_true]
  exact wpAny_execs_nil ⟨σ1, H2, I2, q2⟩
end
structure It where
 go : Nat -> Hp -> Prop
 yld : Nat -> Hp -> V -> Hp -> Prop
 stop : Nat -> Hp -> Prop
def FpOk (X : Cx) (pins : List (Addr × Obj)) (H : Hp) (b : Addr) : Prop :=
 H b = none /\ b ≠ X.env.locals /\ b ∉ X.fs /\ (b ∈ X.ex ∨ X.s₀.heap.objs.size <= b) /\ (∀ x c, X.env.cells.lookup x = some c -> c ≠ b) /\ ∀ p ∈ X.pn ++ pins, p.1 ≠ b
theorem Inv.fpOk {X : Cx} {pins : List (Addr × Obj)} {σ : St} {H H' : Hp} {s : Shared} {b : Addr} (I : Inv X pins σ H s) (hb : s.heap.objs.size <= b) (hn : H' b = none) : FpOk X pins H' b := by
 refine ⟨hn, Nat.ne_of_gt (Nat.lt_of_lt_of_le I.lt hb), I.nofs hb, .inr (Nat.le_trans I.sz hb), fun x c e z => ?_, fun p hp z => ?_⟩
 ·obtain ⟨v, q⟩ := I.cell x c e
  exact absurd (Nat.lt_of_lt_of_le q.lt (by rw [z]; exact hb)) (Nat.lt_irrefl _)
 ·exact absurd (Nat.lt_of_lt_of_le (Heap.lt_size (I.pin p hp).1) (by rw [z]; exact hb)) (Nat.lt_irrefl _)
structure Turn (P : Program) (w : World) (K : PySem.W.Frag) (tg : Expr) (J : It) (fp : List Addr) (it : Addr) (tn : Nat -> Heap -> Prop) : Prop where
 mem : it ∈ fp
 obj : ∀ i h, tn i h -> ∀ b ∈ fp, ∃ o, h.get? b = some o /\ ∀ v, o.data ≠ .cell v
 keep : ∀ i h h', tn i h -> (∀ b ∈ fp, ∀ o, h.get? b = some o -> h'.get? b = some o) -> tn i h'
 item : ∀ (X : Cx), X.prog = P -> X.w = w -> X.K = K -> X.calm = true -> ∀ (i : Nat) (pins : List (Addr × Obj)) (s : Shared) (σ : St) (H : Hp) (E : Value -> Shared -> Prop), Inv X pins σ H s -> (∀ b ∈ fp, FpOk X pins H b) -> tn i s.heap -> J.go i H ->
  wpAny (model P w) X.A (pyNext (.ref it)) (fun r s1 => ∃ u, r = some u /\
   wpAny (model P w) X.A (letOwnedTupleGo tg (.ref it) u) (fun _ s2 => ∃ x H', Inv X pins σ H' s2 /\ RelV x u /\ J.yld i H x H' /\ tn (i + 1) s2.heap /\ ∀ b ∈ fp, H' b = none) E s1) E s
 done : ∀ (X : Cx), X.prog = P -> X.w = w -> X.K = K -> X.calm = true -> ∀ (i : Nat) (pins : List (Addr × Obj)) (s : Shared) (σ : St) (H : Hp) (E : Value -> Shared -> Prop), Inv X pins σ H s -> (∀ b ∈ fp, FpOk X pins H b) -> tn i s.heap -> J.stop i H ->
  wpAny (model P w) X.A (pyNext (.ref it)) (fun r s1 => r = none /\ Inv X pins σ H s1) E s
 self : ∀ (A : Around) (i : Nat) (s : Shared) (Q : Value -> Shared -> Prop) (E : Value -> Shared -> Prop), tn i s.heap -> Q (.ref it) s -> wpAny (model P w) A (pyIter (.ref it)) Q E s
abbrev TI := St -> Hp -> (It -> Hp -> Prop) -> Prop
def PIE (X : Cx) (pins : List (Addr × Obj)) (σ : St) (tg : Expr) (R : It -> Hp -> Prop) (itv : Value) (s2 : Shared) : Prop :=
 ∃ (it : Addr) (fp : List Addr) (tn : Nat -> Heap -> Prop) (J : It) (H' : Hp), itv = .ref it /\ Inv X pins σ H' s2 /\ Turn X.prog X.w X.K tg J fp it tn /\ tn 0 s2.heap /\ (∀ b ∈ fp, FpOk X pins H' b) /\ R J H'
def PI (X : Cx) (tg iter : Expr) (wi : TI) : Prop :=
 ∀ (pins : List (Addr × Obj)) (s : Shared) (σ : St) (H : Hp) (R : It -> Hp -> Prop), Inv X pins σ H s -> wi σ H R ->
  wpAny (model X.prog X.w) X.A (eval iter X.env) (fun v s1 => wpAny (model X.prog X.w) X.A (pyIter v) (PIE X pins σ tg R) X.xe s1) X.xe s
theorem go_of {M : Model} {A : Around} {E : Value -> Shared -> Prop} {s : Shared} {tg : Expr} {it : Addr} {u : Value} {o : Obj} {n : String} {vs : Array Value} {Q : Unit -> Shared -> Prop} (ho : s.heap.get? it = some o) (hc : o.cls = .type n) (hd : o.data = .fields vs)
  (hn : ["enumerate", "zip", "dict_itemiterator", "dict_reverseitemiterator", "odict_iterator", "itertools.zip_longest", "itertools.pairwise"].contains n = false) (hQ : Q () s) : wpAny M A (letOwnedTupleGo tg (.ref it) u) Q E s := by
 unfold letOwnedTupleGo
 cases tg <;> first
  | exact wpAny_pure hQ
  | (cases u <;> first
    | exact wpAny_pure hQ
    | (refine wpAny_bind (wpAny_load ho ?_)
       rw [hc, hd]
       show wpAny M A (if (["enumerate", "zip", "dict_itemiterator", "dict_reverseitemiterator", "odict_iterator", "itertools.zip_longest", "itertools.pairwise"].contains n && vs[0]? == some (rawInt _)) = true then _ else _) Q E s
       rw [if_neg (by intro h; rw [hn, Bool.false_and] at h; cases h)]
       exact wpAny_pure hQ))
def Itl (K : PySem.W.Frag) (a : Addr) : It :=
 ⟨fun i H => ∃ xs x, SqL K H a xs /\ xs[i]? = some x, fun i H x H' => H' = H /\ ∀ xs, SqL K H a xs -> xs[i]? = some x, fun i H => ∃ xs, SqL K H a xs /\ xs.length <= i⟩
def Itr (lo : Int) (n : Nat) : It := ⟨fun i _ => i < n, fun i H x H' => H' = H /\ x = .int (lo + i), fun i _ => n <= i⟩
theorem turn_list {P : Program} {w : World} {K : PySem.W.Frag} {tg : Expr} (a it : Addr) : Turn P w K tg (Itl K a) [it] it (fun i h => h.IsListIter it a i) where
 mem := by simp
 obj := fun i h st b hb => by
  have e : b = it := by simpa using hb
  subst e
  obtain ⟨o, e, c, d⟩ := st
  exact ⟨o, e, fun v z => by rw [d] at z; cases z⟩
 keep := fun i h h' st k => st.at fun o e => k it (by simp) o e
 item := by
  intro X hP hw hK hc i pins s σ H E I hf st hg
  subst hP hw hK
  obtain ⟨xs, x, hq, hx⟩ := hg
  obtain ⟨its, rv, p, hz⟩ := I.list hq
  obtain ⟨u, hu, ru⟩ := rv.get hx
  obtain ⟨f0, f1, f2, f3, f4, f5⟩ := hf it (by simp)
  refine wpAny_pyNext_list_item st p.isList (x := u) (by simpa using hu) fun h' st' sb => ?_
  have I1 : Inv X pins σ H { s with heap := h' } := I.turned (t' := s.toks) (fun b o hb e => (sb.2 b hb).trans e) f0 f1 f3 f4 f5
  obtain ⟨o, e, c, d⟩ := id st'
  exact ⟨u, rfl, go_of (s := { s with heap := h' }) e c d (by decide) ⟨x, H, I1, ru, ⟨rfl, fun ys hy => by rw [I.list_inj hy hq]; exact hx⟩, st', fun b hb => (hf b hb).1⟩⟩
 done := by
  intro X hP hw hK hc i pins s σ H E I hf st hg
  subst hP hw hK
  obtain ⟨xs, hq, hx⟩ := hg
  obtain ⟨its, rv, p, hz⟩ := I.list hq
  obtain ⟨f0, f1, f2, f3, f4, f5⟩ := hf it (by simp)
  have hl := rv.length
  exact wpAny_pyNext_list_end (I.ok.hd hc) st p.isList (by simp; omega) fun h' eb => ⟨rfl, I.turned (t' := s.toks) (fun b o hb e => eb b o hb e) f0 f1 f3 f4 f5⟩
 self := fun _ _ _ _ _ st h => wpAny_pyIter_listiter st h
theorem turn_range {P : Program} {w : World} {K : PySem.W.Frag} {tg : Expr} (it : Addr) (lo : Int) (n : Nat) : Turn P w K tg (Itr lo n) [it] it (fun i h => IsRangeIter h it (lo + (i : Nat) * 1) ((n : Int) - (i : Nat)) 1) where
 mem := by simp
 obj := fun i h st b hb => by
  have e : b = it := by simpa using hb
  subst e
  exact ⟨_, st, fun v z => by
   have z' : Data.fields _ = Data.cell v := z
   cases z'⟩
 keep := fun i h h' st k => k it (by simp) _ st
 item := by
  intro X hP hw hK hc i pins s σ H E I hf st hg
  subst hP hw hK
  obtain ⟨f0, f1, f2, f3, f4, f5⟩ := hf it (by simp)
  have W := Walks.range (prog := X.prog) (w := X.w) (I.ok.hd hc) it lo 1 n
  refine W.item i s _ _ hg st fun v h' tk hv st' kk => ?_
  obtain ⟨t, rfl⟩ := hv
  have I1 : Inv X pins σ H { s with heap := h', toks := tk } := I.turned (fun b o hb e => kk b o (by simpa using hb) e) f0 f1 f3 f4 f5
  refine ⟨_, rfl, go_of (s := { s with heap := h', toks := tk }) (n := "range_iterator") st' rfl rfl (by decide) ⟨.int (lo + i), H, I1, ⟨t, ?_⟩, ⟨rfl, rfl⟩, st', fun b hb => (hf b hb).1⟩⟩
  rw [Int.mul_one]
 done := by
  intro X hP hw hK hc i pins s σ H E I hf st hg
  subst hP hw hK
  obtain ⟨f0, f1, f2, f3, f4, f5⟩ := hf it (by simp)
  exact wpAny_pyNext_range_end (I.ok.hd hc) st (by have : n <= i := hg; omega) fun h' eb => ⟨rfl, I.turned (t' := s.toks) (fun b o hb e => eb b o hb e) f0 f1 f3 f4 f5⟩
 self := fun _ _ _ _ _ st h => wpAny_pyIter_rangeiter st h
end L2
namespace L2
open PySem PySem.Spec PyProof.Rows
section
variable {X : Cx} {tg : Expr}
def iList (K : PySem.W.Frag) (tl : TE) : TI := fun σ H R => tl σ H fun x H1 => ∃ a, x = .ref a /\ (∃ xs, SqL K H1 a xs) /\ R (Itl K a) H1
theorem pi_list {l : Expr} {tl : TE} (hl : PE X l tl) : PI X tg l (iList X.K tl) := by
 intro pins s σ H R I h
 refine thn (hl pins s σ H _ I h) fun v s1 ⟨x, H1, I1, r1, q1⟩ => ?_
 obtain ⟨a, e, ⟨xs, hq⟩, q⟩ := q1
 subst e
 cases r1
 obtain ⟨its, rv, p, hz⟩ := I1.list hq
 refine wpAny_pyIter_list p.isList ?_
 refine ⟨s1.heap.objs.size, [s1.heap.objs.size], _, _, H1, rfl, I1.kept (t' := s1.toks) fun b o e => Heap.get?_push_of_some _ e, turn_list a _, ⟨_, Heap.get?_push_size _ rfl, rfl, rfl⟩, fun b hb => ?_, q⟩
 have e : b = s1.heap.objs.size := by simpa using hb
 subst e
 exact I1.fpOk (Nat.le_refl _) (I1.hok.fresh (Nat.le_refl _))
theorem range_it {pins : List (Addr × Obj)} {σ : St} {H : Hp} {s : Shared} {R : It -> Hp -> Prop} {E : Value -> Shared -> Prop} {lo hi : Int} {t u v : Tok} {tk : Nat} (I : Inv X pins σ H s) (h1 : -(2 ^ 62) <= lo) (h2 : lo < 2 ^ 62) (h3 : -(2 ^ 62) <= hi) (h4 : hi < 2 ^ 62)
  (q : R (Itr lo (hi - lo).toNat) H) : wpAny (model X.prog X.w) X.A (pyIter (.ref s.heap.objs.size)) (PIE X pins σ tg R) E { s with heap := s.heap.push { cls := .type "range", data := .fields #[.int lo t, .int hi u, .int 1 v] }, toks := tk } := by
 refine wpAny_pyIter_range (IsRange.new ..) (small_one h1 h2 h3 h4) ?_
 have I1 : Inv X pins σ H { s with heap := s.heap.push { cls := .type "range", data := .fields #[.int lo t, .int hi u, .int 1 v] }, toks := tk } := I.kept fun b o e => Heap.get?_push_of_some _ e
 refine ⟨(s.heap.push { cls := .type "range", data := .fields #[.int lo t, .int hi u, .int 1 v] }).objs.size, [(s.heap.push { cls := .type "range", data := .fields #[.int lo t, .int hi u, .int 1 v] }).objs.size], _, _, H, rfl,
  I1.kept (t' := tk) fun b o e => Heap.get?_push_of_some _ e, turn_range _ lo (hi - lo).toNat, ?_, fun b hb => ?_, q⟩
 ·have e1 : lo + ((0 : Nat) : Int) * 1 = lo := by simp
  have e2 : (((hi - lo).toNat : Nat) : Int) - ((0 : Nat) : Int) = Builtin.Range.rangeSize lo hi 1 := by rw [rangeSize_one]; split <;> omega
  show IsRangeIter _ _ (lo + ((0 : Nat) : Int) * 1) ((((hi - lo).toNat : Nat) : Int) - ((0 : Nat) : Int)) 1
  rw [e1, e2]
  exact Heap.get?_push_size _ rfl
 ·have e : b = (s.heap.push { cls := .type "range", data := .fields #[.int lo t, .int hi u, .int 1 v] }).objs.size := by simpa using hb
  subst e
  exact I1.fpOk (Nat.le_refl _) (I1.hok.fresh (Nat.le_refl _))
def iRng1 (ta : TA) : TI := fun σ H R => ta σ H fun vs H1 => ∃ j : Int, vs = [.int j] /\ -(2 ^ 62) <= j /\ j < 2 ^ 62 /\ R (Itr 0 j.toNat) H1
theorem pi_range1 {a : Expr} {ta : TA} {p pos : Pos} (hg : Gl X "range") (hm : X.mg "range" = none) (ha : PA X [a] ta) (hs : starEach [a] X.env = [(false, eval a X.env)] := by rfl) : PI X tg (.Call (.Name "range" p) [a] [] pos) (iRng1 ta) := by
 intro pins s σ H R I h
 refine Call_ (ld_blt I hg hm boot_range (PyProof.Rows.callWith_type1 (thn (ha pos pins s σ H _ I h) fun us s1 ⟨vs, H1, I1, r1, q1⟩ => ?_) hs rfl))
 obtain ⟨j, e, q1, q2, q⟩ := q1
 subst e
 cases r1 with
 | cons r rr =>
  cases rr
  obtain ⟨t, rfl⟩ := r
  exact call_range_1 (range_it I1 (by omega) (by omega) q1 q2 (by simpa using q))
def tFor (wi : TI) (g : TG) (tb : TS) : TS := fun D σ H => wi σ H fun J H1 => ∃ W : Nat -> Nat -> St -> Hp -> Prop, (∃ m, W 0 m σ H1) /\ ∀ i m σ H, W i m σ H ->
 (J.stop i H /\ D.nx σ H) ∨ (J.go i H /\ ∃ N : St -> Hp -> Prop, (∀ σ' H', N σ' H' -> ∃ m', m' < m /\ W (i + 1) m' σ' H') /\ ∀ x H', J.yld i H x H' -> g x σ H' fun σ2 H2 => tb { D with nx := N, ct := N, bk := D.nx } σ2 H2)
def pinsAt (fp : List Addr) (h : Heap) : List (Addr × Obj) := fp.filterMap fun b => (h.get? b).map fun o => (b, o)
theorem mem_pinsAt {fp : List Addr} {h : Heap} {b : Addr} {o : Obj} (hb : b ∈ fp) (e : h.get? b = some o) : (b, o) ∈ pinsAt fp h := List.mem_filterMap.mpr ⟨b, hb, by rw [e]; rfl⟩
theorem of_pinsAt {fp : List Addr} {h : Heap} {p : Addr × Obj} (hp : p ∈ pinsAt fp h) : p.1 ∈ fp /\ h.get? p.1 = some p.2 := by
 obtain ⟨b, hb, e⟩ := List.mem_filterMap.mp hp
 cases q : h.get? b with
 | none => rw [q] at e; cases e
 | some o =>
  rw [q] at e
  have e' : (b, o) = p := Option.some.inj e
  subst e'
  exact ⟨hb, q⟩
theorem Inv.pinned {pins : List (Addr × Obj)} {σ : St} {H : Hp} {s : Shared} {fp : List Addr} (I : Inv X pins σ H s) (hf : ∀ b ∈ fp, FpOk X pins H b) (ho : ∀ b ∈ fp, ∃ o, s.heap.get? b = some o /\ ∀ v, o.data ≠ .cell v) : Inv X (pins ++ pinsAt fp s.heap) σ H s :=
 I.pins_of fun p hp => (List.mem_append.mp hp).elim (fun z => I.pin p (List.mem_append_right _ z)) fun z => by
  obtain ⟨hb, e⟩ := of_pinsAt z
  obtain ⟨f0, f1, f2, _⟩ := hf p.1 hb
  obtain ⟨o, e', d⟩ := ho p.1 hb
  rw [e] at e'; cases e'
  exact ⟨e, f0, f1, f2, d⟩
theorem Inv.unpinned {pins pl : List (Addr × Obj)} {σ : St} {H : Hp} {s : Shared} (I : Inv X (pins ++ pl) σ H s) : Inv X pins σ H s := I.pins_of fun p hp => I.pin p (List.mem_append_right _ (List.mem_append_left _ hp))
theorem ps_for {iter : Expr} {body : List Stmt} {wi : TI} {g : TG} {tb : TS} {pos : Pos} (hp : PassesOwn (model X.prog X.w) X.A X.env X.xe) (hc : X.calm = true) (hi : PI X tg iter wi) (hg : PG X tg g) (hb : PSs X body tb)
  (hs : ∀ x, foldedSetIterable iter X.env x = pure x := by intro _; rfl) : PS X (.For tg iter body [] pos) (tFor wi g tb) := by
 intro pins s σ H D I h
 refine wpAny_For (thn (hi pins s σ H _ I h) fun v s1 h1 => thn h1 fun itv s2 h2 => ?_) hs
 obtain ⟨it, fp, tn, J, H2, e, I2, T, st2, f2, W, ⟨m0, w0⟩, turn⟩ := h2
 subst e
 have stat : ∀ {H' : Hp}, (∀ b ∈ fp, H' b = none) -> ∀ b ∈ fp, FpOk X pins H' b := fun hn b hb => ⟨hn b hb, (f2 b hb).2⟩
 refine codeAny_forLoop_any (fun n s' => ∃ i σ' H', Inv X pins σ' H' s' /\ tn i s'.heap /\ (∀ b ∈ fp, H' b = none) /\ W i n σ' H') ?_ m0 ⟨0, σ, H2, I2, st2, fun b hb => (f2 b hb).1, w0⟩
 rintro n s3 ⟨i, σ3, H3, I3, st3, fr3, w3⟩
 rcases turn i n σ3 H3 w3 with ⟨stop, qn⟩ | ⟨go, N, hN, step⟩
 ·refine wpAny_passesOwn hp (thn (T.done X rfl rfl rfl hc i pins s3 σ3 H3 X.xe I3 (stat fr3) st3 stop) fun r s4 ⟨hr, I4⟩ => ?_)
  subst hr
  exact wpAny_execs_nil ⟨σ3, H3, I4, qn⟩
 ·refine wpAny_passesOwn hp (thn (T.item X rfl rfl rfl hc i pins s3 σ3 H3 X.xe I3 (stat fr3) st3 go) fun r s4 ⟨u, hr, h4⟩ => ?_)
  subst hr
  refine wpAny_passesOwn hp (thn h4 fun _ s5 ⟨x, H5, I5, r5, y5, st5, fr5⟩ => ?_)
  have I5' := I5.pinned (stat fr5) (T.obj _ _ st5)
  refine wpAny_passesOwn hp (thn (hg _ s5 σ3 H5 x u _ I5' r5 (step x H5 y5)) fun _ s6 ⟨σ6, H6, I6, q6⟩ => ?_)
  refine wpAny_passesOwn hp (thn (hb _ s6 σ6 H6 _ I6 q6) fun f s7 q7 => ?_)
  have again : ∀ {σ7 : St} {H7 : Hp}, Inv X (pins ++ pinsAt fp s5.heap) σ7 H7 s7 -> N σ7 H7 -> ∃ m, m < n /\ ∃ i σ' H', Inv X pins σ' H' s7 /\ tn i s7.heap /\ (∀ b ∈ fp, H' b = none) /\ W i m σ' H' := fun {σ7 H7} I7 n7 => by
   obtain ⟨m', hm, w7⟩ := hN σ7 H7 n7
   refine ⟨m', hm, i + 1, σ7, H7, I7.unpinned, T.keep _ _ _ st5 fun b hb o e => (I7.pin (b, o) (List.mem_append_right _ (List.mem_append_right _ (mem_pinsAt hb e)))).1, fun b hb => ?_, w7⟩
   obtain ⟨o, e, d⟩ := T.obj _ _ st5 b hb
   exact (I7.pin (b, o) (List.mem_append_right _ (List.mem_append_right _ (mem_pinsAt hb e)))).2.1
  cases f with
  | next => obtain ⟨σ7, H7, I7, n7⟩ := q7; exact again I7 n7
  | cont => obtain ⟨σ7, H7, I7, n7⟩ := q7; exact again I7 n7
  | brk => obtain ⟨σ7, H7, I7, q7⟩ := q7; exact ⟨σ7, H7, I7.unpinned, q7⟩
  | ret v => obtain ⟨x7, σ7, H7, I7, r7, q7⟩ := q7; exact ⟨x7, σ7, H7, I7.unpinned, r7, q7⟩
end
theorem for_list {K : PySem.W.Frag} {a : Addr} {xs : List V} {g : TG} {tb : TS} {D : Ends} {σ : St} {H : Hp} (Pv : Nat -> St -> Hp -> Prop) (h0 : Pv 0 σ H) (hl : ∀ i σ H, i <= xs.length -> Pv i σ H -> SqL K H a xs)
  (hs : ∀ i x σ H, xs[i]? = some x -> Pv i σ H -> g x σ H fun σ2 H2 => tb { D with nx := Pv (i + 1), ct := Pv (i + 1), bk := D.nx } σ2 H2) (hd : ∀ σ H, Pv xs.length σ H -> D.nx σ H) :
  ∃ W : Nat -> Nat -> St -> Hp -> Prop, (∃ m, W 0 m σ H) /\ ∀ i m σ H, W i m σ H ->
   ((Itl K a).stop i H /\ D.nx σ H) ∨ ((Itl K a).go i H /\ ∃ N : St -> Hp -> Prop, (∀ σ' H', N σ' H' -> ∃ m', m' < m /\ W (i + 1) m' σ' H') /\ ∀ x H', (Itl K a).yld i H x H' -> g x σ H' fun σ2 H2 => tb { D with nx := N, ct := N, bk := D.nx } σ2 H2) := by
 refine ⟨fun i m σ H => m = xs.length - i /\ i <= xs.length /\ Pv i σ H, ⟨xs.length, by simp, Nat.zero_le _, h0⟩, ?_⟩
 rintro i m σ H ⟨rfl, hi, p⟩
 have q := hl i σ H hi p
 by_cases hlt : i < xs.length
 ·refine .inr ⟨⟨xs, xs[i], q, by simp [hlt]⟩, Pv (i + 1), fun σ' H' p' => ⟨xs.length - (i + 1), by omega, rfl, hlt, p'⟩, fun x H' y => ?_⟩
  obtain ⟨e, y⟩ := y
  subst e
  exact hs i x σ _ (y xs q) p
 ·have e : i = xs.length := by omega
  subst e
  exact .inl ⟨⟨xs, q, Nat.le_refl _⟩, hd σ H p⟩
theorem for_range {lo : Int} {n : Nat} {g : TG} {tb : TS} {D : Ends} {σ : St} {H : Hp} (Pv : Nat -> St -> Hp -> Prop) (h0 : Pv 0 σ H)
  (hs : ∀ i σ H, i < n -> Pv i σ H -> g (.int (lo + i)) σ H fun σ2 H2 => tb { D with nx := Pv (i + 1), ct := Pv (i + 1), bk := D.nx } σ2 H2) (hd : ∀ σ H, Pv n σ H -> D.nx σ H) :
  ∃ W : Nat -> Nat -> St -> Hp -> Prop, (∃ m, W 0 m σ H) /\ ∀ i m σ H, W i m σ H ->
   ((Itr lo n).stop i H /\ D.nx σ H) ∨ ((Itr lo n).go i H /\ ∃ N : St -> Hp -> Prop, (∀ σ' H', N σ' H' -> ∃ m', m' < m /\ W (i + 1) m' σ' H') /\ ∀ x H', (Itr lo n).yld i H x H' -> g x σ H' fun σ2 H2 => tb { D with nx := N, ct := N, bk := D.nx } σ2 H2) := by
 refine ⟨fun i m σ H => m = n - i /\ i <= n /\ Pv i σ H, ⟨n, by simp, Nat.zero_le _, h0⟩, ?_⟩
 rintro i m σ H ⟨rfl, hi, p⟩
 by_cases hlt : i < n
 ·refine .inr ⟨hlt, Pv (i + 1), fun σ' H' p' => ⟨n - (i + 1), by omega, rfl, hlt, p'⟩, fun x H' y => ?_⟩
  obtain ⟨e, y⟩ := y
  subst e y
  exact hs i σ _ hlt p
 ·have e : i = n := by omega
  subst e
  exact .inl ⟨Nat.le_refl _, hd σ H p⟩
theorem while_by {c : TT} {tb : TS} {D : Ends} {σ : St} {H : Hp} (Pv : St -> Hp -> Prop) (μ : St -> Hp -> Nat) (h0 : Pv σ H)
  (hs : ∀ σ H, Pv σ H -> c σ H fun b H1 => if b = true then tb { D with nx := fun σ' H' => Pv σ' H' /\ μ σ' H' < μ σ H, ct := fun σ' H' => Pv σ' H' /\ μ σ' H' < μ σ H, bk := D.nx } σ H1 else D.nx σ H1)
  (mono : ∀ σ H Q Q', (∀ b H1, Q b H1 -> Q' b H1) -> c σ H Q -> c σ H Q') : tWhile c tb D σ H := by
 refine ⟨fun m σ H => m = μ σ H /\ Pv σ H, ⟨_, rfl, h0⟩, ?_⟩
 rintro m σ H ⟨rfl, p⟩
 refine mono σ H _ _ (fun b H1 q => ?_) (hs σ H p)
 cases b with
 | true => exact ⟨_, fun σ' H' ⟨p', l⟩ => ⟨_, l, rfl, p'⟩, q⟩
 | false => exact q
end L2
namespace L2
open PySem PySem.Spec PyProof.Rows
abbrev R2 := V -> V -> Hp -> VK -> Prop
def OpR (X : Cx) (f : Value -> Value -> Sem Value) (r : R2) : Prop :=
 ∀ (pins : List (Addr × Obj)) (s : Shared) (σ : St) (H : Hp) (x y : V) (v u : Value) (Q : VK), Inv X pins σ H s -> RelV x v -> RelV y u -> r x y H Q ->
  wpAny (model X.prog X.w) X.A (f v u) (EP X pins σ Q) X.xe s
def UnR (X : Cx) (f : Value -> Sem Value) (r : V -> Hp -> VK -> Prop) : Prop :=
 ∀ (pins : List (Addr × Obj)) (s : Shared) (σ : St) (H : Hp) (x : V) (v : Value) (Q : VK), Inv X pins σ H s -> RelV x v -> r x H Q ->
  wpAny (model X.prog X.w) X.A (f v) (EP X pins σ Q) X.xe s
def CallR (X : Cx) (f : Value) (r : List V -> Hp -> VK -> Prop) : Prop :=
 ∀ (pins : List (Addr × Obj)) (s : Shared) (σ : St) (H : Hp) (xs : List V) (us : List Value) (Q : VK), Inv X pins σ H s -> Vals xs us -> r xs H Q ->
  wpAny (model X.prog X.w) X.A (call f us) (EP X pins σ Q) X.xe s
def tOp (r : R2) (ta tb : TE) : TE := fun σ H Q => ta σ H fun x H1 => tb σ H1 fun y H2 => r x y H2 Q
def tUn (r : V -> Hp -> VK -> Prop) (ta : TE) : TE := fun σ H Q => ta σ H fun x H1 => r x H1 Q
def rI (C : Int -> Int -> Prop) (g : Int -> Int -> V) : R2 := fun x y H Q => ∃ i j, x = .int i /\ y = .int j /\ C i j /\ Q (g i j) H
def rI0 (g : Int -> Int -> V) : R2 := fun x y H Q => ∃ i j, x = .int i /\ y = .int j /\ Q (g i j) H
def rU (g : Int -> V) : V -> Hp -> VK -> Prop := fun x H Q => ∃ i, x = .int i /\ Q (g i) H
section
variable {X : Cx} {a b c : Expr} {ta tb tc : TE} {pos : Pos}
theorem binT (ha : PE X a ta) (hb : PE X b tb) {pins : List (Addr × Obj)} {s : Shared} {σ : St} {H : Hp} {R : V -> V -> Hp -> Prop} (I : Inv X pins σ H s)
  (h : ta σ H fun x H1 => tb σ H1 fun y H2 => R x y H2) {Q : Value -> Shared -> Prop} {f : Value -> Value -> Sem Value}
  (hf : ∀ v u s2 x y H2, Inv X pins σ H2 s2 -> RelV x v -> RelV y u -> R x y H2 -> wpAny (model X.prog X.w) X.A (f v u) Q X.xe s2) :
  wpAny (model X.prog X.w) X.A (eval a X.env) (fun v s₁ => wpAny (model X.prog X.w) X.A (eval b X.env) (fun u s₂ => wpAny (model X.prog X.w) X.A (f v u) Q X.xe s₂) X.xe s₁) X.xe s := by
 refine thn (ha pins s σ H _ I h) fun v s1 ⟨x, H1, I1, r1, q1⟩ => ?_
 refine thn (hb pins s1 σ H1 _ I1 q1) fun u s2 ⟨y, H2, I2, r2, q2⟩ => ?_
 exact hf v u s2 x y H2 I2 r1 r2 q2
theorem pe_op {op : Operator} {r : R2} (ho : OpR X (binaryOp op) r) (ha : PE X a ta) (hb : PE X b tb) : PE X (.BinOp a op b pos) (tOp r ta tb) := by
 intro pins s σ H Q I h
 exact wpAny_BinOp (binT ha hb I h fun v u s2 x y H2 I2 rx ry q => ho pins s2 σ H2 x y v u Q I2 rx ry q)
theorem pe_un {op : UnaryOp} {r : V -> Hp -> VK -> Prop} (ho : UnR X (unaryOp op) r) (ha : PE X a ta) : PE X (.UnaryOp op a pos) (tUn r ta) := by
 intro pins s σ H Q I h
 exact UnaryOp_ (thn (ha pins s σ H _ I h) fun v s1 ⟨x, H1, I1, r1, q1⟩ => ho pins s1 σ H1 x v Q I1 r1 q1)
theorem opI {f : Value -> Value -> Sem Value} {C : Int -> Int -> Prop} {g : Int -> Int -> Int}
  (rule : ∀ (i j : Int) (t u : Tok) (s : Shared) (Q : Value -> Shared -> Prop) (E : Value -> Shared -> Prop), C i j -> Q (.int (g i j) s.toks) { s with toks := s.toks + 1 } -> wpAny (model X.prog X.w) X.A (f (.int i t) (.int j u)) Q E s) :
  OpR X f (rI C fun i j => .int (g i j)) := by
 intro pins s σ H x y v u Q I rx ry h
 obtain ⟨i, j, rfl, rfl, hc, q⟩ := h
 obtain ⟨t, rfl⟩ := rx
 obtain ⟨t', rfl⟩ := ry
 exact rule i j t t' s _ _ hc ⟨.int (g i j), H, I.tok _, ⟨_, rfl⟩, q⟩
theorem opI0 {f : Value -> Value -> Sem Value} {g : Int -> Int -> Int}
  (rule : ∀ (i j : Int) (t u : Tok) (s : Shared) (Q : Value -> Shared -> Prop) (E : Value -> Shared -> Prop), Q (.int (g i j) s.toks) { s with toks := s.toks + 1 } -> wpAny (model X.prog X.w) X.A (f (.int i t) (.int j u)) Q E s) :
  OpR X f (rI0 fun i j => .int (g i j)) := by
 intro pins s σ H x y v u Q I rx ry h
 obtain ⟨i, j, rfl, rfl, q⟩ := h
 obtain ⟨t, rfl⟩ := rx
 obtain ⟨t', rfl⟩ := ry
 exact rule i j t t' s _ _ ⟨.int (g i j), H, I.tok _, ⟨_, rfl⟩, q⟩
theorem opB0 {f : Value -> Value -> Sem Value} {g : Int -> Int -> Bool}
  (rule : ∀ (i j : Int) (t u : Tok) (s : Shared) (Q : Value -> Shared -> Prop) (E : Value -> Shared -> Prop), Q (.bool (g i j)) s -> wpAny (model X.prog X.w) X.A (f (.int i t) (.int j u)) Q E s) :
  OpR X f (rI0 fun i j => .bl (g i j)) := by
 intro pins s σ H x y v u Q I rx ry h
 obtain ⟨i, j, rfl, rfl, q⟩ := h
 obtain ⟨t, rfl⟩ := rx
 obtain ⟨t', rfl⟩ := ry
 exact rule i j t t' s _ _ ⟨.bl (g i j), H, I, rfl, q⟩
def CDiv (i j : Int) : Prop := 0 < j /\ j < 1073741824
def CPow (i j : Int) : Prop := 0 <= j /\ j <= 1000000 /\ i.natAbs < 2 ^ 64
def CMul (i j : Int) : Prop := (-(2 ^ 64) < i /\ i < 2 ^ 64) ∨ (-(2 ^ 64) < j /\ j < 2 ^ 64)
theorem CMul.ok {i j : Int} (h : CMul i j) : IntMulOk i j := by
 rcases h with ⟨h1, h2⟩ | ⟨h1, h2⟩
 ·exact .of_left (intBits_le_64 h1 h2)
 ·exact .of_right (intBits_le_64 h1 h2)
theorem op_add : OpR X (binaryOp .Add) (rI0 fun i j => .int (i + j)) := opI0 fun _ _ _ _ _ _ _ q => add_int q
theorem op_sub : OpR X (binaryOp .Sub) (rI0 fun i j => .int (i - j)) := opI0 fun _ _ _ _ _ _ _ q => sub_int q
theorem op_mul : OpR X (binaryOp .Mult) (rI CMul fun i j => .int (i * j)) := opI fun _ _ _ _ _ _ _ hc q => mul_int q hc.ok
theorem op_fdiv : OpR X (binaryOp .FloorDiv) (rI CDiv fun i j => .int (i / j)) := opI fun i j _ _ _ _ _ hc q => by
 have h1 : (0 : Int) < j := hc.1
 have h2 : j < 1073741824 := hc.2
 exact floordiv_int (by omega) (by rw [Int.fdiv_eq_ediv_of_nonneg i (by omega)]; exact q) (.inl (PyProof.noPylong_small (by omega)))
theorem op_mod : OpR X (binaryOp .Mod) (rI (fun _ j => 0 < j) fun i j => .int (i % j)) := opI fun i j _ _ _ _ _ hc q => by
 have h1 : (0 : Int) < j := hc
 exact mod_int' (by omega) (by rw [Int.fmod_eq_emod_of_nonneg i (by omega)]; exact q)
theorem op_pow : OpR X (binaryOp .Pow) (rI CPow fun i j => .int (i ^ j.toNat)) := opI fun _ _ _ _ _ _ _ hc q => pow_int_small hc.1 hc.2.1 hc.2.2 q
theorem unI {f : Value -> Sem Value} {g : Int -> Int}
  (rule : ∀ (i : Int) (t : Tok) (s : Shared) (Q : Value -> Shared -> Prop) (E : Value -> Shared -> Prop), Q (.int (g i) s.toks) { s with toks := s.toks + 1 } -> wpAny (model X.prog X.w) X.A (f (.int i t)) Q E s) :
  UnR X f (rU fun i => .int (g i)) := by
 intro pins s σ H x v Q I rx h
 obtain ⟨i, rfl, q⟩ := h
 obtain ⟨t, rfl⟩ := rx
 exact rule i t s _ _ ⟨.int (g i), H, I.tok _, ⟨_, rfl⟩, q⟩
theorem un_neg : UnR X (unaryOp .USub) (rU fun i => .int (-i)) := unI fun _ _ _ _ _ q => neg_int q
end
def scal : V -> V -> Bool
 | .non, .non => true | .non, .int _ => true | .int _, .non => true | .non, .bl _ => true | .bl _, .non => true | .non, .str _ => true | .str _, .non => true
 | .int _, .int _ => true | .bl _, .bl _ => true | .str _, .str _ => true | .byt _, .byt _ => true
 | .int _, .str _ => true | .str _, .int _ => true | .bl _, .str _ => true | .str _, .bl _ => true
 | _, _ => false
def rEq : R2 := fun x y H Q => scal x y = true /\ Q (.bl (decide (x = y))) H
def rNe : R2 := fun x y H Q => scal x y = true /\ Q (.bl (!decide (x = y))) H
theorem dec_int {i j : Int} : decide (V.int i = V.int j) = (i == j) := by
 rw [Bool.eq_iff_iff]
 simp
theorem dec_bl {i j : Bool} : decide (V.bl i = V.bl j) = (i == j) := by
 rw [Bool.eq_iff_iff]
 simp
theorem dec_str {i j : Str} : decide (V.str i = V.str j) = (i == j) := by
 rw [Bool.eq_iff_iff]
 simp
theorem dec_byt {i j : Array UInt8} : decide (V.byt i = V.byt j) = (i.toList == j.toList) := by
 rw [Bool.eq_iff_iff]
 cases i
 cases j
 simp
section
variable {X : Cx} {a b c : Expr} {ta tb tc : TE} {pos : Pos}
theorem fin_bl {pins : List (Addr × Obj)} {σ : St} {H : Hp} {s : Shared} {Q : VK} {k k' : Bool} (I : Inv X pins σ H s) (q : Q (.bl k) H) (e : k = k') : EP X pins σ Q (.bool k') s := by
 subst e
 exact ⟨.bl k, H, I, rfl, q⟩
theorem op_eq : OpR X (compareOp .Eq) rEq := by
 intro pins s σ H x y v u Q I rx ry h
 obtain ⟨hs, q⟩ := h
 cases x with
 | non =>
  cases rx
  cases y with
  | non => cases ry; exact PySem.EqNone.eq_none_none (fin_bl I q (by simp))
  | bl j => cases ry; exact PySem.EqNone.eq_none_bool (fin_bl I q (by simp))
  | int j => obtain ⟨t', rfl⟩ := ry; exact PySem.EqNone.eq_none_int (fin_bl I q (by simp))
  | str j => obtain ⟨t', rfl⟩ := ry; exact PySem.EqNone.eq_none_str (fin_bl I q (by simp))
  | _ => exact absurd (show false = true from hs) Bool.false_ne_true
 | bl i =>
  cases rx
  cases y with
  | non => cases ry; exact PySem.EqNone.eq_bool_none (fin_bl I q (by simp))
  | bl j => cases ry; exact eq_bool (fin_bl I q dec_bl)
  | str j => obtain ⟨t', rfl⟩ := ry; exact PySem.EqMixed.eq_bool_str (fin_bl I q (by simp))
  | _ => exact absurd (show false = true from hs) Bool.false_ne_true
 | int i =>
  obtain ⟨t, rfl⟩ := rx
  cases y with
  | non => cases ry; exact PySem.EqNone.eq_int_none (fin_bl I q (by simp))
  | int j => obtain ⟨t', rfl⟩ := ry; exact eq_int (fin_bl I q dec_int)
  | str j => obtain ⟨t', rfl⟩ := ry; exact PySem.EqMixed.eq_int_str (fin_bl I q (by simp))
  | _ => exact absurd (show false = true from hs) Bool.false_ne_true
 | str i =>
  obtain ⟨t, rfl⟩ := rx
  cases y with
  | non => cases ry; exact PySem.EqNone.eq_str_none (fin_bl I q (by simp))
  | bl j => cases ry; exact PySem.EqMixed.eq_str_bool (fin_bl I q (by simp))
  | int j => obtain ⟨t', rfl⟩ := ry; exact PySem.EqMixed.eq_str_int (fin_bl I q (by simp))
  | str j => obtain ⟨t', rfl⟩ := ry; exact eq_str (fin_bl I q dec_str)
  | _ => exact absurd (show false = true from hs) Bool.false_ne_true
 | byt i =>
  obtain ⟨t, rfl⟩ := rx
  cases y with
  | byt j => obtain ⟨t', rfl⟩ := ry; exact PySem.W.eq_bytes (fin_bl I q dec_byt)
  | _ => exact absurd (show false = true from hs) Bool.false_ne_true
 | _ => cases y <;> exact absurd (show false = true from hs) Bool.false_ne_true
theorem op_ne : OpR X (compareOp .NotEq) rNe := by
 intro pins s σ H x y v u Q I rx ry h
 obtain ⟨hs, q⟩ := h
 cases x with
 | non =>
  cases rx
  cases y with
  | non => cases ry; exact PySem.EqNone.ne_none_none (fin_bl I q (by simp))
  | bl j => cases ry; exact PySem.EqNone.ne_none_bool (fin_bl I q (by simp))
  | int j => obtain ⟨t', rfl⟩ := ry; exact PySem.EqNone.ne_none_int (fin_bl I q (by simp))
  | str j => obtain ⟨t', rfl⟩ := ry; exact PySem.EqNone.ne_none_str (fin_bl I q (by simp))
  | _ => exact absurd (show false = true from hs) Bool.false_ne_true
 | bl i =>
  cases rx
  cases y with
  | non => cases ry; exact PySem.EqNone.ne_bool_none (fin_bl I q (by simp))
  | bl j => cases ry; exact ne_bool (fin_bl I q (congrArg not dec_bl))
  | str j => obtain ⟨t', rfl⟩ := ry; exact PySem.EqMixed.ne_bool_str (fin_bl I q (by simp))
  | _ => exact absurd (show false = true from hs) Bool.false_ne_true
 | int i =>
  obtain ⟨t, rfl⟩ := rx
  cases y with
  | non => cases ry; exact PySem.EqNone.ne_int_none (fin_bl I q (by simp))
  | int j => obtain ⟨t', rfl⟩ := ry; exact ne_int (fin_bl I q (congrArg not dec_int))
  | str j => obtain ⟨t', rfl⟩ := ry; exact PySem.EqMixed.ne_int_str (fin_bl I q (by simp))
  | _ => exact absurd (show false = true from hs) Bool.false_ne_true
 | str i =>
  obtain ⟨t, rfl⟩ := rx
  cases y with
  | non => cases ry; exact PySem.EqNone.ne_str_none (fin_bl I q (by simp))
  | bl j => cases ry; exact PySem.EqMixed.ne_str_bool (fin_bl I q (by simp))
  | int j => obtain ⟨t', rfl⟩ := ry; exact PySem.EqMixed.ne_str_int (fin_bl I q (by simp))
  | str j => obtain ⟨t', rfl⟩ := ry; exact ne_str (fin_bl I q (congrArg not dec_str))
  | _ => exact absurd (show false = true from hs) Bool.false_ne_true
 | byt i =>
  obtain ⟨t, rfl⟩ := rx
  cases y with
  | byt j => obtain ⟨t', rfl⟩ := ry; exact PySem.W.ne_bytes (fin_bl I q (congrArg not dec_byt))
  | _ => exact absurd (show false = true from hs) Bool.false_ne_true
 | _ => cases y <;> exact absurd (show false = true from hs) Bool.false_ne_true
theorem op_lt : OpR X (compareOp .Lt) (rI0 fun i j => .bl (decide (i < j))) := opB0 fun _ _ _ _ _ _ _ q => lt_int q
theorem op_le : OpR X (compareOp .LtE) (rI0 fun i j => .bl (decide (i <= j))) := opB0 fun _ _ _ _ _ _ _ q => le_int q
theorem op_gt : OpR X (compareOp .Gt) (rI0 fun i j => .bl (decide (j < i))) := opB0 fun _ _ _ _ _ _ _ q => gt_int q
theorem op_lt_str : OpR X (compareOp .Lt) (fun x y H Q => ∃ i j, x = .str i /\ y = .str j /\ Q (.bl (decide (i.cps.toList < j.cps.toList))) H) := by
 intro pins s σ H x y v u Q I rx ry h
 obtain ⟨i, j, rfl, rfl, q⟩ := h
 obtain ⟨t, rfl⟩ := rx
 obtain ⟨t', rfl⟩ := ry
 exact lt_str (fin_bl I q rfl)
theorem nomark (b : Expr) {op : CmpOp} (h : op ≠ .In := by decide) (h2 : op ≠ .NotIn := by decide) : behindInMarks op b = false := by
 have e1 : (op == CmpOp.In) = false := by cases op <;> first | rfl | exact absurd rfl h
 have e2 : (op == CmpOp.NotIn) = false := by cases op <;> first | rfl | exact absurd rfl h2
 cases b <;> simp [behindInMarks, e1, e2]
theorem pe_cmpR {op : CmpOp} {r : R2} (ho : OpR X (compareOp op) r) (ha : PE X a ta) (hb : PE X b tb) (hm : behindInMarks op b = false) : PE X (.Compare a [op] [b] pos) (tOp r ta tb) := by
 intro pins s σ H Q I h
 exact wpAny_Compare1 (binT ha hb I h fun v u s2 x y H2 I2 rx ry q => ho pins s2 σ H2 x y v u Q I2 rx ry q) hm
def tTest (t : TE) : TT := fun σ H Q => t σ H fun x H' => ∃ k, x = .bl k /\ Q k H'
theorem pt_cmpR {op : CmpOp} {r : R2} (ho : OpR X (compareOp op) r) (ha : PE X a ta) (hb : PE X b tb) (hm : behindInMarks op b = false) : PT X (.Compare a [op] [b] pos) (tTest (tOp r ta tb)) := by
 intro pins s σ H Q I h
 refine wpAny_isTrue_Compare1 (thn (ha pins s σ H _ I h) fun v s1 ⟨x, H1, I1, r1, q1⟩ => thn (hb pins s1 σ H1 _ I1 q1) fun u s2 ⟨y, H2, I2, r2, q2⟩ =>
  thn (ho pins s2 σ H2 x y v u _ I2 r1 r2 q2) fun c s3 ⟨z, H3, I3, r3, k, e, q3⟩ => ?_) hm
 subst e
 cases r3
 exact wpAny_truthy_bool ⟨H3, I3, q3⟩
def tChain (r r' : R2) (ta tb tc : TE) : TE := fun σ H Q => ta σ H fun x H1 => tb σ H1 fun y H2 => r x y H2 fun z H3 => ∃ k, z = .bl k /\
 (if k = true then tc σ H3 fun w' H4 => r' y w' H4 Q else Q (.bl false) H3)
theorem pe_chain {op op' : CmpOp} {r r' : R2} (ho : OpR X (compareOp op) r) (ho' : OpR X (compareOp op') r') (ha : PE X a ta) (hb : PE X b tb) (hc : PE X c tc)
  (hm : lastMarks [op, op'] [b, c] = false := by with_unfolding_all rfl) : PE X (.Compare a [op, op'] [b, c] pos) (tChain r r' ta tb tc) := by
 intro pins s σ H Q I h
 refine Compare_chain (thn (ha pins s σ H _ I h) fun v s1 ⟨x, H1, I1, r1, q1⟩ => chain_link (thn (hb pins s1 σ H1 _ I1 q1) fun u s2 ⟨y, H2, I2, r2, q2⟩ =>
  thn (ho pins s2 σ H2 x y v u _ I2 r1 r2 q2) fun d s3 ⟨z, H3, I3, r3, k, e, q3⟩ => ?_)) hm
 subst e
 cases r3
 refine wpAny_truthy_bool ?_
 cases k with
 | false => exact ite_ff ⟨.bl false, H3, I3, rfl, q3⟩
 | true => exact ite_tt (chain_last (thn (hc pins s3 σ H3 _ I3 q3) fun w' s4 ⟨z', H4, I4, r4, q4⟩ => ho' pins s4 σ H4 y z' u w' Q I4 r2 r4 q4))
theorem pt_chain {op op' : CmpOp} {r r' : R2} (ho : OpR X (compareOp op) r) (ho' : OpR X (compareOp op') r') (ha : PE X a ta) (hb : PE X b tb) (hc : PE X c tc)
  (hm : lastMarks [op, op'] [b, c] = false := by with_unfolding_all rfl) : PT X (.Compare a [op, op'] [b, c] pos) (tTest (tChain r r' ta tb tc)) := by
 intro pins s σ H Q I h
 refine isTrue_chain (thn (ha pins s σ H _ I h) fun v s1 ⟨x, H1, I1, r1, q1⟩ => test_link (thn (hb pins s1 σ H1 _ I1 q1) fun u s2 ⟨y, H2, I2, r2, q2⟩ =>
  thn (ho pins s2 σ H2 x y v u _ I2 r1 r2 q2) fun d s3 ⟨z, H3, I3, r3, k, e, q3⟩ => ?_)) hm
 subst e
 cases r3
 refine wpAny_truthy_bool ?_
 cases k with
 | false =>
  obtain ⟨k', e', q'⟩ := q3
  cases e'
  exact ite_ff ⟨H3, I3, q'⟩
 | true =>
  refine ite_tt (test_last (thn (hc pins s3 σ H3 _ I3 q3) fun w' s4 ⟨z', H4, I4, r4, q4⟩ => thn (ho' pins s4 σ H4 y z' u w' _ I4 r2 r4 q4) fun d' s5 ⟨z2, H5, I5, r5, k2, e2, q5⟩ => ?_))
  subst e2
  cases r5
  exact wpAny_truthy_bool ⟨H5, I5, q5⟩
theorem line63 : (sizeLine : Nat) < 2 ^ 63 := by rw [sizeLine_eq]; decide
theorem op_add_str : OpR X (binaryOp .Add) (fun x y H Q => ∃ i j, x = .str i /\ y = .str j /\ i.length + j.length <= sizeLine /\ Q (.str (i ++ j)) H) := by
 intro pins s σ H x y v u Q I rx ry h
 obtain ⟨i, j, rfl, rfl, hz, q⟩ := h
 obtain ⟨t, rfl⟩ := rx
 obtain ⟨t', rfl⟩ := ry
 exact add_str (fun t' tk => ⟨.str (i ++ j), H, I.tok _, ⟨_, rfl⟩, q⟩) hz
theorem vals1 {x : V} {us : List Value} (r : Vals [x] us) : ∃ u, us = [u] /\ RelV x u := by
 cases r with
 | cons r1 r2 => cases r2; exact ⟨_, rfl, r1⟩
theorem vals2 {x y : V} {us : List Value} (r : Vals [x, y] us) : ∃ u w', us = [u, w'] /\ RelV x u /\ RelV y w' := by
 cases r with
 | cons r1 r2 =>
  cases r2 with
  | cons r3 r4 => cases r4; exact ⟨_, _, rfl, r1, r3⟩
theorem call_abs : CallR X (.builtin "abs") (fun xs H Q => ∃ i, xs = [.int i] /\ Q (.int (if i < 0 then -i else i)) H) := by
 intro pins s σ H xs us Q I r h
 obtain ⟨i, rfl, q⟩ := h
 obtain ⟨u, rfl, t, rfl⟩ := vals1 r
 exact call_abs_int fun u tk => ⟨.int (if i < 0 then -i else i), H, I.tok _, ⟨_, rfl⟩, q⟩
theorem call_min2 (hc : X.calm = true) : CallR X (.builtin "min") (fun xs H Q => ∃ i j, xs = [.int i, .int j] /\ Q (.int (if j < i then j else i)) H) := by
 intro pins s σ H xs us Q I r h
 obtain ⟨i, j, rfl, q⟩ := h
 obtain ⟨u, w', rfl, ⟨t, rfl⟩, ⟨t', rfl⟩⟩ := vals2 r
 refine min_two_ints (I.ok.hd hc) fun h' tk k => ⟨_, H, I.kept k, ?_, q⟩
 by_cases hj : j < i
 ·rw [if_pos hj, if_pos hj]; exact ⟨_, rfl⟩
 ·rw [if_neg hj, if_neg hj]; exact ⟨_, rfl⟩
theorem call_int1 : CallR X (.type "int") (fun xs H Q => (∃ i, xs = [.int i] /\ Q (.int i) H) ∨ ∃ k, xs = [.bl k] /\ Q (.int (if k then 1 else 0)) H) := by
 intro pins s σ H xs us Q I r h
 rcases h with ⟨i, rfl, q⟩ | ⟨k, rfl, q⟩
 ·obtain ⟨u, rfl, t, rfl⟩ := vals1 r
  exact call_int_int ⟨.int i, H, I, ⟨_, rfl⟩, q⟩
 ·obtain ⟨u, rfl, r1⟩ := vals1 r
  cases r1
  exact call_int_bool ⟨.int (if k then 1 else 0), H, I.tok _, ⟨_, rfl⟩, q⟩
end
end L2
namespace L2
open PySem PySem.Spec PyProof.Rows
structure ObjM (h : Heap) (x dx C : Addr) (mA : Str -> Option Value) : Prop where
 obj : h.get? x = some (PySem.W.instObj C dx)
 ns : h.Ns1 dx mA
 ne : dx ≠ x
theorem lookIn_ns {h : Heap} {dx : Addr} {mA : Str -> Option Value} (n : h.Ns1 dx mA) : ∃ od, h.get? dx = some od /\ ∀ name, PySem.W.lookIn name od = some (mA name) := by
 obtain ⟨o, es, ep, ho, hd, hk, _, hm⟩ := n
 refine ⟨o, ho, fun name => ?_⟩
 have e := hm name
 unfold nsFind findBy at e
 rw [<- Array.find?_toList] at e
 unfold PySem.W.lookIn
 rw [hd]
 dsimp only
 split
 ·rename_i y q
  rw [q] at e
  exact congrArg some e
 ·rename_i q
  rw [q] at e
  have a : es.toList.any (·.refKey) = false := by
   rw [List.any_eq_false]
   intro y hy
   obtain ⟨z, t, hkey⟩ := hk y (Array.mem_toList_iff.mp hy)
   simp [DictEntry.refKey, hkey]
  have a' : ¬ es.toList.any (·.refKey) = true := by rw [a]; exact Bool.false_ne_true
  rw [if_neg a']
  exact congrArg some e
theorem ObjM.look {h : Heap} {x dx C : Addr} {mA : Str -> Option Value} (I : ObjM h x dx C mA) : ∃ od, PySem.W.InstAt h x (PySem.W.instObj C dx) C (some od) /\ ∀ name, PySem.W.lookIn name od = some (mA name) :=
 let ⟨od, ho, hl⟩ := lookIn_ns I.ns
 ⟨od, ⟨I.obj, rfl, rfl, ho⟩, hl⟩
section
variable {prog : Program} {w : World} {A : Around} {E : Value -> Shared -> Prop} {s : Shared} {K : PySem.W.Frag} {x dx C f : Addr} {mA : Str -> Option Value} {name : Str} {v : Value}
theorem get_map {expr : Bool} {Q : Value -> Shared -> Prop} (X : K.In s.heap) (I : ObjM s.heap x dx C mA) (hg : PySem.W.plainGet K C name = true) (hh : PySem.W.hasDictIn K C = true)
  (ha : PySem.W.findIn K (.ref C) name = some none) (hv : mA name = some v) (hv' : PySem.W.handedIn v = true) (h : Q v { s with toks := s.toks + 1 }) :
  wpAny (model prog w) A (getAttr (.ref x) name expr) Q E s := by
 obtain ⟨od, J, hl⟩ := I.look
 exact PySem.W.get_value X J (PySem.W.plainGet_of hg).1 (PySem.W.findObj_own hh ha rfl (by rw [hl, hv])) hv' h
theorem get_meth {pl : Sem Bool} {Q : Value × List Value -> Shared -> Prop} (X : K.In s.heap) (I : ObjM s.heap x dx C mA) (hg : PySem.W.plainGet K C name = true)
  (hf : PySem.W.findIn K (.ref C) name = some (some (.ref f))) (ht : PySem.W.isFn K (.ref f) = true) (hv : mA name = none) (h : Q (.ref f, [.ref x]) s) :
  wpAny (model prog w) A (getMethod (.ref x) name pl) Q E s := by
 obtain ⟨od, J, hl⟩ := I.look
 exact PySem.W.method_fn X J (PySem.W.plainGet_of hg).1 (PySem.W.plainGet_of hg).2 hf (beq_iff_eq.mp ht) (by show (PySem.W.lookIn name od).map (·.isSome) = some false; rw [hl, hv]; rfl) h
theorem set_map {ns : List Str} {Q : Unit -> Shared -> Prop} (X : K.In s.heap) (I : ObjM s.heap x dx C mA)
  (hs : PySem.W.findIn K (.ref C) "__setattr__" = some (some (.builtin "object.__setattr__"))) (hp : PySem.W.plainOver K C = true) (ht : PySem.W.takerIn K C name = some none) (hh : PySem.W.hasDictIn K C = true)
  (hw : PySem.Within mA ns) (hsz : ns.length <= sizeLine)
  (h : ∀ h', ObjM h' x dx C (fun y => if y = name then some v else mA y) -> Heap.SameBut dx s.heap h' -> Q () { s with heap := h', toks := s.toks + 2 }) :
  wpAny (model prog w) A (setAttr (.ref x) name v) Q E s := by
 obtain ⟨od, J, hl⟩ := I.look
 refine PySem.W.set_plain X J hs (PySem.W.osa_open (s := { s with toks := s.toks + 1 }) (r := none) X J hp ht fun b => ?_)
 obtain ⟨cd, hc, hd'⟩ := PySem.W.any_some hh
 have hx : s.heap.get? x = some ⟨.ref C, some dx, .plain, #[]⟩ := I.obj
 refine wpAny_bind (wpAny_pure (wpAny_bind (wpAny_bind (wpAny_loadPart hx (wpAny_bind (PySem.W.Looks.here (s := { s with toks := s.toks + 1 }) (PySem.W.looks_clsIn X hc) ?_))))))
 rw [hd']
 refine wpAny_pure (a := some dx) (wpAny_bind (wpAny_pure (wpAny_bind ?_)))
 refine wpAny_nsSet1 (s := { s with toks := s.toks + 1 }) I.ns fun h' hn2 hs2 => ?_
 obtain ⟨oD, esD, epD, hoD, hdD, hcD⟩ := hn2.count (PySem.Within.cons name v hw)
 refine wpAny_bind (wpAny_lookBehind hoD (by rw [hdD]; exact pastItsLine_dict (Nat.le_trans hcD (by rw [List.length_cons]; omega))) ?_)
 exact wpAny_pure (h _ ⟨(hs2.2 _ (Ne.symm I.ne)).trans I.obj, hn2, I.ne⟩ hs2)
theorem make_map {R : Result -> Shared -> Prop} {vs : List Value} {kw : List (Str × Value)} (X : K.In s.heap) (hm : PySem.W.makesIn K C = true)
  (hi : PySem.W.findIn K (.ref C) "__init__" = some (some (.ref f))) (hf : PySem.W.typeIn K (.ref f) = some (.type "function"))
  (h : codeAny (model prog w) (A.under (.builtin "type.__call__" ⟨.ref C :: vs, kw⟩)) (.call (.ref f) ⟨.ref (s.heap.objs.size + 1) :: vs, kw⟩) (PySem.W.InitBack (s.heap.objs.size + 1) R)
   { s with heap := (s.heap.push PySem.W.emptyDict).push (PySem.W.instObj C s.heap.objs.size) }) :
  codeAny (model prog w) A (.call (.ref C) ⟨vs, kw⟩) R s := by
 obtain ⟨hh, g, d, t, os⟩ := s
 exact PySem.W.make_core (PySem.W.makes_of X hm) (PySem.W.looks_findIn X hi) (fun self => PySem.W.bind_fn X self hf) (.inl rfl) h
end
def putF (f : Str) (v : V) : List (Str × V) -> List (Str × V)
 | [] => [(f, v)]
 | (g, x) :: r => if g = f then (g, v) :: r else (g, x) :: putF f v r
theorem lookup_putF (f g : Str) (v : V) : ∀ fs : List (Str × V), (putF f v fs).lookup g = if g = f then some v else fs.lookup g
 | [] => by
  show List.lookup g [(f, v)] = _
  by_cases h : g = f
  ·have hb : (g == f) = true := beq_iff_eq.mpr h
   simp only [List.lookup, hb, if_pos h]
  ·have hb : (g == f) = false := beq_eq_false_iff_ne.mpr h
   simp only [List.lookup, hb, if_neg h]
 | (k, x) :: r => by
  have ih := lookup_putF f g v r
  rw [show putF f v ((k, x) :: r) = (if k = f then (k, v) :: r else (k, x) :: putF f v r) from rfl]
  by_cases hk : k = f
  ·rw [if_pos hk]
   by_cases h : g = k
   ·have hb : (g == k) = true := beq_iff_eq.mpr h
    simp only [List.lookup, hb, if_pos (h.trans hk)]
   ·have hb : (g == k) = false := beq_eq_false_iff_ne.mpr h
    simp only [List.lookup, hb, if_neg (fun e : g = f => h (e.trans hk.symm))]
  ·rw [if_neg hk]
   by_cases h : g = k
   ·have hb : (g == k) = true := beq_iff_eq.mpr h
    simp only [List.lookup, hb, if_neg (fun e : g = f => hk (h.symm.trans e))]
   ·have hb : (g == k) = false := beq_eq_false_iff_ne.mpr h
    simp only [List.lookup, hb]
    exact ih
theorem keys_putF (f : Str) (v : V) : ∀ fs : List (Str × V), f ∈ (putF f v fs).map (·.1) /\ ∀ g, g ∈ fs.map (·.1) -> g ∈ (putF f v fs).map (·.1)
 | [] => ⟨by simp [putF], fun g h => by simp at h⟩
 | (k, x) :: r => by
  obtain ⟨i1, i2⟩ := keys_putF f v r
  rw [show putF f v ((k, x) :: r) = (if k = f then (k, v) :: r else (k, x) :: putF f v r) from rfl]
  by_cases hk : k = f
  ·rw [if_pos hk]
   subst hk
   exact ⟨by simp, fun g h => by simpa using h⟩
  ·rw [if_neg hk]
   refine ⟨?_, fun g h => ?_⟩
   ·rw [List.map_cons]
    exact List.mem_cons_of_mem _ i1
   ·rw [List.map_cons] at h ⊢
    rcases List.mem_cons.mp h with e | e
    ·exact List.mem_cons.mpr (.inl e)
    ·exact List.mem_cons_of_mem _ (i2 g e)
theorem length_putF (f : Str) (v : V) : ∀ fs : List (Str × V), (putF f v fs).length <= fs.length + 1
 | [] => by simp [putF]
 | (k, x) :: r => by
  have ih := length_putF f v r
  rw [show putF f v ((k, x) :: r) = (if k = f then (k, v) :: r else (k, x) :: putF f v r) from rfl]
  by_cases hk : k = f
  ·rw [if_pos hk, List.length_cons, List.length_cons]; omega
  ·rw [if_neg hk, List.length_cons, List.length_cons]; omega
theorem RelO.some_of {v : V} {o : Option Value} (r : RelO (some v) o) : ∃ u, o = some u /\ RelV v u := by
 cases o with
 | none => exact (show False from r).elim
 | some u => exact ⟨u, rfl, r⟩
theorem RelO.none_of {o : Option Value} (r : RelO none o) : o = none := by
 cases o with
 | none => rfl
 | some u => exact (show False from r).elim
theorem handed_of {v : V} {u : Value} (r : RelV v u) : PySem.W.handedIn u = true := by
 cases v with
 | non => cases (show u = Value.none from r); rfl
 | bl b => cases (show u = Value.bool b from r); rfl
 | int i => obtain ⟨t, e⟩ := (show ∃ t, u = Value.int i t from r); cases e; rfl
 | str x => obtain ⟨t, e⟩ := (show ∃ t, u = Value.str x t from r); cases e; rfl
 | byt b => obtain ⟨t, e⟩ := (show ∃ t, u = Value.bytes b t from r); cases e; rfl
 | flt b => obtain ⟨t, e⟩ := (show ∃ t, u = Value.float b t from r); cases e; rfl
 | ref a => cases (show u = Value.ref a from r); rfl
 | ty n => cases (show u = Value.type n from r); rfl
section
variable {P : Program} {w : World} {H H' : Hp} {h h' : Heap} {a C dx : Addr} {fs fs' : List (Str × V)}
theorem ins_get (hok : HOk P w H h) (e : H a = some (.ins C dx fs)) : ∃ mA, ObjM h a dx C mA /\ (∀ f, RelO (fs.lookup f) (mA f)) /\ PySem.Within mA (fs.map (·.1)) /\ fs.length <= 1000 /\ H dx = some (.own a) := by
 obtain ⟨d, z, ne, ob, mA, n, r, q⟩ := (show ObjOk P w H h a (.ins C dx fs) from hok a _ e)
 exact ⟨mA, ⟨ob, n, ne⟩, r, q, z, d⟩
end
structure Cls (K : PySem.W.Frag) (C : Addr) : Prop where
 pg : PySem.W.plainGet K C Str.empty = true
 hd : PySem.W.hasDictIn K C = true
 po : PySem.W.plainOver K C = true
 sa : PySem.W.findIn K (.ref C) "__setattr__" = some (some (.builtin "object.__setattr__"))
theorem Cls.get {K : PySem.W.Frag} {C : Addr} (c : Cls K C) (f : Str) : PySem.W.plainGet K C f = true := c.pg
def NoAttr (K : PySem.W.Frag) (C : Addr) (f : Str) : Prop := PySem.W.findIn K (.ref C) f = some none
theorem NoAttr.taker {K : PySem.W.Frag} {C : Addr} {f : Str} (n : NoAttr K C f) : PySem.W.takerIn K C f = some none := by
 unfold PySem.W.takerIn
 rw [show PySem.W.findIn K (.ref C) f = some none from n]
 rfl
structure Con (K : PySem.W.Frag) (C : Addr) (f : Str) (v : V) (u : Value) : Prop where
 at_ : PySem.W.findIn K (.ref C) f = some (some u)
 rel : RelV v u
 get : PySem.W.specialIn K u "__get__" = some none
 cp : PySem.W.copiedNames.contains f = false
structure Meth (K : PySem.W.Frag) (C : Addr) (m : Str) (f : Addr) : Prop where
 at_ : PySem.W.findIn K (.ref C) m = some (some (.ref f))
 fn : PySem.W.isFn K (.ref f) = true
 kp : PySem.W.keepIn K (.ref f) = true
section
variable {X : Cx} {pins : List (Addr × Obj)} {σ : St} {H : Hp} {s : Shared} {a C dx : Addr} {fs : List (Str × V)} {f : Str} {v : V} {A : Around} {E : Value -> Shared -> Prop}
theorem getattr_ok {b : Bool} {Q : Value -> Shared -> Prop} (I : Inv X pins σ H s) (e : H a = some (.ins C dx fs)) (c : Cls X.K C) (n : NoAttr X.K C f) (l : fs.lookup f = some v)
  (h : ∀ u s', Inv X pins σ H s' -> RelV v u -> Q u s') : wpAny (model X.prog X.w) A (getAttr (.ref a) f b) Q E s := by
 obtain ⟨mA, O, r, _, _, _⟩ := ins_get I.hok e
 obtain ⟨u, hu, ru⟩ := RelO.some_of (v := v) (o := mA f) (by rw [<- l]; exact r f)
 exact get_map I.kIn O (c.get f) c.hd n hu (handed_of ru) (h u _ (I.tok _) ru)
theorem getmeth_ok {m : Str} {g : Addr} {pl : Sem Bool} {Q : Value × List Value -> Shared -> Prop} (I : Inv X pins σ H s) (e : H a = some (.ins C dx fs)) (c : Cls X.K C) (k : Meth X.K C m g) (l : fs.lookup m = none)
  (h : Q (.ref g, [.ref a]) s) : wpAny (model X.prog X.w) A (getMethod (.ref a) m pl) Q E s := by
 obtain ⟨mA, O, r, _, _, _⟩ := ins_get I.hok e
 have hn : mA m = none := RelO.none_of (by rw [<- l]; exact r m)
 exact get_meth I.kIn O (c.get m) k.at_ k.fn hn h
theorem setattr_ok {y : V} {u : Value} {Q : Unit -> Shared -> Prop} (I : Inv X pins σ H s) (e : H a = some (.ins C dx fs)) (c : Cls X.K C) (n : NoAttr X.K C f) (hl : fs.length < 1000) (ry : RelV y u)
  (h : ∀ s', Inv X pins σ (upd H a (.ins C dx (putF f y fs))) s' -> Q () s') : wpAny (model X.prog X.w) A (setAttr (.ref a) f u) Q E s := by
 obtain ⟨mA, O, r, wi, _, ho⟩ := ins_get I.hok e
 have hz : (fs.map (·.1)).length <= sizeLine := by rw [List.length_map, sizeLine_eq]; omega
 refine set_map I.kIn O c.sa c.po n.taker c.hd wi hz fun h' O' sb => h _ ?_
 have hd : ∃ o, h'.get? dx = some o := let ⟨o, _, _, e', _⟩ := O'.ns; ⟨o, e'⟩
 refine I.write (x := a) (e := dx) (by rw [e]; exact True.intro) (.inr ho) (fun b q hb z => (sb.2 b hb).trans z) hd ?_
 refine ⟨by rw [upd_ne O.ne]; exact ho, ?_, O.ne, O'.obj, _, O'.ns, fun g => ?_, fun g hg => ?_⟩
 ·have := length_putF f y fs; omega
 ·show RelO ((putF f y fs).lookup g) (if g = f then some u else mA g)
  rw [lookup_putF]
  by_cases q : g = f
  ·rw [if_pos q, if_pos q]; exact ry
  ·rw [if_neg q, if_neg q]; exact r g
 ·by_cases q : g = f
  ·rw [q]; exact (keys_putF f y fs).1
  ·refine (keys_putF f y fs).2 g (wi g fun z => hg ?_)
   show (if g = f then some u else mA g) = none
   rw [if_neg q]; exact z
theorem Inv.made (I : Inv X pins σ H s) : Inv X pins σ (upd (upd H s.heap.objs.size (.own (s.heap.objs.size + 1))) (s.heap.objs.size + 1) (.ins C s.heap.objs.size []))
  { s with heap := (s.heap.push PySem.W.emptyDict).push (PySem.W.instObj C s.heap.objs.size) } := by
 have e1 : (s.heap.push PySem.W.emptyDict).get? s.heap.objs.size = some PySem.W.emptyDict := Heap.get?_push_size s.heap rfl
 have e2 : ((s.heap.push PySem.W.emptyDict).push (PySem.W.instObj C s.heap.objs.size)).get? (s.heap.objs.size + 1) = some (PySem.W.instObj C s.heap.objs.size) := by
  have := Heap.get?_push_size (s.heap.push PySem.W.emptyDict) (o := PySem.W.instObj C s.heap.objs.size) rfl
  rwa [Heap.size_push] at this
 have e3 : (s.heap.push PySem.W.emptyDict).Ns s.heap.objs.size (fun _ => none) := ⟨PySem.W.emptyDict, #[], _, e1, rfl, (fun e he => absurd he (by simp)), fun _ => rfl⟩
 have I1 := I.laid (a := s.heap.objs.size) (o := .own (s.heap.objs.size + 1)) (h' := s.heap.push PySem.W.emptyDict) (t' := s.toks) (fun b u q => Heap.get?_push_of_some _ q) (Nat.le_refl _) ⟨_, e1⟩
 refine I1.laid (a := s.heap.objs.size + 1) (o := .ins C s.heap.objs.size []) (t' := s.toks) (fun b u q => Heap.get?_push_of_some _ q) (Nat.le_of_eq (Heap.size_push _ _)) ?_
 have ne : s.heap.objs.size ≠ s.heap.objs.size + 1 := Nat.ne_of_lt (Nat.lt_succ_self _)
 refine ⟨by rw [upd_ne ne, upd_same], Nat.zero_le _, ne, e2, fun _ => none, (Heap.Ns1.of_empty e3).at fun o q => Heap.get?_push_of_some _ q, fun _ => True.intro, fun y hy => absurd rfl hy⟩
theorem attr_of {prog : Program} {w : World} {env : Env} {e : Expr} {f : Str} {pos : Pos} {s : Shared} {Q : Value -> Shared -> Prop} (hb : attributeBase e f env (eval e env) = eval e env)
  (h : wpAny (model prog w) A (eval e env) (fun o s₁ => wpAny (model prog w) A (getAttr o f true) Q E s₁) E s) : wpAny (model prog w) A (eval (.Attribute e f pos) env) Q E s :=
 Attribute_any_ h (by rw [arm_eval_Attribute, hb])
end
def tFld (K : PySem.W.Frag) (ta : TE) (f : Str) : TE := fun σ H Q => ta σ H fun x H1 => ∃ a C dx fs v, x = .ref a /\ H1 a = some (.ins C dx fs) /\ Cls K C /\ NoAttr K C f /\ fs.lookup f = some v /\ Q v H1
def sFld (K : PySem.W.Frag) (ta tv : TE) (f : Str) : TS := fun D σ H => tv σ H fun y H1 => ta σ H1 fun x H2 => ∃ a C dx fs, x = .ref a /\ H2 a = some (.ins C dx fs) /\ Cls K C /\ NoAttr K C f /\ fs.length < 1000 /\
 D.nx σ (upd H2 a (.ins C dx (putF f y fs)))
section
variable {X : Cx} {o e value : Expr} {f : Str} {pos pos' tpos : Pos} {ta tv : TE}
theorem pe_fld (he : PE X e ta) (hb : attributeBase e f X.env (eval e X.env) = eval e X.env) : PE X (.Attribute e f pos) (tFld X.K ta f) := by
 intro pins s σ H Q I h
 refine attr_of hb (thn (he pins s σ H _ I h) fun u s1 ⟨x, H1, I1, rx, a, C, dx, fs, v, ex, ea, c, n, l, q⟩ => ?_)
 subst ex
 obtain rfl : u = Value.ref a := rx
 exact getattr_ok I1 ea c n l fun u' s2 I2 ru => ⟨v, H1, I2, ru, q⟩
theorem ps_fld (ha : PE X o ta) (hv : PE X value tv) (hs : swapsWith value (some (.Attribute o f pos')) pos.line X.env = pure false) : PS X (.Assign [.Attribute o f pos'] value pos) (sFld X.K ta tv f) := by
 intro pins s σ H D I h
 refine plainObj_wpAny_Assign_Attribute (thn (hv pins s σ H _ I h) fun u s1 ⟨y, H1, I1, ry, q⟩ => thn (ha pins s1 σ H1 _ I1 q) fun ov s2 ⟨x, H2, I2, rx, a, C, dx, fs, ex, ea, c, n, l, q2⟩ => ?_) hs
 subst ex
 obtain rfl : ov = Value.ref a := rx
 exact setattr_ok I2 ea c n l ry fun s3 I3 => ⟨σ, _, I3, q2⟩
end
section
variable {X : Cx} {pins : List (Addr × Obj)} {σ : St} {H : Hp} {s : Shared} {A : Around} {E : Value -> Shared -> Prop} {Q : Value -> Shared -> Prop} {c : Value} {b : Bool}
inductive TyOf (K : PySem.W.Frag) (H : Hp) : V -> Value -> Prop where
 | non : TyOf K H .non (.type "NoneType")
 | bl (x : Bool) : TyOf K H (.bl x) (.type "bool")
 | int (i : Int) : TyOf K H (.int i) (.type "int")
 | str (x : Str) : TyOf K H (.str x) (.type "str")
 | flt (x : UInt64) : TyOf K H (.flt x) (.type "float")
 | lst {a : Addr} {xs : List V} (e : H a = some (.lst xs)) : TyOf K H (.ref a) (.type "list")
 | frz {a : Addr} {o : Obj} {xs : List V} (e : H a = some (.frz o (.lst xs))) : TyOf K H (.ref a) (.type "list")
 | tup {a : Addr} {xs : List V} (e : H a = some (.tup xs)) : TyOf K H (.ref a) (.type "tuple")
 | dK {a : Addr} {kvs : List (Key × V)} (e : H a = some (.dK kvs)) : TyOf K H (.ref a) (.type "dict")
 | dT {a : Addr} {kvs : List (List Key × V)} (e : H a = some (.dT kvs)) : TyOf K H (.ref a) (.type "dict")
 | ins {a C dx : Addr} {fs : List (Str × V)} (e : H a = some (.ins C dx fs)) (cl : Cls K C) (ha : PySem.W.findIn K (.ref C) "__class__" = some (some (.builtin "object.__class__")))
   (hn : PySem.W.specialIn K (.builtin "object.__class__") "__get__" = some (some (.builtin "getset_descriptor.__get__"))) (htk : PySem.W.takesIn K (.builtin "object.__class__") = some true)
   (hm : PySem.W.mroIn K C (.type "object") = some true) : TyOf K H (.ref a) (.ref C)
theorem isinst_ok {x : V} {u t : Value} (I : Inv X pins σ H s) (rx : RelV x u) (ty : TyOf X.K H x t) (e : PySem.W.kitOne X.K t c = some b) (h : ∀ tk, Q (.bool b) { s with toks := tk }) :
  wpAny (model X.prog X.w) A (call (.builtin "isinstance") [u, c]) Q E s := by
 cases ty with
 | non => cases (show u = Value.none from rx); exact PySem.W.kia_one PySem.W.kitx_none I.kIn True.intro e (fun z => nomatch z) h
 | bl y => cases (show u = Value.bool y from rx); exact PySem.W.kia_one PySem.W.kitx_bool I.kIn True.intro e (fun z => nomatch z) h
 | int i => obtain ⟨t, q⟩ := (show ∃ t, u = Value.int i t from rx); cases q; exact PySem.W.kia_one PySem.W.kitx_int I.kIn True.intro e (fun z => nomatch z) h
 | str y => obtain ⟨t, q⟩ := (show ∃ t, u = Value.str y t from rx); cases q; exact PySem.W.kia_one PySem.W.kitx_str I.kIn True.intro e (fun z => nomatch z) h
 | flt y => obtain ⟨t, q⟩ := (show ∃ t, u = Value.float y t from rx); cases q; exact PySem.W.kia_one PySem.W.kitx_float I.kIn True.intro e (fun z => nomatch z) h
 | @lst a xs ea =>
  cases (show u = Value.ref a from rx)
  obtain ⟨_, _, n, _, h1⟩ := (show ObjOk X.prog X.w H s.heap a (.lst xs) from I.hok a _ ea)
  exact PySem.W.kia_one PySem.W.kitx_list I.kIn ⟨_, h1, rfl⟩ e (fun z => nomatch z) h
 | @frz a ob xs ea =>
  cases (show u = Value.ref a from rx)
  obtain ⟨_, _, _, n, _, h1⟩ := (show ObjOk X.prog X.w H s.heap a (.frz ob (.lst xs)) from I.hok a _ ea)
  exact PySem.W.kia_one PySem.W.kitx_list I.kIn ⟨_, h1, rfl⟩ e (fun z => nomatch z) h
 | @tup a xs ea =>
  cases (show u = Value.ref a from rx)
  obtain ⟨_, _, _, p, _⟩ := (show ObjOk X.prog X.w H s.heap a (.tup xs) from I.hok a _ ea)
  obtain ⟨o, h1, h2, _⟩ := p
  exact PySem.W.kia_one PySem.W.kitx_tuple I.kIn ⟨o, h1, h2⟩ e (fun z => nomatch z) h
 | @dK a kvs ea =>
  cases (show u = Value.ref a from rx)
  obtain ⟨_, _, vs, _, p⟩ := (show ObjOk X.prog X.w H s.heap a (.dK kvs) from I.hok a _ ea)
  obtain ⟨o, es, ep, h1, h2, _⟩ := p
  exact PySem.W.kia_one PySem.W.kitx_dict I.kIn ⟨o, h1, h2.1⟩ e (fun z => nomatch z) h
 | @dT a kvs ea =>
  cases (show u = Value.ref a from rx)
  obtain ⟨_, _, xs, _, o, es, ep, h1, h2, _⟩ := (show ObjOk X.prog X.w H s.heap a (.dT kvs) from I.hok a _ ea)
  exact PySem.W.kia_one PySem.W.kitx_dict I.kIn ⟨o, h1, h2.1⟩ e (fun z => nomatch z) h
 | @ins a C dx fs ea cl ha hn htk hm =>
  cases (show u = Value.ref a from rx)
  obtain ⟨mA, O, _⟩ := ins_get I.hok ea
  obtain ⟨od, J, _⟩ := O.look
  exact PySem.W.kia_one (PySem.W.kitx_own (cl.get _) cl.hd ha hn htk hm) I.kIn J e (fun z => nomatch z) h
end
end L2
namespace L2
open PySem PySem.Spec PyProof.Rows
structure Room (k : Nat) (A : Around) : Prop where
 hd : A.handled = none
 dp : A.depth + 3 * k + 5 < recursionLimit
 un : A.units + 16 * k + 200 < cLine
theorem Room.mono {j k : Nat} {A : Around} (r : Room k A) (h : j <= k) : Room j A := ⟨r.hd, by have := r.dp; omega, by have := r.un; omega⟩
theorem Room.deeper {k : Nat} {A : Around} (r : Room (k + 1) A) (env : Env) : Room k (A.deeper env) :=
 ⟨r.hd, by have := r.dp; show A.depth + 1 + 3 * k + 5 < _; omega, by have := r.un; show A.units + 3 + 16 * k + 200 < _; omega⟩
theorem make_depth {A : Around} {C : Addr} {us : List Value} {kw : List (Str × Value)} : (A.under (.builtin "type.__call__" ⟨.ref C :: us, kw⟩)).depth = A.depth + 1 := by
 first | rfl | simp [Around.under, Code.weight, Code.isCreation, Code.isGuard, Code.isCaller, Code.frames, Code.isFrame, guardIds]
theorem make_units {A : Around} {C : Addr} {us : List Value} {kw : List (Str × Value)} : (A.under (.builtin "type.__call__" ⟨.ref C :: us, kw⟩)).units = A.units + 1 := by
 first | rfl | simp [Around.under, Code.cUnits, Code.frames, Code.isFrame]
theorem Room.make {k : Nat} {A : Around} (r : Room (k + 1) A) (C : Addr) (us : List Value) (kw : List (Str × Value)) : Room k (A.under (.builtin "type.__call__" ⟨.ref C :: us, kw⟩)) :=
 ⟨r.hd, by have := r.dp; rw [make_depth]; omega, by have := r.un; rw [make_units]; omega⟩
theorem Room.depth {k : Nat} {A : Around} (r : Room k A) : A.depth < recursionLimit := by have := r.dp; omega
theorem Room.units {k : Nat} {A : Around} (r : Room k A) : A.units + 64 < cLine := by have := r.un; omega
def tNil : TA := fun _ H Q => Q [] H
def tCons (ta : TE) (tr : TA) : TA := fun σ H Q => ta σ H fun x H1 => tr σ H1 fun xs H2 => Q (x :: xs) H2
section
variable {X : Cx} {e : Expr} {es : List Expr} {te : TE} {t : TA} {pos : Pos}
theorem pa_nil : PA X [] tNil := fun _ _ _ _ H Q I h => Calls.spliced_nil ⟨[], H, I, .nil, h⟩
theorem pa_cons (ha : PE X e te) (hr : PA X es t) (hs : starEach (e :: es) X.env = (false, eval e X.env) :: starEach es X.env := by rfl) : PA X (e :: es) (tCons te t) := by
 intro pos pins s σ H Q I h
 rw [hs]
 show wpAny _ _ (spliced ((false, eval e X.env) :: backTo pos (starEach es X.env))) _ _ s
 refine Calls.spliced_cons (thn (ha pins s σ H _ I h) fun u s1 ⟨x, H1, I1, r1, q1⟩ => ?_)
 exact thn (hr pos pins s1 σ H1 _ I1 q1) fun us s2 ⟨xs, H2, I2, r2, q2⟩ => ⟨x :: xs, H2, I2, .cons r1 r2, q2⟩
def tTup (t : TA) : TE := fun σ H Q => t σ H fun xs H1 => xs.length <= sizeLine /\ ∀ p, H1 p = none -> Q (.ref p) (upd H1 p (.tup xs))
def tLst (t : TA) : TE := fun σ H Q => t σ H fun xs H1 => xs.length <= sizeLine /\ ∀ p, H1 p = none -> Q (.ref p) (upd H1 p (.lst xs))
theorem pe_tup {x1} (h : PA X es t) : PE X (.Tuple es x1 pos) (tTup t) := by
 intro pins s σ H Q I hq
 refine wpAny_Tuple_spliced (thn (h pos pins s σ H _ I hq) fun us s1 ⟨xs, H1, I1, r, z, q⟩ => ⟨by rw [<- r.length]; exact z, ?_⟩)
 have hf : H1 s1.heap.objs.size = none := I1.hok.fresh (Nat.le_refl _)
 refine ⟨.ref s1.heap.objs.size, upd H1 s1.heap.objs.size (.tup xs), I1.laid (t' := s1.toks) (fun b u e => Heap.get?_push_of_some _ e) (Nat.le_refl _) ?_, rfl, q _ hf⟩
 exact ⟨z, us, r, ⟨_, Heap.get?_push_size _ rfl, rfl, _, rfl⟩, _, Heap.get?_push_size _ rfl, rfl⟩
theorem pe_lst (h : PA X es t) : PE X (.List es pos) (tLst t) := by
 intro pins s σ H Q I hq
 refine wpAny_List_spliced (thn (h pos pins s σ H _ I hq) fun us s1 ⟨xs, H1, I1, r, z, q⟩ => ⟨by rw [<- r.length]; exact z, ?_⟩)
 have hf : H1 s1.heap.objs.size = none := I1.hok.fresh (Nat.le_refl _)
 refine ⟨.ref s1.heap.objs.size, upd H1 s1.heap.objs.size (.lst xs), I1.laid (t' := s1.toks) (fun b u e => Heap.get?_push_of_some _ e) (Nat.le_refl _) ?_, rfl, q _ hf⟩
 exact ⟨z, us, 0, r, Heap.get?_push_size _ rfl⟩
end
abbrev Sp := List V -> Hp -> VK -> XK -> Prop
abbrev CXT := List Env -> Hp -> Shared -> XK -> Value -> Shared -> Prop
structure Env0 (P : Program) (w : World) (K : PySem.W.Frag) (mg : Str -> Option Value) (base : Heap) (A : Around) (outer : List Env) (s : Shared) (H : Hp) : Prop where
 frames : A.frames = some outer
 mod : Mod K mg base
 bs : ∀ b o, base.get? b = some o -> s.heap.get? b = some o /\ H b = none
 bsz : base.objs.size <= s.heap.objs.size
 funs : s.heap.FunFrames base outer
 frf : ∀ b ∈ frs outer, H b = none
 hok : HOk P w H s.heap
 bare : AllBare s.gens
def CE (outer : List Env) (P : Program) (w : World) (H : Hp) (s : Shared) (Q : VK) (u : Value) (s' : Shared) : Prop :=
 ∃ v H', s'.os = s.os /\ AllBare s'.gens /\ Un (frs outer) [] H H' s.heap s'.heap /\ HOk P w H' s'.heap /\ RelV v u /\ Q v H'
def CR (CX : CXT) (outer : List Env) (P : Program) (w : World) (H : Hp) (s : Shared) (Q : VK) (E : XK) (r : Result) (s' : Shared) : Prop :=
 match r with
 | .ok (.ret u) => CE outer P w H s Q u s'
 | .ok _ => False
 | .error e => CX outer H s E e s'
structure FnOk (P : Program) (w : World) (K : PySem.W.Frag) (mg : Str -> Option Value) (base : Heap) (CX : CXT) (k : Nat) (f : Addr) (fd : FuncData) (ps : List Str) (sp : Sp) : Prop where
 len : ∀ vs H Q E, sp vs H Q E -> vs.length = ps.length
 run : ∀ (A : Around) (outer : List Env) (s : Shared) (H : Hp) (args : Args) (us : List Value) (vs : List V) (Q : VK) (E : XK), Room k A -> Env0 P w K mg base A outer s H -> BindsTo s fd args (ps.zip us) -> Vals vs us -> sp vs H Q E ->
  codeAny (model P w) A (.call (.ref f) args) (CR CX outer P w H s Q E) s
theorem Env0.make {P : Program} {w : World} {K : PySem.W.Frag} {mg : Str -> Option Value} {base : Heap} {A : Around} {outer : List Env} {s : Shared} {H : Hp} (e : Env0 P w K mg base A outer s H) (C : Addr) (us : List Value) (kw : List (Str × Value)) :
  Env0 P w K mg base (A.under (.builtin "type.__call__" ⟨.ref C :: us, kw⟩)) outer s H := ⟨by first | exact e.frames | (simpa [Around.under, Code.envs, Code.isFrame, pushEnvs] using e.frames), e.mod, e.bs, e.bsz, e.funs, e.frf, e.hok, e.bare⟩
section
variable {X : Cx} {pins : List (Addr × Obj)} {σ : St} {H : Hp} {s s' : Shared}
theorem Inv.env0 (I : Inv X pins σ H s) : Env0 X.prog X.w X.K X.mg X.base X.A X.stack s H :=
 ⟨I.ok.frames, I.ok.mod, I.bs, Nat.le_trans I.ok.bsz I.sz, I.stack, I.stkFree, I.hok, I.bare⟩
theorem Inv.after {Q : VK} {u : Value} (I : Inv X pins σ H s) (h : CE X.stack X.prog X.w H s Q u s') : EP X pins σ Q u s' := by
 obtain ⟨v, H', os, bare, un, hok, r, q⟩ := h
 obtain ⟨hh, g, d, t, os'⟩ := s'
 obtain rfl : os' = s.os := os
 exact ⟨v, H', I.call (h' := hh) (g' := g) (d' := d) (t' := t) (ch := []) un hok bare (fun b z => absurd z (by simp)), r, q⟩
end
def tCall (sp : Sp) (dvs : List V) (E : XK) (t : TA) : TE := fun σ H Q => t σ H fun vs H1 => sp (vs ++ dvs) H1 Q E
def tMeth (C : Addr) (m : Str) (sp : Sp) (dvs : List V) (E : XK) (ta : TE) (t : TA) : TE := fun σ H Q => ta σ H fun x H1 => ∃ a dx fs, x = .ref a /\ H1 a = some (.ins C dx fs) /\ fs.lookup m = none /\
 t σ H1 fun vs H2 => sp (x :: (vs ++ dvs)) H2 Q E
def tMake (C : Addr) (sp : Sp) (dvs : List V) (E : XK) (t : TA) : TE := fun σ H Q => t σ H fun vs H1 => ∀ x dx, H1 x = none -> H1 dx = none -> dx ≠ x ->
 sp (.ref x :: (vs ++ dvs)) (upd (upd H1 dx (.own x)) x (.ins C dx [])) (fun v H2 => v = .non /\ Q (.ref x) H2) E
def Binds (K : PySem.W.Frag) (fd : FuncData) (ps : List Str) (ds : List Value) : Prop :=
 ∀ (s : Shared) (us : List Value), K.In s.heap -> (us ++ ds).length = ps.length -> BindsTo s fd ⟨us, []⟩ (ps.zip (us ++ ds))
theorem Binds.all {K : PySem.W.Frag} {fd : FuncData} {ps : List Str} (h : ∀ us : List Value, us.length = ps.length -> bindArgs fd ⟨us, []⟩ = pure (ps.zip us)) : Binds K fd ps [] := fun s us _ hl => by
 rw [List.append_nil] at hl ⊢
 exact .of_eq (h us hl)
def Passes (CX : CXT) (X : Cx) (E : XK) : Prop := ∀ (pins : List (Addr × Obj)) (σ : St) (H : Hp) (s : Shared) (e : Value) (s' : Shared), Inv X pins σ H s -> CX X.stack H s E e s' -> X.xe e s'
section
variable {X : Cx} {CX : CXT} {k : Nat} {f C : Addr} {fd : FuncData} {ps : List Str} {sp : Sp} {dvs : List V} {ds : List Value} {E : XK} {x m : Str} {p pos apos : Pos} {e o : Expr} {es : List Expr} {ta : TE} {t : TA}
theorem run_fn {pins : List (Addr × Obj)} {σ : St} {H : Hp} {s : Shared} {Q : VK} {us : List Value} {vs : List V} (F : FnOk X.prog X.w X.K X.mg X.base CX k f fd ps sp) (hr : Room k X.A) (hb : Binds X.K fd ps ds) (hd : Vals dvs ds) (hx : Passes CX X E)
  (I : Inv X pins σ H s) (r : Vals vs us) (h : sp (vs ++ dvs) H Q E) : wpAny (model X.prog X.w) X.A (call (.ref f) us) (EP X pins σ Q) X.xe s := by
 have r2 : Vals (vs ++ dvs) (us ++ ds) := r.append hd
 have hl : (us ++ ds).length = ps.length := by rw [<- r2.length]; exact F.len _ _ _ _ h
 refine wpAny_call (codeAny_mono (F.run X.A X.stack s H ⟨us, []⟩ (us ++ ds) (vs ++ dvs) Q E hr I.env0 (hb s us I.kIn hl) r2 h) fun r s' hq => ?_)
 cases r with
 | error e => exact hx pins σ H s e s' I hq
 | ok fl =>
  cases fl with
  | ret u => exact I.after hq
  | next => exact False.elim hq
  | brk => exact False.elim hq
  | cont => exact False.elim hq
theorem pe_call (F : FnOk X.prog X.w X.K X.mg X.base CX k f fd ps sp) (hr : Room k X.A) (hg : Gl X x) (hm : X.mg x = some (.ref f)) (hk : PySem.W.keepIn X.K (.ref f) = true) (hb : Binds X.K fd ps ds) (hd : Vals dvs ds) (hx : Passes CX X E)
  (ha : PA X (e :: es) t) (hdb : (x == ("__debug__" : Str)) = false := by decide) (he : starEach (e :: es) X.env = (false, eval e X.env) :: starEach es X.env := by rfl) (hpl : (backTo pos (starEach es X.env)).any (·.1) = false := by rfl) :
  PE X (.Call (.Name x p) (e :: es) [] pos) (tCall sp dvs E t) := by
 intro pins s σ H Q I h
 refine wpAny_Call_Name_kw (ld_glob I hg hm ?_ hdb)
 refine PySem.W.callWith_K (h₀ := X.base) I.ok.mod.kin hk (thn (ha pos pins s σ H _ I h) fun us s1 ⟨vs, H1, I1, r, q⟩ => ⟨I1.kIn, ?_⟩) he hpl
 exact run_fn F hr hb hd hx I1 r q
theorem pe_meth {pl : Sem Bool} (he : PE X o ta) (c : Cls X.K C) (hm : Meth X.K C m f) (F : FnOk X.prog X.w X.K X.mg X.base CX k f fd ps sp) (hr : Room k X.A) (hb : Binds X.K fd ps ds) (hd : Vals dvs ds) (hx : Passes CX X E) (ha : PA X (e :: es) t)
  (hst : starEach (e :: es) X.env = (false, eval e X.env) :: starEach es X.env := by rfl) (hpl : (backTo pos (starEach es X.env)).any (·.1) = false := by rfl)
  (ht : eval (.Call (.Attribute o m apos) (e :: es) [] pos) X.env = (do
   let ov <- eval o X.env
   standAt apos.atName
   let (f, first) <- holding [ov] (getMethod ov m pl)
   callWith pos f first (backTo pos (starEach (e :: es) X.env)) (backToKw pos (keywordEach [] X.env))) := by rfl) :
  PE X (.Call (.Attribute o m apos) (e :: es) [] pos) (tMeth C m sp dvs E ta t) := by
 intro pins s σ H Q I h
 refine PySem.W.methodCall_KW (pl := pl) (thn (he pins s σ H _ I h) fun u s1 ⟨x, H1, I1, rx, a, dx, fs, ex, ea, l, q⟩ => ?_) ht
 subst ex
 obtain rfl : u = Value.ref a := rx
 refine getmeth_ok I1 ea c hm l ?_
 refine PySem.W.callWith_K (first := [.ref a]) (h₀ := X.base) I.ok.mod.kin hm.kp (thn (ha pos pins s1 σ H1 _ I1 q) fun us s2 ⟨vs, H2, I2, r, q2⟩ => ⟨I2.kIn, ?_⟩) hst hpl
 exact run_fn (us := .ref a :: us) (vs := .ref a :: vs) F hr hb hd hx I2 (.cons rfl r) q2
theorem pe_meth0 {pl : Sem Bool} (he : PE X o ta) (c : Cls X.K C) (hm : Meth X.K C m f) (F : FnOk X.prog X.w X.K X.mg X.base CX k f fd ps sp) (hr : Room k X.A) (hb : Binds X.K fd ps ds) (hd : Vals dvs ds) (hx : Passes CX X E)
  (ht : eval (.Call (.Attribute o m apos) [] [] pos) X.env = (do
   let ov <- eval o X.env
   standAt apos.atName
   let (f, first) <- holding [ov] (getMethod ov m pl)
   callWith pos f first (backTo pos (starEach [] X.env)) (backToKw pos (keywordEach [] X.env))) := by rfl) :
  PE X (.Call (.Attribute o m apos) [] [] pos) (tMeth C m sp dvs E ta tNil) := by
 intro pins s σ H Q I h
 refine PySem.W.methodCall_KW (pl := pl) (thn (he pins s σ H _ I h) fun u s1 ⟨x, H1, I1, rx, a, dx, fs, ex, ea, l, q⟩ => ?_) ht
 subst ex
 obtain rfl : u = Value.ref a := rx
 refine getmeth_ok I1 ea c hm l ?_
 exact PySem.W.callWith_K0 (first := [.ref a]) I1.kIn hm.kp (run_fn (us := [.ref a]) (vs := [.ref a]) F hr hb hd hx I1 (.cons rfl .nil) q)
structure Mk (K : PySem.W.Frag) (C f : Addr) : Prop where
 makes : PySem.W.makesIn K C = true
 init : PySem.W.findIn K (.ref C) "__init__" = some (some (.ref f))
 fn : PySem.W.isFn K (.ref f) = true
 kp : PySem.W.keepIn K (.ref C) = true
theorem run_make {pins : List (Addr × Obj)} {σ : St} {H : Hp} {s : Shared} {Q : VK} {us : List Value} {vs : List V} (M : Mk X.K C f) (F : FnOk X.prog X.w X.K X.mg X.base CX k f fd ps sp) (hr : Room (k + 1) X.A) (hb : Binds X.K fd ps ds) (hd : Vals dvs ds)
  (hx : Passes CX X E) (I : Inv X pins σ H s) (r : Vals vs us)
  (h : ∀ x dx, H x = none -> H dx = none -> dx ≠ x -> sp (.ref x :: (vs ++ dvs)) (upd (upd H dx (.own x)) x (.ins C dx [])) (fun v H2 => v = .non /\ Q (.ref x) H2) E) :
  wpAny (model X.prog X.w) X.A (call (.ref C) us) (EP X pins σ Q) X.xe s := by
 have hq := h (s.heap.objs.size + 1) s.heap.objs.size (I.hok.fresh (Nat.le_succ _)) (I.hok.fresh (Nat.le_refl _)) (Nat.ne_of_lt (Nat.lt_succ_self _))
 have I2 := Inv.made (C := C) I
 have r2 : Vals (V.ref (s.heap.objs.size + 1) :: (vs ++ dvs)) (Value.ref (s.heap.objs.size + 1) :: (us ++ ds)) := .cons rfl (r.append hd)
 have hl : (Value.ref (s.heap.objs.size + 1) :: us ++ ds).length = ps.length := by
  have e := r2.length
  rw [F.len _ _ _ _ hq] at e
  exact e.symm
 refine wpAny_call (make_map (f := f) I.kIn M.makes M.init (beq_iff_eq.mp M.fn) (codeAny_mono (F.run _ X.stack _ _ ⟨Value.ref (s.heap.objs.size + 1) :: us, []⟩ (Value.ref (s.heap.objs.size + 1) :: (us ++ ds)) _ _ E (hr.make C us [])
  (I2.env0.make C us []) (hb _ (Value.ref (s.heap.objs.size + 1) :: us) I2.kIn hl) r2 hq) fun r s' hq' => ?_))
 cases r with
 | error e => exact hx pins σ _ _ e s' I2 hq'
 | ok fl =>
  cases fl with
  | ret u =>
   obtain ⟨v, H', I3, rv, ev, q3⟩ := I2.after hq'
   subst ev
   exact ⟨rv, ⟨V.ref (s.heap.objs.size + 1), H', I3, rfl, q3⟩⟩
  | next => exact False.elim hq'
  | brk => exact False.elim hq'
  | cont => exact False.elim hq'
theorem pe_make (M : Mk X.K C f) (F : FnOk X.prog X.w X.K X.mg X.base CX k f fd ps sp) (hr : Room (k + 1) X.A) (hg : Gl X x) (hm : X.mg x = some (.ref C)) (hb : Binds X.K fd ps ds) (hd : Vals dvs ds) (hx : Passes CX X E)
  (ha : PA X (e :: es) t) (hdb : (x == ("__debug__" : Str)) = false := by decide) (he : starEach (e :: es) X.env = (false, eval e X.env) :: starEach es X.env := by rfl) (hpl : (backTo pos (starEach es X.env)).any (·.1) = false := by rfl) :
  PE X (.Call (.Name x p) (e :: es) [] pos) (tMake C sp dvs E t) := by
 intro pins s σ H Q I h
 refine wpAny_Call_Name_kw (ld_glob I hg hm ?_ hdb)
 refine PySem.W.callWith_K (h₀ := X.base) I.ok.mod.kin M.kp (thn (ha pos pins s σ H _ I h) fun us s1 ⟨vs, H1, I1, r, q⟩ => ⟨I1.kIn, ?_⟩) he hpl
 exact run_make M F hr hb hd hx I1 r q
end
section
variable {X : Cx} {CX : CXT} {k : Nat} {f C : Addr} {fd : FuncData} {ps ks : List Str} {sp : Sp} {E : XK} {x m : Str} {p pos apos kpos : Pos} {e o : Expr} {es : List Expr} {kws : List Keyword} {te ta : TE} {t tk : TA} {nm : Option Str}
structure KBinds (K : PySem.W.Frag) (fd : FuncData) (ps ks : List Str) (g : List Value -> List Value -> List Value) (gV : List V -> List V -> List V) : Prop where
 to : ∀ (s : Shared) (us ws : List Value), K.In s.heap -> (g us ws).length = ps.length -> BindsTo s fd ⟨us, ks.zip ws⟩ (ps.zip (g us ws))
 rel : ∀ {vs : List V} {us : List Value} {zs : List V} {ws : List Value}, Vals vs us -> Vals zs ws -> Vals (gV vs zs) (g us ws)
variable {g : List Value -> List Value -> List Value} {gV : List V -> List V -> List V}
end
structure FnScope (N P : List Str) (sc : Scope) : Prop where
 kind : sc.kind = .function
 co : sc.isCoroutine = false
 gen : sc.isGenerator = false
 nd : N.Nodup
 pre : N.take P.length = P
 par : ∀ x ∈ P, sc.names.lookup x = some .local ∨ sc.names.lookup x = some .cell
 nofree : ∀ y ∈ sc.names, y.2 ≠ .free
theorem bindL_out {kindOf : Str -> Option NameKind} {x : Str} : ∀ {binds : List (Str × Value)} {m : Str -> Option Value}, (∀ v, (x, v) ∉ binds) -> bindL kindOf binds m x = m x
 | [], _, _ => rfl
 | (n, v) :: r, m, h => by
  unfold bindL
  rw [bindL_out fun w hw => h w (List.mem_cons_of_mem _ hw)]
  split
  ·have : x ≠ n := by rintro rfl; exact h v List.mem_cons_self
   simp [this]
  ·rfl
theorem bindC_out {kindOf : Str -> Option NameKind} {x : Str} : ∀ {binds : List (Str × Value)} {m : Str -> Option Value}, (∀ v, (x, v) ∉ binds) -> bindC kindOf binds m x = m x
 | [], _, _ => rfl
 | (n, v) :: r, m, h => by
  unfold bindC
  rw [bindC_out fun w hw => h w (List.mem_cons_of_mem _ hw)]
  split
  ·rfl
  ·have : x ≠ n := by rintro rfl; exact h v List.mem_cons_self
   simp [this]
theorem bindL_get {kindOf : Str -> Option NameKind} {x : Str} {v : Value} : ∀ {P : List Str} {vs : List Value} {i : Nat} {m : Str -> Option Value}, P.Nodup -> P[i]? = some x -> vs[i]? = some v -> kindOf x = some .local ->
  bindL kindOf (P.zip vs) m x = some v
 | [], _, _, _, _, h, _, _ => by simp at h
 | _ :: _, [], _, _, _, _, h, _ => by simp at h
 | p :: P, w :: vs, 0, m, nd, h1, h2, hk => by
  simp at h1 h2; subst h1; subst h2
  show bindL kindOf ((p, w) :: P.zip vs) m p = _
  unfold bindL
  rw [bindL_out fun v hv => (List.nodup_cons.mp nd).1 (List.of_mem_zip hv).1, if_pos hk]
  simp
 | p :: P, w :: vs, i + 1, m, nd, h1, h2, hk => by
  show bindL kindOf ((p, w) :: P.zip vs) m x = _
  unfold bindL
  exact bindL_get (i := i) (List.nodup_cons.mp nd).2 (by simpa using h1) (by simpa using h2) hk
theorem bindC_get {kindOf : Str -> Option NameKind} {x : Str} {v : Value} : ∀ {P : List Str} {vs : List Value} {i : Nat} {m : Str -> Option Value}, P.Nodup -> P[i]? = some x -> vs[i]? = some v -> kindOf x ≠ some .local ->
  bindC kindOf (P.zip vs) m x = some v
 | [], _, _, _, _, h, _, _ => by simp at h
 | _ :: _, [], _, _, _, _, h, _ => by simp at h
 | p :: P, w :: vs, 0, m, nd, h1, h2, hk => by
  simp at h1 h2; subst h1; subst h2
  show bindC kindOf ((p, w) :: P.zip vs) m p = _
  unfold bindC
  rw [bindC_out fun v hv => (List.nodup_cons.mp nd).1 (List.of_mem_zip hv).1, if_neg hk]
  simp
 | p :: P, w :: vs, i + 1, m, nd, h1, h2, hk => by
  show bindC kindOf ((p, w) :: P.zip vs) m x = _
  unfold bindC
  exact bindC_get (i := i) (List.nodup_cons.mp nd).2 (by simpa using h1) (by simpa using h2) hk
def start (N : List Str) (vs : List V) : St := vs.map some ++ List.replicate (N.length - vs.length) none
def cxOf (CX : CXT) (P : Program) (w : World) (K : PySem.W.Frag) (mg : Str -> Option Value) (base : Heap) (N : List Str) (qual : Str) (scope : Scope) (f : Addr) (cd : Value) (A : Around) (outer : List Env) (s : Shared) (H : Hp) (E : XK) : Cx where
 prog := P
 w := w
 K := K
 mg := mg
 base := base
 A := A.deeper (envOfC qual scope s.heap.objs.size f cd)
 N := N
 s₀ := s
 H₀ := H
 env := envOfC qual scope s.heap.objs.size f cd
 outer := outer
 stack := envOfC qual scope s.heap.objs.size f cd :: outer
 ex := []
 calm := true
 fn := fun _ => true
 pn := []
 xe := fun e s' => wpAny (model P w) (A.deeper (envOfC qual scope s.heap.objs.size f cd)) (leaving (envOfC qual scope s.heap.objs.size f cd) e) (fun _ s'' => CX outer H s E e s'') (fun e' s'' => CX outer H s E e' s'') s'
theorem cell_has {sc : Scope} {n : Nat} {x : Str} (h : sc.names.lookup x = some .cell) : ∃ c, (cellsFrom n sc.names []).lookup x = some c := by
 have q := PySem.W.cellsFrom_some sc.names n [] (.inl h)
 exact Option.isSome_iff_exists.mp q
theorem inv_start {CX : CXT} {P : Program} {w : World} {K : PySem.W.Frag} {mg : Str -> Option Value} {base : Heap} {N ps : List Str} {qual : Str} {scope : Scope} {f : Addr} {cd : Value} {A : Around} {outer : List Env} {s s1 : Shared} {H : Hp} {E : XK} {us : List Value} {vs : List V}
  (S : FnScope N ps scope) (hd : A.handled = none) (e0 : Env0 P w K mg base A outer s H) (hl : vs.length = ps.length) (r : Vals vs us)
  (x : InCallC s s.heap.objs.size (bindL (envOfC qual scope s.heap.objs.size f cd).kindOf (ps.zip us) fun _ => none) (cellsFrom (s.heap.objs.size + 1) scope.names []) (bindC (envOfC qual scope s.heap.objs.size f cd).kindOf (ps.zip us) fun _ => none) s1) :
  Inv (cxOf CX P w K mg base N qual scope f cd A outer s H E) [] (start N vs) H s1 := by
 have hpl : ps.length <= N.length := by have := congrArg List.length S.pre; rw [List.length_take] at this; omega
 obtain ⟨h1, tk, rfl, hk⟩ := x.done
 have noA : ∀ b : Addr, b ∉ (cxOf CX P w K mg base N qual scope f cd A outer s H E).ex := fun b z => absurd (show b ∈ ([] : List Addr) from z) (by simp)
 refine ⟨⟨e0.mod, S.kind, rfl, rfl, Nat.le_refl _, fun y z c h1 h2 => ?_, fun y hy => ?_, fun y c _ h => ?_, fun _ => hd, Around.frames_deeper e0.frames, .inr ⟨rfl, rfl⟩, fun b z => absurd z (noA b), e0.bs, e0.bsz, fun b _ _ => noA b, fun b z => absurd z (noA b), e0.funs, e0.frf⟩,
  rfl, e0.bare, Un.kept hk, ⟨_, x.toInCall.ns, fun i y v h1 h2 h3 => ?_⟩, fun y c h => ⟨_, x.cell y c h⟩, e0.hok.fresh (Nat.le_refl _), fun y c h => ?_, fun p hp => absurd (show p ∈ ([] : List (Addr × Obj)) from hp) (by simp), e0.hok.kept hk, ?_⟩
 ·exact name_of_addr x.apart (PySem.mem_of_lookup h1) (PySem.mem_of_lookup h2)
 ·have hy : scope.names.lookup y = some .cell ∨ scope.names.lookup y = some .free := hy
  rcases hy with hy | hy
  ·exact cell_has hy
  ·exact absurd rfl (S.nofree _ (PySem.mem_of_lookup hy))
 ·exact Nat.le_of_lt (x.above y c (PySem.mem_of_lookup h))
 ·have hi : i < vs.length := by
   unfold start at h2
   by_cases hi : i < vs.length
   ·exact hi
   ·rw [List.getElem?_append_right (by simpa using hi)] at h2
    rw [List.getElem?_replicate] at h2
    split at h2 <;> cases h2
  have ha : vs[i]? = some v := by
   unfold start at h2
   rw [List.getElem?_append_left (by simpa using hi), List.getElem?_map] at h2
   cases e : vs[i]? with
   | none => rw [e] at h2; cases h2
   | some a => rw [e] at h2; cases h2; rfl
  obtain ⟨u, hu, rv⟩ := r.get ha
  have hp : ps[i]? = some y := by
   rw [<- S.pre, List.getElem?_take_of_lt (by omega)]; exact h1
  have ndP : ps.Nodup := by rw [<- S.pre]; exact S.nd.sublist (List.take_sublist _ _)
  refine ⟨u, rv, ?_⟩
  rcases S.par y (List.mem_of_getElem? hp) with k | k
  ·exact .inl ⟨k, bindL_get ndP hp hu k⟩
  ·obtain ⟨c, e⟩ := cell_has (n := s.heap.objs.size + 1) k
   refine .inr ⟨.inl k, c, e, ?_⟩
   have q := x.cell y c e
   rw [bindC_get ndP hp hu (by show scope.names.lookup y ≠ _; rw [k]; decide)] at q
   exact q
 ·exact e0.hok.fresh (Nat.le_of_lt (x.above y c (PySem.mem_of_lookup h)))
 ·unfold start
  show _ = N.length
  rw [List.length_append, List.length_map, List.length_replicate]
  omega
theorem fn_of {CX : CXT} {P : Program} {w : World} {K : PySem.W.Frag} {mg : Str -> Option Value} {base : Heap} {k : Nat} {f : Addr} {name qual : Str} {params : Arguments} {body : List Stmt} {scope : Scope} {dV kV doc pm cdv ct oc : Value} {an od : Option Addr}
  {osl : Array (Option Value)} {N ps : List Str} {sp : Sp} (lk : K.lookup f = some ⟨oc, od, .func (PySem.W.fnOf name qual params body scope dV kV doc pm an cdv ct), osl⟩) (hcd : PySem.W.codeIn K cdv qual = true) (S : FnScope N ps scope)
  (len : ∀ vs H Q E, sp vs H Q E -> vs.length = ps.length)
  (hbody : ∀ (A : Around) (outer : List Env) (s : Shared) (H : Hp) (vs : List V) (Q : VK) (E : XK), Room k (A.deeper (envOfC qual scope s.heap.objs.size f cdv)) -> sp vs H Q E ->
   ∃ t, PSs (cxOf CX P w K mg base N qual scope f cdv A outer s H E) body t /\ t { nx := fun _ H' => Q .non H', rt := Q } (start N vs) H) :
  FnOk P w K mg base CX (k + 1) f (PySem.W.fnOf name qual params body scope dV kV doc pm an cdv ct) ps sp := by
 refine ⟨len, fun A outer s H args us vs Q E hr e0 hb r hsp => ?_⟩
 have hl := len _ _ _ _ hsp
 have KX : K.In s.heap := e0.mod.kin.keeps fun b o e => (e0.bs b o e).1
 have lim : s.heap.NoLimit := e0.mod.nolimit.keeps fun b o e => (e0.bs b o e).1
 have hkind : ∀ y ∈ ps.zip us, scope.names.lookup y.1 = some .local ∨ (scope.names.lookup y.1 = some .cell /\ ((cellsFrom (s.heap.objs.size + 1) scope.names []).lookup y.1).isSome = true) := fun ⟨n, v⟩ hy => by
  rcases S.par n (List.of_mem_zip hy).1 with q | q
  ·exact .inl q
  ·exact .inr ⟨q, PySem.W.cellsFrom_some _ _ _ (.inl q)⟩
 refine codeAny_call_function hr.depth (KX _ _ lk) rfl S.co S.gen rfl (PySem.W.codeRec_of KX hcd) (hb _ _ _ _ ?_)
 refine wpAny_newFunctionEnv_cells S.kind hkind fun env he s1 x => ?_
 subst he
 refine ⟨lim.keeps x.toInCall.keep, codeAny_func ?_⟩
 obtain ⟨t, ht, hq⟩ := hbody A outer s H vs Q E (hr.deeper _) hsp
 have I : Inv (cxOf CX P w K mg base N qual scope f cdv A outer s H E) [] (start N vs) H s1 := inv_start S hr.hd e0 hl r x
 refine wpAny_mono (ht [] s1 (start N vs) H _ I hq) (fun fl s' hs => ?_) fun e s' hs => hs
 have fin : ∀ {σ' : St} {H' : Hp} {v : V} {u : Value}, Inv (cxOf CX P w K mg base N qual scope f cdv A outer s H E) [] σ' H' s' -> RelV v u -> Q v H' -> CE outer P w H s Q u s' :=
  fun {σ' H' v u} J rv q => ⟨v, H', J.os, J.bare, J.base, J.hok, rv, q⟩
 cases fl with
 | ret u =>
  obtain ⟨v, σ', H', J, rv, q⟩ := hs
  exact fin J rv q
 | next =>
  obtain ⟨σ', H', J, q⟩ := hs
  exact fin (v := V.non) (u := Value.none) J rfl q
 | brk =>
  obtain ⟨_, _, _, q⟩ := hs
  exact False.elim q
 | cont =>
  obtain ⟨_, _, _, q⟩ := hs
  exact False.elim q
end L2
namespace L2
open PySem PySem.Spec PyProof.Rows
section
variable {X : Cx} {x : Str} {p pos : Pos} {e : Expr} {es : List Expr} {t : TA} {id T : String} {r : List V -> Hp -> VK -> Prop}
def tCB (r : List V -> Hp -> VK -> Prop) (t : TA) : TE := fun σ H Q => t σ H fun vs H1 => r vs H1 Q
theorem pe_callB (hc : CallR X (.builtin id) r) (hg : Gl X x) (hm : X.mg x = none) (hv : bootBuiltins x = some (.builtin id)) (ha : PA X (e :: es) t) (hn : x ≠ "__name__" := by decide) (hdb : (x == ("__debug__" : Str)) = false := by decide)
  (he : starEach (e :: es) X.env = (false, eval e X.env) :: starEach es X.env := by rfl) (hpl : (backTo pos (starEach es X.env)).any (·.1) = false := by rfl) : PE X (.Call (.Name x p) (e :: es) [] pos) (tCB r t) := by
 intro pins s σ H Q I h
 refine wpAny_Call_Name_kw (ld_blt I hg hm hv ?_ hn hdb)
 exact PyProof.Rows.callWith_builtin1 (thn (ha pos pins s σ H _ I h) fun us s1 ⟨vs, H1, I1, r1, q1⟩ => hc pins s1 σ H1 vs us Q I1 r1 q1) he hpl
theorem pe_callTy (hc : CallR X (.type T) r) (hg : Gl X x) (hm : X.mg x = none) (hv : bootBuiltins x = some (.type T)) (ha : PA X (e :: es) t) (hn : x ≠ "__name__" := by decide) (hdb : (x == ("__debug__" : Str)) = false := by decide)
  (he : starEach (e :: es) X.env = (false, eval e X.env) :: starEach es X.env := by rfl) (hpl : (backTo pos (starEach es X.env)).any (·.1) = false := by rfl) : PE X (.Call (.Name x p) (e :: es) [] pos) (tCB r t) := by
 intro pins s σ H Q I h
 refine wpAny_Call_Name_kw (ld_blt I hg hm hv ?_ hn hdb)
 exact PyProof.Rows.callWith_type1 (thn (ha pos pins s σ H _ I h) fun us s1 ⟨vs, H1, I1, r1, q1⟩ => hc pins s1 σ H1 vs us Q I1 r1 q1) he hpl
end
end L2
namespace HT
open PySem PyProof.Rows
section
open PySem.SeqAt
open PySem.AutoSeq1 (wpAny_loadPart')
open PySem.MeetsSeq PySem.MeetsSeq2 PySem.MeetsSeq3
end
section
variable {prog : Program} {w : World} {A : Around} {E : Value -> Shared -> Prop} {s : Shared}
def sIx (n d : Nat) : Option Int -> Nat
 | none => d
 | some v => if v < 0 then (v + (n : Int)).toNat else min v.toNat n
theorem sIx_none (n d : Nat) : sIx n d none = d := rfl
theorem sIx_nat (n d k : Nat) : sIx n d (some (k : Int)) = min k n := by
 show (if (k : Int) < 0 then ((k : Int) + (n : Int)).toNat else min (k : Int).toNat n) = min k n
 rw [if_neg (by omega), Int.toNat_natCast]
end
end HT
namespace L2
open PySem PySem.Spec PyProof.Rows
abbrev TO := St -> Hp -> (Option Int -> Hp -> Prop) -> Prop
def PO (X : Cx) (e : Option Expr) (t : TO) : Prop :=
 ∀ (pins : List (Addr × Obj)) (s : Shared) (σ : St) (H : Hp) (Q : Option Int -> Hp -> Prop), Inv X pins σ H s -> t σ H Q ->
  wpAny (model X.prog X.w) X.A (evalPart e X.env) (fun u s' => ∃ o H', Inv X pins σ H' s' /\ IsPart u o /\ Q o H') X.xe s
def tNoPart : TO := fun _ H Q => Q none H
def tPart (t : TE) : TO := fun σ H Q => t σ H fun x H1 => ∃ i, x = .int i /\ Q (some i) H1
section
variable {X : Cx} {e : Expr} {te : TE} {lo hi : Option Expr} {tl th : TO} {pos p2 : Pos}
theorem po_none : PO X none tNoPart := by
 intro pins s σ H Q I h
 rw [evalPart_none]
 exact wpAny_pure ⟨none, H, I, .none, h⟩
theorem po_some (h : PE X e te) : PO X (some e) (tPart te) := by
 intro pins s σ H Q I hw
 rw [evalPart_some]
 refine thn (h pins s σ H _ I hw) fun u s1 ⟨x, H1, I1, r1, q1⟩ => ?_
 obtain ⟨i, rfl, q⟩ := q1
 obtain ⟨t, rfl⟩ := r1
 exact ⟨some i, H1, I1, .int i t, q⟩
def SlR (X : Cx) (r : V -> Option Int -> Option Int -> Hp -> VK -> Prop) : Prop :=
 ∀ (pins : List (Addr × Obj)) (s : Shared) (σ : St) (H : Hp) (x : V) (v vl vu : Value) (lo hi : Option Int) (sl : Addr) (Q : VK), Inv X pins σ H s -> RelV x v -> s.heap.IsSliceOf sl vl vu .none -> IsPart vl lo -> IsPart vu hi -> r x lo hi H Q ->
  ∃ T id, typeLookup (.type T) "__getitem__" = pure (some (.builtin id)) /\ s.TypeIs v T /\ wpAny (model X.prog X.w) X.A (getItem v (.ref sl)) (EP X pins σ Q) X.xe s
def tSl (r : V -> Option Int -> Option Int -> Hp -> VK -> Prop) (te : TE) (tl th : TO) : TE := fun σ H Q => te σ H fun x H1 => tl σ H1 fun l H2 => th σ H2 fun u H3 => r x l u H3 Q
theorem pe_slice {r : V -> Option Int -> Option Int -> Hp -> VK -> Prop} (hr : SlR X r) (he : PE X e te) (hl : PO X lo tl) (hu : PO X hi th) : PE X (.Subscript e (.Slice lo hi none p2) pos) (tSl r te tl th) := by
 intro pins s σ H Q I h
 refine Subscript_ (thn (he pins s σ H _ I h) fun v s1 ⟨x, H1, I1, r1, q1⟩ => ?_)
 refine wpAny_Slice (thn (hl pins s1 σ H1 _ I1 q1) fun vl s2 ⟨l, H2, I2, pl, q2⟩ => thn (hu pins s2 σ H2 _ I2 q2) fun vu s3 ⟨u, H3, I3, pu, q3⟩ => ?_)
 rw [evalPart_none]
 refine wpAny_pure ?_
 have I4 : Inv X pins σ H3 { s3 with heap := s3.heap.push { cls := .type "slice", data := .fields #[vl, vu, .none] } } := I3.kept (t' := s3.toks) fun b ob q => Heap.get?_push_of_some _ q
 obtain ⟨T, id, hT, ht, hg⟩ := hr pins { s3 with heap := s3.heap.push { cls := .type "slice", data := .fields #[vl, vu, .none] } } σ H3 x v vl vu l u s3.heap.objs.size Q I4 r1 (Heap.IsSliceOf.new ..) pl pu q3
 show wpAny (model X.prog X.w) X.A (subscriptTail e (.Slice lo hi none p2) v (.ref s3.heap.objs.size)) (EP X pins σ Q) X.xe { s3 with heap := s3.heap.push { cls := .type "slice", data := .fields #[vl, vu, .none] } }
 exact tail_any (ops := [.ref s3.heap.objs.size, v]) ht hT hg (by with_unfolding_all rfl)
def cutV (xs : List V) (lo hi : Option Int) : List V := (xs.drop (HT.sIx xs.length 0 lo)).take (HT.sIx xs.length xs.length hi - HT.sIx xs.length 0 lo)
theorem cutV_length (xs : List V) (lo hi : Option Int) : (cutV xs lo hi).length <= xs.length := by
 unfold cutV
 rw [List.length_take, List.length_drop]
 omega
end
end L2
namespace L2
open PySem PySem.Spec PyProof.Rows
def ixN (n : Nat) (i : Int) : Option Nat := if 0 <= i then (if i < n then some i.toNat else none) else if -(n : Int) <= i then some (i + n).toNat else none
def atI {α : Type} (xs : List α) (i : Int) : Option α := (ixN xs.length i).bind fun j => xs[j]?
theorem ixN_seq {n : Nat} {i : Int} {j : Nat} (h : ixN n i = some j) : seqIndex? i n = some j /\ j < n /\ -(n : Int) <= i /\ i < n := by
 unfold ixN at h
 by_cases h0 : 0 <= i
 ·rw [if_pos h0] at h
  by_cases h1 : i < n
  ·rw [if_pos h1] at h
   have e : i.toNat = j := Option.some.inj h
   exact ⟨by rw [seqIndex_of h0 h1, e], by omega, by omega, h1⟩
  ·rw [if_neg h1] at h; cases h
 ·rw [if_neg h0] at h
  by_cases h1 : -(n : Int) <= i
  ·rw [if_pos h1] at h
   have e : (i + n).toNat = j := Option.some.inj h
   exact ⟨by rw [seqIndex_neg (by omega) h1, e], by omega, h1, by omega⟩
  ·rw [if_neg h1] at h; cases h
theorem atI_get {α : Type} {xs : List α} {i : Int} {v : α} (h : atI xs i = some v) : ∃ j, seqIndex? i xs.length = some j /\ xs[j]? = some v /\ j < xs.length /\ -(xs.length : Int) <= i /\ i < xs.length := by
 unfold atI at h
 cases e : ixN xs.length i with
 | none => rw [e] at h; cases h
 | some j =>
  rw [e] at h
  obtain ⟨h1, h2, h3, h4⟩ := ixN_seq e
  exact ⟨j, h1, h, h2, h3, h4⟩
def PlainIx (b : Expr) : Prop := ∀ o i, subscripted b false o i = operate [o, i] (getItem o i)
def IxR (X : Cx) (r : R2) : Prop :=
 ∀ (value slice : Expr) (pins : List (Addr × Obj)) (s : Shared) (σ : St) (H : Hp) (x y : V) (v u : Value) (Q : VK), Inv X pins σ H s -> RelV x v -> RelV y u -> r x y H Q ->
  subscripted slice false v u = operate [v, u] (getItem v u) -> wpAny (model X.prog X.w) X.A (subscriptTail value slice v u) (EP X pins σ Q) X.xe s
def MtR (X : Cx) (id : String) (r : V -> List V -> Hp -> VK -> Prop) : Prop :=
 ∀ (pins : List (Addr × Obj)) (s : Shared) (σ : St) (H : Hp) (x : V) (xs : List V) (v : Value) (us : List Value) (Q : VK), Inv X pins σ H s -> RelV x v -> Vals xs us -> r x xs H Q ->
  wpAny (model X.prog X.w) X.A (call (.builtin id) (v :: us)) (EP X pins σ Q) X.xe s
section
variable {X : Cx} {a b : Expr} {ta tb : TE} {pos : Pos}
theorem pe_ix {r : R2} (hr : IxR X r) (ha : PE X a ta) (hb : PE X b tb) (hs : PlainIx b) : PE X (.Subscript a b pos) (tOp r ta tb) := by
 intro pins s σ H Q I h
 exact Subscript_ (binT ha hb I h fun v u s2 x y H2 I2 rx ry q => hr a b pins s2 σ H2 x y v u Q I2 rx ry q (hs _ _))
def rIxL (K : PySem.W.Frag) : R2 := fun x y H Q => ∃ p xs i v, x = .ref p /\ y = .int i /\ SqL K H p xs /\ atI xs i = some v /\ Q v H
def rIxT (K : PySem.W.Frag) : R2 := fun x y H Q => ∃ p xs i v, x = .ref p /\ y = .int i /\ SqT K H p xs /\ atI xs i = some v /\ Q v H
def rIxS : R2 := fun x y H Q => ∃ z i c, x = .str z /\ y = .int i /\ z.length <= sizeLine /\ atI z.cps.toList i = some c /\ Q (.str ⟨#[c]⟩) H
theorem ix_list : IxR X (rIxL X.K) := by
 intro value slice pins s σ H x y v u Q I rx ry h hs
 obtain ⟨p, xs, i, z, rfl, rfl, hq, he, q⟩ := h
 cases rx
 obtain ⟨t, rfl⟩ := ry
 obtain ⟨its, r, pl, hz⟩ := I.list hq
 obtain ⟨j, h1, h2, h3, h4, h5⟩ := atI_get he
 obtain ⟨w, ew, rw'⟩ := r.get h2
 have hl := r.length
 have hn := line63
 have fin : EP X pins σ Q w s := ⟨z, H, I, rw', q⟩
 by_cases h0 : 0 <= i
 ·have hj : i.toNat = j := by
   rw [seqIndex_of h0 h5] at h1
   exact Option.some.inj h1
  exact item_listR pl.isList h0 (by omega) (by rw [hj]; simpa using ew) fin hs
 ·have hj : (i + (its.toArray.size : Int)).toNat = j := by
   rw [seqIndex_neg (by omega) h4] at h1
   rw [List.size_toArray, <- hl]
   exact Option.some.inj h1
  exact subscriptTail_builtinR (x := w) pl.isList.typeIs slot_list_getitem.lookup
   (wpAny_getItem_list_neg (Q := fun r s' => r = w /\ EP X pins σ Q r s') pl.isList (by omega) (by rw [List.size_toArray] <;> omega) (by omega) (by rw [hj]; simpa using ew) ⟨rfl, fin⟩) hs
theorem ix_tup : IxR X (rIxT X.K) := by
 intro value slice pins s σ H x y v u Q I rx ry h hs
 obtain ⟨p, xs, i, z, rfl, rfl, hq, he, q⟩ := h
 cases rx
 obtain ⟨t, rfl⟩ := ry
 obtain ⟨its, r, pl, hz⟩ := I.tuple hq
 obtain ⟨j, h1, h2, h3, h4, h5⟩ := atI_get he
 obtain ⟨w, ew, rw'⟩ := r.get h2
 have hl := r.length
 have hn := line63
 have fin : EP X pins σ Q w s := ⟨z, H, I, rw', q⟩
 exact subscriptTail_builtinR (x := w) pl.typeIs slot_tuple_getitem.lookup
  (getItem_tuple (j := j) (Q := fun r s' => r = w /\ EP X pins σ Q r s') pl (by omega) (by omega) (by rw [List.size_toArray, <- hl]; exact h1) (by simpa using ew) ⟨rfl, fin⟩) hs
theorem ix_str : IxR X rIxS := by
 intro value slice pins s σ H x y v u Q I rx ry h hs
 obtain ⟨z, i, c, rfl, rfl, hz, he, q⟩ := h
 obtain ⟨t, rfl⟩ := rx
 obtain ⟨t', rfl⟩ := ry
 obtain ⟨j, h1, h2, h3, h4, h5⟩ := atI_get he
 have hl : z.cps.toList.length = z.length := by simp [Str.length]
 rw [hl] at h1 h4 h5
 have hn := line63
 exact tail_any (typeIs_str s z t) slot_str_getitem.lookup (getItem_str (c := c) (by
  have e1 : decide (i < -(2 ^ 63 : Int)) = false := decide_eq_false (by omega)
  have e2 : decide (i ≥ 2 ^ 63) = false := decide_eq_false (by omega)
  rw [e1, e2, Bool.or_false]) (by rw [h1]; simpa using h2) ⟨.str ⟨#[c]⟩, H, I.tok _, ⟨_, rfl⟩, q⟩) hs
theorem mapSeq_set (its : List Value) (n j : Nat) (u : Value) : Obj.mapSeq (·.setIfInBounds j u) { cls := .type "list", data := .seq its.toArray n } = { cls := .type "list", data := .seq (its.set j u).toArray n } := by
 simp [Obj.mapSeq]
theorem Inv.lst {pins : List (Addr × Obj)} {σ : St} {H : Hp} {s : Shared} {p : Addr} {xs : List V} (I : Inv X pins σ H s) (h : H p = some (.lst xs)) :
  ∃ (its : List Value) (n : Nat), Vals xs its /\ s.heap.get? p = some { cls := .type "list", data := .seq its.toArray n } /\ xs.length <= sizeLine := by
 obtain ⟨z, its, n, r, e⟩ := I.hok p _ h
 exact ⟨its, n, r, e, z⟩
theorem Inv.lstUpd {pins : List (Addr × Obj)} {σ : St} {H : Hp} {s : Shared} {p : Addr} {xs ys : List V} {its its' : List Value} {n n' : Nat} {f : Obj -> Obj} (I : Inv X pins σ H s) (h : H p = some (.lst xs))
  (ho : s.heap.get? p = some { cls := .type "list", data := .seq its.toArray n }) (hf : f { cls := .type "list", data := .seq its.toArray n } = { cls := .type "list", data := .seq its'.toArray n' }) (r : Vals ys its') (hz : ys.length <= sizeLine) (t : Nat) :
  Inv X pins σ (upd H p (.lst ys)) { s with heap := s.heap.update p f, toks := t } := by
 have e : (s.heap.update p f).get? p = some { cls := .type "list", data := .seq its'.toArray n' } := by
  rw [Heap.get?_update_self f ho (by rw [hf] <;> rfl), hf]
 refine I.write (x := p) (e := p) (by rw [h]; trivial) (.inl rfl) (fun b u hb q => (Heap.get?_update_other _ _ (Ne.symm hb)).trans q) ⟨_, e⟩ ?_
 exact ⟨hz, its', n', r, e⟩
def rSetL : V -> V -> V -> Hp -> (Hp -> Prop) -> Prop := fun o i v H Q => ∃ p xs k j, o = .ref p /\ i = .int k /\ H p = some (.lst xs) /\ ixN xs.length k = some j /\ Q (upd H p (.lst (xs.set j v)))
theorem set_list : PSet X rSetL := by
 intro pins s σ H o i v ov iv u Q I ro ri rv h
 obtain ⟨p, xs, k, j, rfl, rfl, hp, hj, q⟩ := h
 cases ro
 obtain ⟨t, rfl⟩ := ri
 obtain ⟨its, n, r, ho, hz⟩ := I.lst hp
 obtain ⟨h1, h2, h3, h4⟩ := ixN_seq hj
 have hl := r.length
 have hn := line63
 have I' : Inv X pins σ (upd H p (.lst (xs.set j v))) { s with heap := s.heap.update p (Obj.mapSeq (·.setIfInBounds j u)) } :=
  I.lstUpd hp ho (mapSeq_set its n j u) (r.set rv j) (by rw [List.length_set]; exact hz) s.toks
 by_cases h0 : 0 <= k
 ·have hk : k.toNat = j := by
   rw [seqIndex_of h0 h4] at h1
   exact Option.some.inj h1
  exact PySem.W.ki_setAt ho h0 (by omega) (by rw [List.size_toArray, <- hl]; exact h4) (by rw [hk]; exact ⟨_, I', q⟩)
 ·have hk : (k + (its.toArray.size : Int)).toNat = j := by
   rw [seqIndex_neg (by omega) h3] at h1
   rw [List.size_toArray, <- hl]
   exact Option.some.inj h1
  exact PySem.W.ki_setBack ho (by omega) (by rw [List.size_toArray, <- hl]; exact h3) (by omega) (by rw [hk]; exact ⟨_, I', q⟩)
theorem slice_bounds (lo hi : Option Int) (n : Nat) : (sliceBounds lo hi none n).1 = ((HT.sIx n 0 lo : Nat) : Int) /\ (sliceBounds lo hi none n).2.1 = ((HT.sIx n n hi : Nat) : Int) /\ (sliceBounds lo hi none n).2.2 = 1 := by
 refine ⟨?_, ?_, rfl⟩
 ·cases lo with
  | none => simp [sliceBounds, HT.sIx]
  | some i =>
   simp only [sliceBounds, HT.sIx, Option.getD_none, show (1 : Int) > 0 by decide, if_true]
   by_cases h : i < 0
   ·simp only [h, if_true] <;> omega
   ·simp only [h, if_false] <;> omega
 ·cases hi with
  | none => simp [sliceBounds, HT.sIx]
  | some i =>
   simp only [sliceBounds, HT.sIx, Option.getD_none, show (1 : Int) > 0 by decide, if_true]
   by_cases h : i < 0
   ·simp only [h, if_true] <;> omega
   ·simp only [h, if_false] <;> omega
theorem slicePick_cut (its : List Value) (lo hi : Option Int) : slicePick its.toArray lo hi none = ((its.drop (HT.sIx its.length 0 lo)).take (HT.sIx its.length its.length hi - HT.sIx its.length 0 lo)).toArray := by
 obtain ⟨h1, h2, h3⟩ := slice_bounds lo hi its.toArray.size
 unfold slicePick
 rw [h1, h2, h3]
 simp only [sliceRange_one, pick_run, List.size_toArray] <;> rfl
def rSlL (K : PySem.W.Frag) : V -> Option Int -> Option Int -> Hp -> VK -> Prop := fun x lo hi H Q => ∃ a xs, x = .ref a /\ SqL K H a xs /\ ∀ p, H p = none -> Q (.ref p) (upd H p (.lst (cutV xs lo hi)))
theorem sl_list : SlR X (rSlL X.K) := by
 intro pins s σ H x v vl vu lo hi sl Q I rx hs pl pu h
 obtain ⟨a, xs, rfl, hx, q⟩ := h
 cases rx
 obtain ⟨its, r, ht, hz⟩ := I.list hx
 have hlen := r.length
 refine ⟨"list", _, slot_list_getitem.lookup, ht.isList.typeIs, ?_⟩
 refine wpAny_getItem_list_slice ht.isList hs pl pu .none (by simp) ?_ (by rw [List.size_toArray] <;> omega)
 rw [slicePick_cut, <- hlen]
 refine ⟨.ref s.heap.objs.size, _, I.laid (t' := s.toks) (o := .lst (cutV xs lo hi)) (fun b ob q => Heap.get?_push_of_some _ q) (Nat.le_refl _) ?_, rfl, q _ (I.hok.fresh (Nat.le_refl _))⟩
 exact ⟨Nat.le_trans (cutV_length xs lo hi) hz, _, 0, (r.drop (HT.sIx xs.length 0 lo)).take (HT.sIx xs.length xs.length hi - HT.sIx xs.length 0 lo), Heap.get?_push_size _ rfl⟩
def flatV : V -> Bool
 | .non => true
 | .bl _ => true
 | .int _ => true
 | .str _ => true
 | _ => false
def eqV : V -> V -> Bool
 | .non, .non => true
 | .bl a, .bl b => a == b
 | .bl a, .int b => (if a then 1 else 0) == b
 | .int a, .bl b => a == (if b then 1 else 0)
 | .int a, .int b => a == b
 | .str a, .str b => a == b
 | _, _ => false
theorem eqAt_V {A : Around} {s : Shared} {y x : V} {u v : Value} (ry : RelV y u) (rx : RelV x v) (fy : flatV y = true) (fx : flatV x = true) : SeqAt.EqAt A s u v (eqV y x) := by
 cases y with
 | non =>
  cases ry
  cases x with
  | non => cases rx; exact SeqAt.EqAt.same _
  | bl b => cases rx; exact SeqAt.EqAt.none_bool b
  | int b => obtain ⟨t, rfl⟩ := rx; exact SeqAt.EqAt.none_int b t
  | str b => obtain ⟨t, rfl⟩ := rx; exact SeqAt.EqAt.none_str b t
  | _ => exact absurd (show false = true from fx) Bool.false_ne_true
 | bl a =>
  cases ry
  cases x with
  | non => cases rx; exact SeqAt.EqAt.bool_none a
  | bl b => cases rx; exact SeqAt.EqAt.bool_bool a b
  | int b => obtain ⟨t, rfl⟩ := rx; exact SeqAt.EqAt.bool_int a b t
  | str b => obtain ⟨t, rfl⟩ := rx; exact SeqAt.EqAt.bool_str a b t
  | _ => exact absurd (show false = true from fx) Bool.false_ne_true
 | int a =>
  obtain ⟨t', rfl⟩ := ry
  cases x with
  | non => cases rx; exact SeqAt.EqAt.int_none a t'
  | bl b => cases rx; exact SeqAt.EqAt.int_bool a t' b
  | int b => obtain ⟨t, rfl⟩ := rx; exact SeqAt.EqAt.int_int a t' b t
  | str b => obtain ⟨t, rfl⟩ := rx; exact SeqAt.EqAt.int_str a t' b t
  | _ => exact absurd (show false = true from fx) Bool.false_ne_true
 | str a =>
  obtain ⟨t', rfl⟩ := ry
  cases x with
  | non => cases rx; exact SeqAt.EqAt.str_none a t'
  | bl b => cases rx; exact SeqAt.EqAt.str_bool a t' b
  | int b => obtain ⟨t, rfl⟩ := rx; exact SeqAt.EqAt.str_int a t' b t
  | str b => obtain ⟨t, rfl⟩ := rx; exact SeqAt.EqAt.str_str a t' b t
  | _ => exact absurd (show false = true from fx) Bool.false_ne_true
 | _ => exact absurd (show false = true from fy) Bool.false_ne_true
def eqU (x : V) (u : Value) : Bool := match u with
 | .none => eqV .non x
 | .bool b => eqV (.bl b) x
 | .int i _ => eqV (.int i) x
 | .str z _ => eqV (.str z) x
 | _ => false
theorem eqU_of {x y : V} {u : Value} (r : RelV y u) (f : flatV y = true) : eqU x u = eqV y x := by
 cases y with
 | non => cases r; rfl
 | bl b => cases r; rfl
 | int i => obtain ⟨t, rfl⟩ := r; rfl
 | str z => obtain ⟨t, rfl⟩ := r; rfl
 | _ => exact absurd (show false = true from f) Bool.false_ne_true
theorem any_eqU {x : V} : ∀ {xs : List V} {us : List Value}, Vals xs us -> xs.all flatV = true -> us.any (eqU x) = xs.any fun y => eqV y x
 | _, _, .nil, _ => rfl
 | y :: xs, u :: us, .cons r t, f => by
  rw [List.all_cons, Bool.and_eq_true] at f
  rw [List.any_cons, List.any_cons, eqU_of r f.1, any_eqU t f.2]
theorem mem_eqAt {A : Around} {s : Shared} {x : V} {v : Value} (rx : RelV x v) (fx : flatV x = true) : ∀ {xs : List V} {us : List Value}, Vals xs us -> xs.all flatV = true -> ∀ u ∈ us, SeqAt.EqAt A s u v (eqU x u)
 | _, _, .nil, _ => fun u hu => by cases hu
 | y :: xs, u :: us, .cons r t, f => fun u' hu => by
  rw [List.all_cons, Bool.and_eq_true] at f
  rcases List.mem_cons.mp hu with rfl | hu
  ·rw [eqU_of r f.1]; exact eqAt_V r rx f.1 fx
  ·exact mem_eqAt rx fx t f.2 u' hu
def inV (x : V) (xs : List V) : Bool := xs.any fun y => eqV y x
def rIn (K : PySem.W.Frag) (neg : Bool) : R2 := fun x y H Q => ∃ p xs, y = .ref p /\ (SqL K H p xs ∨ SqT K H p xs) /\ flatV x = true /\ xs.all flatV = true /\ Q (.bl (if neg then !inV x xs else inV x xs)) H
theorem op_in_seq : OpR X (compareOp .In) (rIn X.K false) := by
 intro pins s σ H x y v u Q I rx ry h
 obtain ⟨p, xs, rfl, hq, fx, fs, q⟩ := h
 cases ry
 rcases hq with hq | hq
 ·obtain ⟨its, r, pl, hz⟩ := I.list hq
  refine SeqAt.in_listAt (eqU x) pl.isList (fun w hw => mem_eqAt rx fx r fs w (by simpa using hw)) ⟨.bl _, H, I, rfl, ?_⟩
  rw [show its.toArray.any (eqU x) = its.any (eqU x) by simp, any_eqU r fs]
  exact q
 ·obtain ⟨its, r, pl, hz⟩ := I.tuple hq
  refine SeqAt.in_tupleAt (eqU x) pl (fun w hw => mem_eqAt rx fx r fs w (by simpa using hw)) ⟨.bl _, H, I, rfl, ?_⟩
  rw [show its.toArray.any (eqU x) = its.any (eqU x) by simp, any_eqU r fs]
  exact q
theorem op_notIn_seq : OpR X (compareOp .NotIn) (rIn X.K true) := by
 intro pins s σ H x y v u Q I rx ry h
 obtain ⟨p, xs, rfl, hq, fx, fs, q⟩ := h
 cases ry
 rcases hq with hq | hq
 ·obtain ⟨its, r, pl, hz⟩ := I.list hq
  refine SeqAt.notIn_listAt (eqU x) pl.isList (fun w hw => mem_eqAt rx fx r fs w (by simpa using hw)) ⟨.bl _, H, I, rfl, ?_⟩
  rw [show its.toArray.any (eqU x) = its.any (eqU x) by simp, any_eqU r fs]
  exact q
 ·obtain ⟨its, r, pl, hz⟩ := I.tuple hq
  refine SeqAt.notIn_tupleAt (eqU x) pl (fun w hw => mem_eqAt rx fx r fs w (by simpa using hw)) ⟨.bl _, H, I, rfl, ?_⟩
  rw [show its.toArray.any (eqU x) = its.any (eqU x) by simp, any_eqU r fs]
  exact q
theorem call_len_seq : CallR X (.builtin "len") (fun xs H Q => ∃ p ys, xs = [.ref p] /\ (SqL X.K H p ys ∨ SqT X.K H p ys) /\ Q (.int ys.length) H) := by
 intro pins s σ H xs us Q I r h
 obtain ⟨p, ys, rfl, hq, q⟩ := h
 obtain ⟨u, rfl, rx⟩ := vals1 r
 cases rx
 have hn := line63
 rcases hq with hq | hq
 ·obtain ⟨its, r', pl, hz⟩ := I.list hq
  have hlen := r'.length
  exact Calls.call_len_list pl.isList (by simp only [List.size_toArray] <;> omega) ⟨.int ys.length, H, I.tok _, ⟨s.toks + 1, by rw [List.size_toArray, hlen]⟩, q⟩
 ·obtain ⟨its, r', pl, hz⟩ := I.tuple hq
  have hlen := r'.length
  exact len_tuple pl (by simp only [List.size_toArray] <;> omega) ⟨.int ys.length, H, I.tok _, ⟨s.toks + 1, by rw [List.size_toArray, hlen]⟩, q⟩
theorem call_len_str : CallR X (.builtin "len") (fun xs H Q => ∃ z, xs = [.str z] /\ z.length <= sizeLine /\ Q (.int z.length) H) := by
 intro pins s σ H xs us Q I r h
 obtain ⟨z, rfl, hz, q⟩ := h
 obtain ⟨u, rfl, t, rfl⟩ := vals1 r
 have hn := line63
 exact len_str (by omega) ⟨.int z.length, H, I.tok _, ⟨_, rfl⟩, q⟩
def tyV (K : PySem.W.Frag) (T : String) (x : V) (H : Hp) : Prop := match x with
 | .str _ => T = "str"
 | .int _ => T = "int"
 | .ref p => (T = "list" /\ ∃ xs, SqL K H p xs) ∨ (T = "tuple" /\ ∃ o, K.lookup p = some o /\ o.cls = .type "tuple" /\ o.dict = none) ∨
   (T = "dict" /\ ((∃ kvs, H p = some (.dK kvs)) ∨ ∃ kvs, H p = some (.dT kvs))) ∨ (T = "set" /\ ∃ S n, H p = some (.set S n))
 | _ => False
theorem tyV_is {pins : List (Addr × Obj)} {σ : St} {H : Hp} {s : Shared} {T : String} {x : V} {v : Value} (I : Inv X pins σ H s) (r : RelV x v) (ty : tyV X.K T x H) :
  s.TypeIs v T /\ ∀ a, v = .ref a -> ∃ ob, s.heap.get? a = some ob /\ ob.dict = none := by
 cases x with
 | str z =>
  obtain ⟨t, rfl⟩ := r
  cases (show T = "str" from ty)
  exact ⟨typeIs_str s z t, fun _ e => nomatch e⟩
 | int i =>
  obtain ⟨t, rfl⟩ := r
  cases (show T = "int" from ty)
  exact ⟨typeIs_int s i t, fun _ e => nomatch e⟩
 | ref p =>
  cases r
  rcases ty with ⟨rfl, xs, hq⟩ | ⟨rfl, o, hk, hc, hd⟩ | ⟨rfl, hk⟩ | ⟨rfl, S, n, hk⟩
  ·obtain ⟨its, _, pl, _⟩ := I.list hq
   refine ⟨pl.isList.typeIs, fun a e => ?_⟩
   cases e
   obtain ⟨o, n, e, c, hd, _⟩ := pl
   exact ⟨o, e, hd⟩
  ·refine ⟨⟨o, I.kIn p o hk, hc⟩, fun a e => ?_⟩
   cases e
   exact ⟨o, I.kIn _ o hk, hd⟩
  ·have z : ∃ o, s.heap.get? p = some o /\ o.ExactDict := by
    rcases hk with ⟨kvs, hk⟩ | ⟨kvs, hk⟩
    ·obtain ⟨_, _, _, _, o, _, _, e, ex, _⟩ := I.hok p _ hk
     exact ⟨o, e, ex⟩
    ·obtain ⟨_, _, _, _, o, _, _, e, ex, _⟩ := I.hok p _ hk
     exact ⟨o, e, ex⟩
   obtain ⟨o, e, ex⟩ := z
   refine ⟨⟨o, e, ex.1⟩, fun a e2 => ?_⟩
   cases e2
   exact ⟨o, e, ex.2.1⟩
  ·obtain ⟨o, _, _, _, e, ex, _⟩ := I.hok p _ hk
   refine ⟨⟨o, e, ex.1⟩, fun a e2 => ?_⟩
   cases e2
   exact ⟨o, e, ex.2.1⟩
 | _ => exact False.elim ty
def tBM0 (K : PySem.W.Frag) (T : String) (r : V -> List V -> Hp -> VK -> Prop) (to : TE) : TE := fun σ H Q => to σ H fun x H1 => tyV K T x H1 /\ r x [] H1 Q
def tBM (K : PySem.W.Frag) (T : String) (r : V -> List V -> Hp -> VK -> Prop) (to : TE) (t : TA) : TE := fun σ H Q => to σ H fun x H1 => tyV K T x H1 /\ t σ H1 fun xs H2 => r x xs H2 Q
variable {o e : Expr} {es : List Expr} {to : TE} {t : TA} {name : Str} {apos cpos : Pos} {T id : String} {r : V -> List V -> Hp -> VK -> Prop}
theorem pe_bm0 (pa : PlainAttrs T) (slot : Slot T name id) (hty : typeOf (.builtin id) = pure (.type "method_descriptor")) (hm : MtR X id r) (ho : PE X o to)
  (hbase : attributeBase o name X.env (eval o X.env) = eval o X.env := by rfl) (hline : (apos.endLine == cpos.line) = true := by rfl) : PE X (.Call (.Attribute o name apos) [] [] cpos) (tBM0 X.K T r to) := by
 intro pins s σ H Q I h
 refine wpAny_Call_method0_late hbase hline (thn (ho pins s σ H _ I h) fun v s1 ⟨x, H1, I1, r1, ty, q1⟩ => ?_)
 obtain ⟨h1, h2⟩ := tyV_is I1 r1 ty
 exact ⟨T, id, pa, slot, hty, h1, h2, Calls.callWith_builtin rfl (PySem.evalArgs_none (hm pins s1 σ H1 x [] v [] Q I1 r1 .nil q1))⟩
theorem pe_bm (pa : PlainAttrs T) (slot : Slot T name id) (hty : typeOf (.builtin id) = pure (.type "method_descriptor")) (hm : MtR X id r) (ho : PE X o to) (ha : PA X (e :: es) t)
  (hbase : attributeBase o name X.env (eval o X.env) = eval o X.env := by rfl)
  (hfew : ((backTo cpos (starEach (e :: es) X.env)).all (fun x => !x.1) && (backToKw cpos (keywordEach [] X.env)).all (fun x => x.1.isSome)
   && decide ((e :: es).length + ([] : List Keyword).length + (if ([] : List Keyword).isEmpty then 0 else 1) < 30)) = true := by rfl)
  (hline : (apos.endLine == cpos.line) = true := by rfl) (hs : starEach (e :: es) X.env = (false, eval e X.env) :: starEach es X.env := by rfl) (hplain : (backTo cpos (starEach es X.env)).any (·.1) = false := by rfl) :
  PE X (.Call (.Attribute o name apos) (e :: es) [] cpos) (tBM X.K T r to t) := by
 intro pins s σ H Q I h
 refine wpAny_Call_method_late hbase hfew hline rfl (thn (ho pins s σ H _ I h) fun v s1 ⟨x, H1, I1, r1, ty, q1⟩ => ?_)
 obtain ⟨h1, h2⟩ := tyV_is I1 r1 ty
 refine ⟨T, id, pa, slot, hty, h1, h2, ?_⟩
 have hA := ha cpos pins s1 σ H1 _ I1 q1
 rw [hs] at hA ⊢
 refine Calls.callWith_builtin (by show (false || (backTo cpos (starEach es X.env)).any (·.1)) = false; rw [hplain] <;> rfl) (Calls.evalArgs_plain ?_)
 exact thn hA fun us s2 ⟨vs, H2, I2, r2, q2⟩ => hm pins s2 σ H2 x vs v us Q I2 r1 r2 q2
/- xs.append(e), list.index on a module's tuple .. are MtR facts of 06m -/
end
end L2
namespace L2
open PySem PySem.Spec PyProof.Rows
def MtM (X : Cx) (id : String) (r : V -> List V -> Hp -> VK -> Prop) : Prop :=
 ∀ (pins : List (Addr × Obj)) (s : Shared) (σ : St) (H : Hp) (x : V) (xs : List V) (v : Value) (us : List Value) (Q : VK), Inv X pins σ H s -> RelV x v -> Vals xs us -> r x xs H Q ->
  wpAny (model X.prog X.w) X.A (call (.builtin id) (v :: us)) (EP X pins σ Q) X.xe s
theorem Vals.one : ∀ {x : V} {us : List Value}, Vals [x] us -> ∃ u, us = [u] /\ RelV x u
 | _, _, .cons r .nil => ⟨_, rfl, r⟩
theorem Vals.two : ∀ {x y : V} {us : List Value}, Vals [x, y] us -> ∃ u v, us = [u, v] /\ RelV x u /\ RelV y v
 | _, _, _, .cons r (.cons q .nil) => ⟨_, _, rfl, r, q⟩
theorem Vals.zero : ∀ {us : List Value}, Vals [] us -> us = []
 | _, .nil => rfl
theorem Vals.dropLast {xs : List V} {us : List Value} (h : Vals xs us) : Vals xs.dropLast us.dropLast := by
 induction h with
 | nil => exact .nil
 | cons r t ih =>
  cases t with
  | nil => exact .nil
  | cons q t' => exact .cons r ih
theorem Vals.reverse {xs : List V} {us : List Value} (h : Vals xs us) : Vals xs.reverse us.reverse := by
 induction h with
 | nil => exact .nil
 | cons r t ih => rw [List.reverse_cons, List.reverse_cons]; exact Vals.append ih (.cons r .nil)
theorem Vals.rep {xs : List V} {us : List Value} (h : Vals xs us) : ∀ k : Nat, Vals (List.replicate k xs).flatten (List.replicate k us).flatten
 | 0 => .nil
 | k + 1 => by
  rw [List.replicate_succ, List.replicate_succ, List.flatten_cons, List.flatten_cons]
  exact Vals.append h (Vals.rep h k)
theorem erase_last {α : Type} (l : List α) : l.eraseIdx (l.length - 1) = l.dropLast := by
 induction l with
 | nil => rfl
 | cons a r ih =>
  cases r with
  | nil => rfl
  | cons b r =>
   have e : (a :: b :: r).length - 1 = ((b :: r).length - 1) + 1 := by
    have h1 : (a :: b :: r).length = r.length + 2 := rfl
    have h2 : (b :: r).length = r.length + 1 := rfl
    omega
   rw [e, List.eraseIdx_cons_succ, ih]
   all_goals rfl
theorem foldl_rep (its : List Value) : ∀ (k : Nat) (acc : List Value),
  List.foldl (fun x1 x2 => x1 ++ x2) acc.toArray (List.replicate k its.toArray) = (acc ++ (List.replicate k its).flatten).toArray
 | 0, acc => by simp
 | k + 1, acc => by
  have e : acc.toArray ++ its.toArray = (acc ++ its).toArray := by simp
  have e2 : (acc ++ its) ++ (List.replicate k its).flatten = acc ++ (List.replicate (k + 1) its).flatten := by
   rw [List.replicate_succ, List.flatten_cons, List.append_assoc]
  rw [<- e2, <- foldl_rep its k (acc ++ its), <- e, List.replicate_succ, List.foldl_cons]
section
variable {X : Cx} {pins : List (Addr × Obj)} {σ : St} {H : Hp} {s : Shared} {l b : Addr} {xs ys zs : List V}
theorem Inv.lset {its its' : List Value} {n : Nat} {f : Array Value -> Array Value} {t' : Nat} (I : Inv X pins σ H s) (hH : H l = some (.lst xs))
  (e : s.heap.get? l = some { cls := .type "list", data := .seq its.toArray n }) (hf : f its.toArray = its'.toArray) (hv : Vals ys its') (hz : ys.length <= sizeLine) :
  Inv X pins σ (upd H l (.lst ys)) { s with heap := s.heap.update l (Obj.mapSeq f), toks := t' } := by
 have q := PySem.IsL.update e f
 rw [hf] at q
 refine I.write (x := l) (e := l) (by rw [hH]; exact trivial) (.inl rfl) (fun b' u hb hu => (Heap.get?_update_other s.heap (Obj.mapSeq f) (Ne.symm hb)).trans hu) ⟨_, q⟩ ?_
 exact ⟨hz, its', _, hv, q⟩
theorem Inv.lnew {its : List Value} {t' : Nat} (I : Inv X pins σ H s) (hv : Vals ys its) (hz : ys.length <= sizeLine) :
  Inv X pins σ (upd H s.heap.objs.size (.lst ys)) { s with heap := s.heap.push { cls := .type "list", data := .seq its.toArray }, toks := t' } :=
 I.laid (fun _ _ q => Heap.get?_push_of_some _ q) (Nat.le_refl _) ⟨hz, its, 0, hv, Heap.get?_push_size _ rfl⟩
theorem Inv.fresh (I : Inv X pins σ H s) : H s.heap.objs.size = none := I.hok.fresh (Nat.le_refl _)
theorem Inv.lstM (I : Inv X pins σ H s) (hH : H l = some (.lst xs)) : xs.length <= sizeLine /\ ∃ (its : List Value) (n : Nat), Vals xs its /\ xs.length = its.length /\ s.heap.get? l = some { cls := .type "list", data := .seq its.toArray n } := by
 obtain ⟨z, its, n, r, e⟩ := I.hok l _ hH
 exact ⟨z, its, n, r, r.length, e⟩
theorem notLongL {n : Nat} (h : n <= sizeLine) : Builtin.List.listTooLong n = false := by
 unfold Builtin.List.listTooLong
 exact decide_eq_false (by omega)
end
section
variable {X : Cx}
def rAppend : V -> List V -> Hp -> VK -> Prop := fun x vs H Q => ∃ l xs y, x = .ref l /\ vs = [y] /\ H l = some (.lst xs) /\ xs.length < sizeLine /\ Q .non (upd H l (.lst (xs ++ [y])))
theorem mt_append : MtM X "list.append" rAppend := by
 intro pins s σ H x vs v us Q I rx rv h
 obtain ⟨l, xs, y, rfl, rfl, hH, hz, q⟩ := h
 cases rx
 obtain ⟨u, rfl, ru⟩ := rv.one
 obtain ⟨z, its, n, r, hl, e⟩ := I.lstM hH
 refine call_meets F.slot_list_append ⟨_, e, rfl⟩ F.entry_list_append (F.args_list_append_2 _ _) (PySem.list_append l its.toArray n u (by rw [List.size_toArray]; omega)) ⟨e, ?_⟩
 refine ⟨.non, _, I.lset (its' := its ++ [u]) hH e (by simp) (r.append (.cons ru .nil)) ?_, rfl, q⟩
 rw [List.length_append, List.length_singleton]
 omega
def rPop : V -> List V -> Hp -> VK -> Prop := fun x vs H Q => ∃ l xs y, x = .ref l /\ vs = [] /\ H l = some (.lst xs) /\ xs[xs.length - 1]? = some y /\ Q y (upd H l (.lst xs.dropLast))
theorem mt_pop : MtM X "list.pop" rPop := by
 intro pins s σ H x vs v us Q I rx rv h
 obtain ⟨l, xs, y, rfl, rfl, hH, hy, q⟩ := h
 cases rx
 have hus := rv.zero
 subst hus
 obtain ⟨z, its, n, r, hl, e⟩ := I.lstM hH
 obtain ⟨u, hu, ru⟩ := r.get hy
 have hy' : its.toArray[its.toArray.size - 1]? = some u := by
  show its.toArray[its.length - 1]? = some u
  rw [<- Array.getElem?_toList, <- hl]
  exact hu
 refine call_meets F.slot_list_pop ⟨_, e, rfl⟩ F.entry_list_pop (F.args_list_pop_1 _) (MeetsSeq.list_pop_last l its.toArray n u hy' (by rw [List.size_toArray]; omega)) ⟨e, ?_⟩
 refine ⟨y, _, I.lset (its' := its.dropLast) hH e ?_ r.dropLast ?_, ru, q⟩
 ·show its.toArray.eraseIdxIfInBounds (its.toArray.size - 1) = its.dropLast.toArray
  rw [List.size_toArray, List.eraseIdxIfInBounds_toArray, erase_last]
 ·rw [List.length_dropLast]
  omega
def rCat : R2 := fun x y H Q => ∃ l b xs zs, x = .ref l /\ y = .ref b /\ H l = some (.lst xs) /\ H b = some (.lst zs) /\ xs.length + zs.length <= sizeLine /\ ∀ p, H p = none -> Q (.ref p) (upd H p (.lst (xs ++ zs)))
theorem op_cat : OpR X (binaryOp .Add) rCat := by
 intro pins s σ H x y v u Q I rx ry h
 obtain ⟨l, b, xs, zs, rfl, rfl, hH, hB, hz, q⟩ := h
 cases rx
 cases ry
 obtain ⟨z, its, n, r, hl, e⟩ := I.lstM hH
 obtain ⟨z2, its2, n2, r2, hl2, e2⟩ := I.lstM hB
 refine PySem.P.add_list e e2 ?_ (by rw [List.size_toArray, List.size_toArray]; omega)
 have ea : its.toArray ++ its2.toArray = (its ++ its2).toArray := by simp
 rw [ea]
 exact ⟨.ref _, _, I.lnew (t' := s.toks) (r.append r2) (by rw [List.length_append]; omega), rfl, q _ I.fresh⟩
def rRep : R2 := fun x y H Q => ∃ l k xs, x = .ref l /\ y = .int k /\ H l = some (.lst xs) /\ -(2 ^ 63) <= k /\ k < 2 ^ 63 /\ xs.length * k.toNat <= sizeLine /\
 ∀ p, H p = none -> Q (.ref p) (upd H p (.lst (List.replicate k.toNat xs).flatten))
theorem len_rep {α : Type} (xs : List α) (k : Nat) : (List.replicate k xs).flatten.length = k * xs.length := by
 induction k with
 | zero => simp
 | succ k ih => rw [List.replicate_succ, List.flatten_cons, List.length_append, ih, Nat.succ_mul, Nat.add_comm]
theorem op_rep : OpR X (binaryOp .Mult) rRep := by
 intro pins s σ H x y v u Q I rx ry h
 obtain ⟨l, k, xs, rfl, rfl, hH, h1, h2, hz, q⟩ := h
 cases rx
 obtain ⟨t, rfl⟩ := ry
 obtain ⟨z, its, n, r, hl, e⟩ := I.lstM hH
 have hlen : its.toArray.size * k.toNat <= sizeLine := by rw [List.size_toArray, <- hl]; exact hz
 have hcap : ¬ its.toArray.size * k.toNat > (2 ^ 63 - 1) / 8 := by
  have : (sizeLine : Nat) <= (2 ^ 63 - 1) / 8 := by decide
  omega
 have hfit : ¬ (!Builtin.List.listFitsIndex k) = true := by
  rw [fitsIndex_both h1 h2]
  exact Bool.false_ne_true
 have hlong : ¬ Builtin.List.listTooLong (its.toArray.size * k.toNat) = true := by
  rw [notLongL hlen]
  exact Bool.false_ne_true
 have hnew : List.foldl (fun x1 x2 => x1 ++ x2) #[] (List.replicate (if its.toArray.isEmpty = true then 0 else k.toNat) its.toArray) = (List.replicate k.toNat its).flatten.toArray := by
  have f0 : ∀ m : Nat, List.foldl (fun x1 x2 => x1 ++ x2) #[] (List.replicate m its.toArray) = (List.replicate m its).flatten.toArray := fun m => by
   have := foldl_rep its m []
   rw [List.nil_append] at this
   exact this
  rw [f0]
  cases its with
  | nil => simp
  | cons a r' => rw [if_neg (by simp)]
 refine wpAny_binaryOp_repeat_ref (T := "list") (U := "int") (by decide) ⟨_, e, rfl⟩ (fun s' => typeIs_int s' k t) noFill_list_mul F.fills_int_mul F.slot_int_rmul repeat_list F.slot_int_index.lookup
  (call_meets F.slot_int_rmul (typeIs_int s k t) F.entry_int_rmul (F.args_int_rmul_2 _ _) (int___rmul___int_list k t l its.toArray n)
   ⟨e, rfl, ⟨_, e, rfl⟩, call_meets F.slot_list_mul ⟨_, e, rfl⟩ F.entry_list_mul (F.args_list_mul_2 _ _) (AutoListH.list___mul___list_int_3 l its.toArray n k t hfit hcap hlong) ⟨e, ?_⟩⟩)
 rw [hnew]
 exact ⟨.ref _, _, I.lnew (t' := s.toks) (r.rep k.toNat) (by rw [len_rep, Nat.mul_comm]; exact hz), rfl, q _ I.fresh⟩
end
section
variable {prog : Program} {w : World} {A : Around} {E : Value -> Shared -> Prop} {s : Shared}
end
section
variable {X : Cx}
end
end L2
namespace L2
open PySem PySem.Spec PyProof.Rows
section
variable {κ : Type} [DecidableEq κ]
def valV (kvs : List (κ × V)) (k : κ) : Option V := (kvs.find? fun kv => decide (kv.1 = k)).map (·.2)
def putK (kvs : List (κ × V)) (k : κ) (v : V) : List (κ × V) :=
 if (kvs.any fun kv => decide (kv.1 = k)) = true then kvs.map (fun kv => if kv.1 = k then (kv.1, v) else kv) else kvs ++ [(k, v)]
theorem valV_pos {p : κ × V} {r : List (κ × V)} {k : κ} (e : p.1 = k) : valV (p :: r) k = some p.2 := by simp [valV, List.find?_cons, e]
theorem valV_neg {p : κ × V} {r : List (κ × V)} {k : κ} (e : ¬ p.1 = k) : valV (p :: r) k = valV r k := by simp [valV, List.find?_cons, e]
theorem valV_any (k : κ) : ∀ kvs : List (κ × V), (kvs.any fun kv => decide (kv.1 = k)) = (valV kvs k).isSome
 | [] => rfl
 | p :: r => by
  rw [List.any_cons]
  by_cases e : p.1 = k
  ·simp only [valV_pos e, decide_eq_true e, Bool.true_or, Option.isSome_some]
  ·rw [valV_neg e, decide_eq_false e, Bool.false_or]; exact valV_any k r
theorem length_putK (kvs : List (κ × V)) (k : κ) (v : V) : (putK kvs k v).length <= kvs.length + 1 := by
 unfold putK
 split
 ·rw [List.length_map]; omega
 ·rw [List.length_append, List.length_cons, List.length_nil]; omega
theorem putK_new {kvs : List (κ × V)} {k : κ} (v : V) (h : valV kvs k = none) : putK kvs k v = kvs ++ [(k, v)] := by
 unfold putK
 rw [valV_any, h]
 exact if_neg (by decide)
theorem RelO.isSome_eq {o : Option V} {u : Option Value} (r : RelO o u) : o.isSome = u.isSome := by
 cases o with
 | none => cases u with
  | none => rfl
  | some _ => exact (show False from r).elim
 | some _ => cases u with
  | none => exact (show False from r).elim
  | some _ => rfl
theorem RelO.getD {o : Option V} {u : Option Value} {d : V} {d' : Value} (r : RelO o u) (rd : RelV d d') : RelV (o.getD d) (u.getD d') := by
 cases o with
 | none => cases u with
  | none => exact rd
  | some _ => exact (show False from r).elim
 | some _ => cases u with
  | none => exact (show False from r).elim
  | some _ => exact r
theorem KV.val {kvs : List (κ × V)} {vs : List (κ × Value)} (r : KV kvs vs) (k : κ) : RelO (valV kvs k) (valueAt vs k) := by
 unfold KV at r
 induction r with
 | nil => exact True.intro
 | @cons p q ps qs h t ih =>
  obtain ⟨h1, h2⟩ := h
  by_cases e : p.1 = k
  ·have e' : q.1 = k := h1.symm.trans e
   have b : valueAt (q :: qs) k = some q.2 := by simp [valueAt, List.find?_cons, e']
   rw [valV_pos e, b]; exact h2
  ·have e' : ¬ q.1 = k := fun z => e (h1.trans z)
   have b : valueAt (q :: qs) k = valueAt qs k := by simp [valueAt, List.find?_cons, e']
   rw [valV_neg e, b]; exact ih
theorem KV.any {kvs : List (κ × V)} {vs : List (κ × Value)} (r : KV kvs vs) (k : κ) : (kvs.any fun kv => decide (kv.1 = k)) = vs.any fun kv => decide (kv.1 = k) := by
 unfold KV at r
 induction r with
 | nil => rfl
 | cons h t ih => rw [List.any_cons, List.any_cons, ih, h.1]
theorem KV.repl {kvs : List (κ × V)} {vs : List (κ × Value)} (r : KV kvs vs) (k : κ) {y : V} {u : Value} (ry : RelV y u) :
  KV (kvs.map fun kv => if kv.1 = k then (kv.1, y) else kv) (vs.map fun kv => if kv.1 = k then (kv.1, u) else kv) := by
 unfold KV at r ⊢
 induction r with
 | nil => exact .nil
 | @cons p q ps qs h t ih =>
  rw [List.map_cons, List.map_cons]
  refine .cons ?_ ih
  obtain ⟨h1, h2⟩ := h
  by_cases e : p.1 = k
  ·rw [if_pos e, if_pos (h1.symm.trans e)]; exact ⟨h1, ry⟩
  ·rw [if_neg e, if_neg (fun z => e (h1.trans z))]; exact ⟨h1, h2⟩
theorem KV.put {kvs : List (κ × V)} {vs : List (κ × Value)} (r : KV kvs vs) (k : κ) {y : V} {u : Value} (ry : RelV y u) : KV (putK kvs k y) (stored vs k u) := by
 unfold putK stored
 rw [r.any k]
 by_cases e : (vs.any fun kv => decide (kv.1 = k)) = true
 ·rw [if_pos e, if_pos e]; exact r.repl k ry
 ·rw [if_neg e, if_neg e]; exact Paired.snoc r ⟨rfl, ry⟩
theorem KV.keys {kvs : List (κ × V)} {vs : List (κ × Value)} (r : KV kvs vs) : kvs.map (·.1) = vs.map (·.1) := by
 unfold KV at r
 induction r with
 | nil => rfl
 | cons h t ih => rw [List.map_cons, List.map_cons, ih, h.1]
theorem KV.length {kvs : List (κ × V)} {vs : List (κ × Value)} (r : KV kvs vs) : kvs.length = vs.length := Paired.length r
end
theorem kV_is {P : Program} {w : World} {k : Key} {u : Value} (r : RelV (kV k) u) : (mixKind P w).is k u = true := by
 cases k with
 | inl i => obtain ⟨t, e⟩ := (show ∃ t, u = Value.int i t from r); subst e; exact mixKind_int P w i t
 | inr x => obtain ⟨t, e⟩ := (show ∃ t, u = Value.str x t from r); subst e; exact mixKind_str P w x t
theorem items_are {P : Program} {w : World} : ∀ {ks : List Key} {us : List Value}, Vals (ks.map kV) us -> ItemsAre (mixKind P w) ks us
 | [], _, r => by rw [List.map_nil] at r; cases r; exact .nil
 | k :: ks, _, r => by
  rw [List.map_cons] at r
  cases r with
  | cons h t => exact .cons (kV_is h) (items_are t)
abbrev KT (H : Hp) : List (List Key × V) -> List (List Key × Addr × Value) -> Prop := Paired fun p q => p.1 = q.1 /\ H q.2.1 = some (.tup (p.1.map kV)) /\ RelV p.2 q.2.2
theorem KT.val {H : Hp} {kvs : List (List Key × V)} {xs : List (List Key × Addr × Value)} (r : KT H kvs xs) (k : List Key) : RelO (valV kvs k) ((atKey xs k).map (·.2)) := by
 induction r with
 | nil => exact True.intro
 | @cons p q ps qs h t ih =>
  obtain ⟨h1, _, h2⟩ := h
  by_cases e : p.1 = k
  ·have e' : q.1 = k := h1.symm.trans e
   have b : atKey (q :: qs) k = some q.2 := by simp [atKey, List.find?_cons, e']
   rw [valV_pos e, b]; exact h2
  ·have e' : ¬ q.1 = k := fun z => e (h1.trans z)
   have b : atKey (q :: qs) k = atKey qs k := by simp [atKey, List.find?_cons, e']
   rw [valV_neg e, b]; exact ih
theorem KT.repl {H : Hp} {kvs : List (List Key × V)} {xs : List (List Key × Addr × Value)} (r : KT H kvs xs) (k : List Key) {y : V} {u : Value} (ry : RelV y u) :
  KT H (kvs.map fun kv => if kv.1 = k then (kv.1, y) else kv) (xs.map (putAt k u)) := by
 induction r with
 | nil => exact .nil
 | @cons p q ps qs h t ih =>
  rw [List.map_cons, List.map_cons]
  refine .cons ?_ ih
  obtain ⟨h1, h2, h3⟩ := h
  unfold putAt
  by_cases e : p.1 = k
  ·rw [if_pos e, if_pos (h1.symm.trans e)]; exact ⟨h1, h2, ry⟩
  ·rw [if_neg e, if_neg (fun z => e (h1.trans z))]; exact ⟨h1, h2, h3⟩
theorem KT.put {H : Hp} {kvs : List (List Key × V)} {xs : List (List Key × Addr × Value)} (r : KT H kvs xs) (k : List Key) {b : Addr} {y : V} {u : Value} (hb : H b = some (.tup (k.map kV))) (ry : RelV y u) :
  KT H (putK kvs k y) (storedH xs k b u) := by
 have e : (kvs.any fun kv => decide (kv.1 = k)) = (atKey xs k).isSome := by
  rw [valV_any, (r.val k).isSome_eq, Option.isSome_map]
 unfold putK storedH
 rw [e]
 by_cases q : (atKey xs k).isSome = true
 ·rw [if_pos q, if_pos q]; exact r.repl k ry
 ·rw [if_neg q, if_neg q]; exact Paired.snoc r ⟨rfl, hb, ry⟩
theorem KT.keeps {H H' : Hp} {kvs : List (List Key × V)} {xs : List (List Key × Addr × Value)} (r : KT H kvs xs) (ht : ∀ b ys, H b = some (.tup ys) -> H' b = some (.tup ys)) : KT H' kvs xs :=
 Paired.mapP r fun _ _ z => ⟨z.1, ht _ _ z.2.1, z.2.2⟩
section
variable {P : Program} {w : World} {H : Hp} {h : Heap} {a : Addr}
theorem rd_of {u : HO} (ok : HOk P w H h) (e : Rd H a u) : ObjOk P w H h a u := e.ok ok
theorem dk_rd {kvs : List (Key × V)} (ok : HOk P w H h) (e : Rd H a (.dK kvs)) : kvs.length <= sizeLine /\ (a == sysModules) = false /\ ∃ vs, KV kvs vs /\ h.DictOf (mixKind P w) a vs :=
 show ObjOk P w H h a (.dK kvs) from rd_of ok e
theorem dk_of {kvs : List (Key × V)} (ok : HOk P w H h) (e : H a = some (.dK kvs)) : kvs.length <= sizeLine /\ (a == sysModules) = false /\ ∃ vs, KV kvs vs /\ h.DictOf (mixKind P w) a vs := dk_rd ok (.inl e)
theorem key_of {ks : List Key} (ok : HOk P w H h) (e : H a = some (.tup (ks.map kV))) : (tupleKind (mixKind P w)).is h ks a := by
 obtain ⟨_, its, r, ⟨o, h1, h2, n, h3⟩, _⟩ := (show ObjOk P w H h a (.tup (ks.map kV)) from ok a _ e)
 exact ⟨o, its.toArray, n, h1, h2, h3, by simpa using items_are r⟩
theorem dt_rd {kvs : List (List Key × V)} (ok : HOk P w H h) (e : Rd H a (.dT kvs)) : kvs.length <= sizeLine /\ (a == sysModules) = false /\
  ∃ xs, KT H kvs xs /\ h.DictOfH (tupleKind (mixKind P w)) a xs := by
 obtain ⟨z, y, xs, r, o, es, ep, h1, h2, h3, h4, h5⟩ := (show ObjOk P w H h a (.dT kvs) from rd_of ok e)
 refine ⟨z, y, xs, r, o, es, ep, h1, h2, h3, h4, fun x hx => ?_, h5⟩
 have all : ∀ {l : List (List Key × V)} {m : List (List Key × Addr × Value)}, KT H l m -> ∀ x ∈ m, (tupleKind (mixKind P w)).is h x.1 x.2.1 := by
  intro l m q
  induction q with
  | nil => intro x hx; exact nomatch hx
  | @cons p q ps qs hq t ih =>
   intro x hx
   rcases List.mem_cons.mp hx with e | hx
   ·subst e
    exact key_of ok (by rw [<- hq.1]; exact hq.2.1)
   ·exact ih x hx
 exact all r x hx
theorem dt_of {kvs : List (List Key × V)} (ok : HOk P w H h) (e : H a = some (.dT kvs)) : kvs.length <= sizeLine /\ (a == sysModules) = false /\
  ∃ xs, KT H kvs xs /\ h.DictOfH (tupleKind (mixKind P w)) a xs := dt_rd ok (.inl e)
end
def DGet (H : Hp) (a : Addr) (y : V) (r : Option V) : Prop :=
 (∃ kvs k, Rd H a (.dK kvs) /\ y = kV k /\ r = valV kvs k) ∨ ∃ kvs k b, Rd H a (.dT kvs) /\ y = .ref b /\ H b = some (.tup (k.map kV)) /\ r = valV kvs k
def DPut (H : Hp) (a : Addr) (y v : V) (H' : Hp) : Prop :=
 (∃ kvs k, H a = some (.dK kvs) /\ y = kV k /\ kvs.length < sizeLine /\ H' = upd H a (.dK (putK kvs k v))) ∨
 ∃ kvs k b, H a = some (.dT kvs) /\ y = .ref b /\ H b = some (.tup (k.map kV)) /\ kvs.length < sizeLine /\ H' = upd H a (.dT (putK kvs k v))
theorem DGet.k {H : Hp} {a : Addr} {kvs : List (Key × V)} {k : Key} (e : H a = some (.dK kvs)) : DGet H a (kV k) (valV kvs k) := .inl ⟨kvs, k, .inl e, rfl, rfl⟩
theorem DGet.t {H : Hp} {a b : Addr} {kvs : List (List Key × V)} {k : List Key} (e : H a = some (.dT kvs)) (eb : H b = some (.tup (k.map kV))) : DGet H a (.ref b) (valV kvs k) := .inr ⟨kvs, k, b, .inl e, rfl, eb, rfl⟩
theorem DPut.k {H : Hp} {a : Addr} {kvs : List (Key × V)} {k : Key} {v : V} (e : H a = some (.dK kvs)) (hl : kvs.length < sizeLine) : DPut H a (kV k) v (upd H a (.dK (putK kvs k v))) := .inl ⟨kvs, k, e, rfl, hl, rfl⟩
theorem DPut.t {H : Hp} {a b : Addr} {kvs : List (List Key × V)} {k : List Key} {v : V} (e : H a = some (.dT kvs)) (eb : H b = some (.tup (k.map kV))) (hl : kvs.length < sizeLine) :
  DPut H a (.ref b) v (upd H a (.dT (putK kvs k v))) := .inr ⟨kvs, k, b, e, rfl, eb, hl, rfl⟩
section
variable {X : Cx} {pins : List (Addr × Obj)} {σ : St} {H : Hp} {s : Shared} {a : Addr} {y v : V} {u r : Value} {o : Option V} {A : Around} {E : Value -> Shared -> Prop}
theorem Inv.big (I : Inv X pins σ H s) : sysModules < s.heap.objs.size := by
 have h : mainGlobals < s.heap.objs.size := (I.mod.glob.keeps I.bk).lt
 exact Nat.lt_trans (by decide) h
theorem d_getItem {Q : Value -> Shared -> Prop} (hu : A.units + 1 < cLine) (I : Inv X pins σ H s) (g : DGet H a y (some v)) (ry : RelV y u) (h : ∀ w' s', Inv X pins σ H s' -> RelV v w' -> Q w' s') :
  wpAny (model X.prog X.w) A (getItem (.ref a) u) Q E s := by
 rcases g with ⟨kvs, k, e, ey, l⟩ | ⟨kvs, k, b, e, ey, eb, l⟩
 ·subst ey
  obtain ⟨z, hd, vs, rel, dd⟩ := dk_rd I.hok e
  obtain ⟨w', hw, rw'⟩ := RelO.some_of (v := v) (o := valueAt vs k) (by rw [l]; exact rel.val k)
  exact wpAny_getItem_of (kV_is ry) dd.mapOf hw (h w' _ (I.tok _) rw')
 ·subst ey
  cases (show u = Value.ref b from ry)
  obtain ⟨z, hd, xs, rel, dd⟩ := dt_rd I.hok e
  obtain ⟨w', hw, rw'⟩ := RelO.some_of (v := v) (o := (atKey xs k).map (·.2)) (by rw [l]; exact rel.val k)
  obtain ⟨p, hp, hp2⟩ := Option.map_eq_some_iff.mp hw
  refine wpAny_getItem_heap (tupleKind_room_in1 hu) (key_of I.hok eb) dd hp ?_
  rw [hp2]
  exact h w' _ (I.tok _) rw'
theorem d_in {Q : Value -> Shared -> Prop} (hu : A.units + 1 < cLine) (I : Inv X pins σ H s) (g : DGet H a y o) (ry : RelV y u) (h : ∀ s', Inv X pins σ H s' -> Q (.bool o.isSome) s') :
  wpAny (model X.prog X.w) A (compareOp .In u (.ref a)) Q E s := by
 rcases g with ⟨kvs, k, e, ey, l⟩ | ⟨kvs, k, b, e, ey, eb, l⟩
 ·subst ey
  obtain ⟨z, hd, vs, rel, dd⟩ := dk_rd I.hok e
  refine wpAny_in_of (kV_is ry) hd dd.mapOf ?_
  rw [<- (rel.val k).isSome_eq, <- l]
  exact h _ (I.tok _)
 ·subst ey
  cases (show u = Value.ref b from ry)
  obtain ⟨z, hd, xs, rel, dd⟩ := dt_rd I.hok e
  refine wpAny_in_heap (tupleKind_room_in1 hu) (key_of I.hok eb) hd dd ?_
  have q := (rel.val k).isSome_eq
  rw [Option.isSome_map] at q
  rw [<- q, <- l]
  exact h _ (I.tok _)
theorem d_notIn {Q : Value -> Shared -> Prop} (hu : A.units + 1 < cLine) (I : Inv X pins σ H s) (g : DGet H a y o) (ry : RelV y u) (h : ∀ s', Inv X pins σ H s' -> Q (.bool (!o.isSome)) s') :
  wpAny (model X.prog X.w) A (compareOp .NotIn u (.ref a)) Q E s := by
 rcases g with ⟨kvs, k, e, ey, l⟩ | ⟨kvs, k, b, e, ey, eb, l⟩
 ·subst ey
  obtain ⟨z, hd, vs, rel, dd⟩ := dk_rd I.hok e
  refine wpAny_notIn_of (kV_is ry) hd dd.mapOf ?_
  rw [<- (rel.val k).isSome_eq, <- l]
  exact h _ (I.tok _)
 ·subst ey
  cases (show u = Value.ref b from ry)
  obtain ⟨z, hd, xs, rel, dd⟩ := dt_rd I.hok e
  refine wpAny_notIn_heap (tupleKind_room_in1 hu) (key_of I.hok eb) hd dd ?_
  have q := (rel.val k).isSome_eq
  rw [Option.isSome_map] at q
  rw [<- q, <- l]
  exact h _ (I.tok _)
theorem d_write {h' : Heap} {t' : Nat} {ob : HO} (I : Inv X pins σ H s) (mu : Mut (H a)) (hs : Heap.SameBut a s.heap h') (he : ∃ q, h'.get? a = some q) (new : ObjOk X.prog X.w (upd H a ob) h' a ob) :
  Inv X pins σ (upd H a ob) { s with heap := h', toks := t' } :=
 I.write (x := a) (e := a) mu (.inl rfl) (fun b q hb z => (hs.2 b hb).trans z) he new
theorem dk_new {P : Program} {w : World} {H' : Hp} {h' : Heap} {kvs : List (Key × V)} {vs : List (Key × Value)} (z : kvs.length <= sizeLine) (hd : (a == sysModules) = false) (rel : KV kvs vs) (dd : h'.DictOf (mixKind P w) a vs) :
  ObjOk P w H' h' a (.dK kvs) := ⟨z, hd, vs, rel, dd⟩
theorem d_setItem {H' : Hp} {Q : Unit -> Shared -> Prop} (hu : A.units + 1 < cLine) (I : Inv X pins σ H s) (g : DPut H a y v H') (ry : RelV y u) (rv : RelV v r) (h : ∀ s', Inv X pins σ H' s' -> Q () s') :
  wpAny (model X.prog X.w) A (setItem (.ref a) u r) Q E s := by
 rcases g with ⟨kvs, k, e, ey, l, eH⟩ | ⟨kvs, k, b, e, ey, eb, l, eH⟩
 ·subst ey eH
  obtain ⟨z, hd, vs, rel, dd⟩ := dk_of I.hok e
  have hz : vs.length <= sizeLine := by rw [<- rel.length]; exact z
  have hl : (putK kvs k v).length <= sizeLine := by have := length_putK kvs k v; omega
  refine wpAny_setItem_pairs (hsz := hz) (kV_is ry) dd fun h' dd' hs => h _ ?_
  have he : ∃ q, h'.get? a = some q := let ⟨q, _, _, hq, _⟩ := dd'; ⟨q, hq⟩
  exact d_write I (by rw [e]; exact True.intro) hs he (dk_new hl hd (rel.put k rv) dd')
 ·subst ey eH
  cases (show u = Value.ref b from ry)
  obtain ⟨z, hd, xs, rel, dd⟩ := dt_of I.hok e
  have hz : xs.length <= sizeLine := by rw [<- Paired.length rel]; exact z
  have hl : (putK kvs k v).length <= sizeLine := by have := length_putK kvs k v; omega
  refine wpAny_setItem_heap (hsz := hz) (tupleKind_room_in1 hu) (key_of I.hok eb) dd fun h' dd' hs => h _ ?_
  obtain ⟨q, es, ep, hq, h2, h3, h4, _, h5⟩ := dd'
  refine d_write I (by rw [e]; exact True.intro) hs ⟨q, hq⟩ ⟨hl, hd, _, (rel.put k eb rv).keeps fun c ys ec => ?_, q, es, ep, hq, h2, h3, h4, h5⟩
  rw [upd_ne (ne_of ec e (fun z => nomatch z))]
  exact ec
end
section
variable {X : Cx} {pins : List (Addr × Obj)} {σ : St} {H : Hp} {s : Shared} {a : Addr} {kvs : List (Key × V)} {k : Key} {u : Value} {A : Around} {E : Value -> Shared -> Prop}
end
def NoSl (i : Expr) : Prop := ∀ ov iv, subscripted i false ov iv = operate [ov, iv] (getItem ov iv)
theorem subD_of {prog : Program} {w : World} {A : Around} {E : Value -> Shared -> Prop} {s : Shared} {env : Env} {value slice : Expr} {pos : Pos} {T id : String} {Q : Value -> Shared -> Prop}
  (hl : typeLookup (.type T) "__getitem__" = pure (some (.builtin id))) (hs : NoSl slice)
  (h : wpAny (model prog w) A (eval value env) (fun o s₁ => wpAny (model prog w) A (eval slice env) (fun i s₂ => s₂.TypeIs o T /\ wpAny (model prog w) A (getItem o i) Q E s₂) E s₁) E s) :
  wpAny (model prog w) A (eval (.Subscript value slice pos) env) Q E s := by
 refine Subscript_ (wpAny_mono h (fun o s₁ h₁ => wpAny_mono h₁ (fun i s₂ h₂ => ?_) fun _ _ x => x) fun _ _ x => x)
 obtain ⟨hT, h₂⟩ := h₂
 unfold subscriptTail
 refine wpAny_bind ?_
 rw [getitemInPython_of_ne hT.not_modules]
 refine wpAny_bind (wpAny_specialOf hT hl ?_)
 have fin : wpAny (model prog w) A (subscripted slice false o i) (fun r s₃ => wpAny (model prog w) A (letTemporaryGo value o r >>= fun _ => pure r) Q E s₃) E s₂ := by
  rw [hs o i]
  exact wpAny_operating (wpAny_mono h₂ (fun r s₃ h₃ => wpAny_bind (wpAny_letTemporaryGo (wpAny_pure h₃))) fun _ _ x => x)
 first
  | exact wpAny_pure (wpAny_bind fin)
  | exact wpAny_bind (wpAny_pure (wpAny_bind fin))
  | exact wpAny_bind fin
theorem dict_typeIs {X : Cx} {pins : List (Addr × Obj)} {σ : St} {H : Hp} {s : Shared} {a : Addr} {y : V} {o : Option V} (I : Inv X pins σ H s) (g : DGet H a y o) : s.TypeIs (.ref a) "dict" := by
 rcases g with ⟨kvs, k, e, _, _⟩ | ⟨kvs, k, b, e, _, _, _⟩
 ·obtain ⟨_, _, vs, _, dd⟩ := dk_rd I.hok e
  exact dd.typeIs
 ·obtain ⟨_, _, xs, _, dd⟩ := dt_rd I.hok e
  exact dd.typeIs
def tDGet (td ty : TE) : TE := fun σ H Q => td σ H fun x H1 => ty σ H1 fun y H2 => ∃ a v, x = .ref a /\ DGet H2 a y (some v) /\ Q v H2
def tDIn (ty td : TE) : TE := fun σ H Q => ty σ H fun y H1 => td σ H1 fun x H2 => ∃ a o, x = .ref a /\ DGet H2 a y o /\ Q (.bl o.isSome) H2
def tDNotIn (ty td : TE) : TE := fun σ H Q => ty σ H fun y H1 => td σ H1 fun x H2 => ∃ a o, x = .ref a /\ DGet H2 a y o /\ Q (.bl (!o.isSome)) H2
def sDPut (td ty tv : TE) : TS := fun D σ H => tv σ H fun v H1 => td σ H1 fun x H2 => ty σ H2 fun y H3 => ∃ a H4, x = .ref a /\ DPut H3 a y v H4 /\ D.nx σ H4
section
variable {X : Cx} {o i e value : Expr} {pos pos' tpos : Pos} {td ty tv : TE}
theorem pe_dget (hu : X.A.units + 1 < cLine) (ho : PE X o td) (hi : PE X i ty) (hs : NoSl i) : PE X (.Subscript o i pos) (tDGet td ty) := by
 intro pins s σ H Q I h
 refine subD_of PySem.F.slot_dict_getitem.lookup hs (thn (ho pins s σ H _ I h) fun u s1 ⟨x, H1, I1, rx, q1⟩ => thn (hi pins s1 σ H1 _ I1 q1) fun iv s2 ⟨y, H2, I2, ry, a, v, ex, g, q2⟩ => ?_)
 subst ex
 obtain rfl : u = Value.ref a := rx
 exact ⟨dict_typeIs I2 g, d_getItem hu I2 g ry fun w' s3 I3 rw' => ⟨v, H2, I3, rw', q2⟩⟩
theorem pc_din (hu : X.A.units + 1 < cLine) (hi : PE X i ty) (ho : PE X o td) : PC X .In i o (tDIn ty td) := by
 intro pins s σ H Q I h
 refine thn (hi pins s σ H _ I h) fun iv s1 ⟨y, H1, I1, ry, q1⟩ => thn (ho pins s1 σ H1 _ I1 q1) fun u s2 ⟨x, H2, I2, rx, a, ov, ex, g, q2⟩ => ?_
 subst ex
 obtain rfl : u = Value.ref a := rx
 exact d_in hu I2 g ry fun s3 I3 => ⟨.bl ov.isSome, H2, I3, rfl, q2⟩
theorem pc_dnotin (hu : X.A.units + 1 < cLine) (hi : PE X i ty) (ho : PE X o td) : PC X .NotIn i o (tDNotIn ty td) := by
 intro pins s σ H Q I h
 refine thn (hi pins s σ H _ I h) fun iv s1 ⟨y, H1, I1, ry, q1⟩ => thn (ho pins s1 σ H1 _ I1 q1) fun u s2 ⟨x, H2, I2, rx, a, ov, ex, g, q2⟩ => ?_
 subst ex
 obtain rfl : u = Value.ref a := rx
 exact d_notIn hu I2 g ry fun s3 I3 => ⟨.bl (!ov.isSome), H2, I3, rfl, q2⟩
theorem ps_dput (hu : X.A.units + 1 < cLine) (ho : PE X o td) (hi : PE X i ty) (hv : PE X value tv) (hs : swapsWith value (some (.Subscript o i pos')) pos.line X.env = pure false) :
  PS X (.Assign [.Subscript o i pos'] value pos) (sDPut td ty tv) := by
 intro pins s σ H D I h
 refine wpAny_Assign_Subscript (thn (hv pins s σ H _ I h) fun r s1 ⟨v, H1, I1, rv, q1⟩ => thn (ho pins s1 σ H1 _ I1 q1) fun u s2 ⟨x, H2, I2, rx, q2⟩ => thn (hi pins s2 σ H2 _ I2 q2) fun iv s3 ⟨y, H3, I3, ry, a, H4, ex, g, q3⟩ => ?_) hs
 subst ex
 obtain rfl : u = Value.ref a := rx
 exact d_setItem hu I3 g ry rv fun s4 I4 => ⟨σ, H4, I4, q3⟩
end
theorem dk_empty {P : Program} {w : World} {H : Hp} (h : Heap) (hb : sysModules < h.objs.size) : ObjOk P w H (h.push { cls := .type "dict", data := .dict #[] }) h.objs.size (.dK []) :=
 ⟨Nat.zero_le _, beq_eq_false_iff_ne.mpr (Ne.symm (Nat.ne_of_lt hb)), [], .nil, Heap.DictOf.new h⟩
theorem dt_empty {P : Program} {w : World} {H : Hp} (h : Heap) (hb : sysModules < h.objs.size) : ObjOk P w H (h.push { cls := .type "dict", data := .dict #[] }) h.objs.size (.dT []) :=
 ⟨Nat.zero_le _, beq_eq_false_iff_ne.mpr (Ne.symm (Nat.ne_of_lt hb)), [], .nil, _, #[], 0, Heap.get?_push_size _ rfl, ⟨rfl, rfl, rfl⟩, rfl, rfl, List.nodup_nil⟩
def tDNewK : TE := fun _ H Q => ∀ p, H p = none -> Q (.ref p) (upd H p (.dK []))
def tDNewT : TE := fun _ H Q => ∀ p, H p = none -> Q (.ref p) (upd H p (.dT []))
section
variable {X : Cx} {pos : Pos}
theorem pe_dnewK : PE X (.Dict [] [] pos) tDNewK := fun pins s σ H Q I h =>
 wpAny_Dict_empty ⟨.ref s.heap.objs.size, _, I.laid (a := s.heap.objs.size) (o := .dK []) (t' := s.toks) (fun _ _ q => Heap.get?_push_of_some _ q) (Nat.le_refl _) (dk_empty s.heap I.big), rfl, h _ (I.hok.fresh (Nat.le_refl _))⟩
theorem pe_dnewT : PE X (.Dict [] [] pos) tDNewT := fun pins s σ H Q I h =>
 wpAny_Dict_empty ⟨.ref s.heap.objs.size, _, I.laid (a := s.heap.objs.size) (o := .dT []) (t' := s.toks) (fun _ _ q => Heap.get?_push_of_some _ q) (Nat.le_refl _) (dt_empty s.heap I.big), rfl, h _ (I.hok.fresh (Nat.le_refl _))⟩
end
def mergeK (kvs more : List (Key × V)) : List (Key × V) := more.foldl (fun acc kv => putK acc kv.1 kv.2) kvs
theorem length_mergeK : ∀ (more kvs : List (Key × V)), (mergeK kvs more).length <= kvs.length + more.length
 | [], kvs => by show kvs.length <= kvs.length + 0; omega
 | p :: r, kvs => by
  have h1 := length_mergeK r (putK kvs p.1 p.2)
  have h2 := length_putK kvs p.1 p.2
  show (mergeK (putK kvs p.1 p.2) r).length <= _
  rw [List.length_cons]; omega
structure M1 (X : Cx) (o : Expr) (m : Str) (apos : Pos) (e : Expr) (cpos : Pos) : Prop where
 base : attributeBase o m X.env (eval o X.env) = eval o X.env
 few : ((backTo cpos (starEach [e] X.env)).all (fun x => !x.1) && (backToKw cpos (keywordEach [] X.env)).all (fun x => x.1.isSome)
  && decide (([e] : List Expr).length + ([] : List Keyword).length + (if ([] : List Keyword).isEmpty then 0 else 1) < 30)) = true
 line : (apos.endLine == cpos.line) = true
 trees : backTo cpos (starEach [e] X.env) = [(false, eval e X.env)]
structure M2 (X : Cx) (o : Expr) (m : Str) (apos : Pos) (e f : Expr) (cpos : Pos) : Prop where
 base : attributeBase o m X.env (eval o X.env) = eval o X.env
 few : ((backTo cpos (starEach [e, f] X.env)).all (fun x => !x.1) && (backToKw cpos (keywordEach [] X.env)).all (fun x => x.1.isSome)
  && decide (([e, f] : List Expr).length + ([] : List Keyword).length + (if ([] : List Keyword).isEmpty then 0 else 1) < 30)) = true
 line : (apos.endLine == cpos.line) = true
 trees : backTo cpos (starEach [e, f] X.env) = [(false, eval e X.env), (false, eval f X.env)]
def IsD (H : Hp) (a : Addr) : Prop := (∃ kvs, Rd H a (.dK kvs)) ∨ ∃ kvs, Rd H a (.dT kvs)
theorem isD_at {X : Cx} {pins : List (Addr × Obj)} {σ : St} {H : Hp} {s : Shared} {a : Addr} (I : Inv X pins σ H s) (d : IsD H a) :
  s.TypeIs (.ref a) "dict" /\ (∀ b, Value.ref a = .ref b -> ∃ ob, s.heap.get? b = some ob /\ ob.dict = none) /\ (a == sysModules) = false := by
 rcases d with ⟨kvs, e⟩ | ⟨kvs, e⟩
 ·obtain ⟨_, hd, vs, _, dd⟩ := dk_rd I.hok e
  refine ⟨dd.typeIs, fun b q => ?_, hd⟩
  cases q
  obtain ⟨ob, _, _, h1, h2, _⟩ := dd
  exact ⟨ob, h1, h2.2.1⟩
 ·obtain ⟨_, hd, xs, _, dd⟩ := dt_rd I.hok e
  refine ⟨dd.typeIs, fun b q => ?_, hd⟩
  cases q
  obtain ⟨ob, _, _, h1, h2, _⟩ := dd
  exact ⟨ob, h1, h2.2.1⟩
section
variable {X : Cx} {pins : List (Addr × Obj)} {σ : St} {H : Hp} {s : Shared} {a : Addr} {y d : V} {u r : Value} {o : Option V} {A : Around} {E : Value -> Shared -> Prop}
theorem d_get1 {Q : Value -> Shared -> Prop} (hu : A.units + 1 < cLine) (I : Inv X pins σ H s) (g : DGet H a y o) (ry : RelV y u) (h : ∀ w' s', Inv X pins σ H s' -> RelV (o.getD .non) w' -> Q w' s') :
  wpAny (model X.prog X.w) A (call (.builtin "dict.get") [.ref a, u]) Q E s := by
 rcases g with ⟨kvs, k, e, ey, l⟩ | ⟨kvs, k, b, e, ey, eb, l⟩
 ·subst ey
  obtain ⟨z, hd, vs, rel, dd⟩ := dk_rd I.hok e
  refine call_meetsIn PySem.F.slot_dict_get dd.typeIs PySem.F.entry_dict_get (PySem.F.args_dict_get_2 _ _) (meets_dict_get (mixKind X.prog X.w) a (kV_is ry) hd) ⟨_, dd.mapOf, h _ _ (I.tok _) ?_⟩
  rw [l]
  exact (rel.val k).getD rfl
 ·subst ey
  cases (show u = Value.ref b from ry)
  obtain ⟨z, hd, xs, rel, dd⟩ := dt_rd I.hok e
  refine call_meetsIn PySem.F.slot_dict_get dd.typeIs PySem.F.entry_dict_get (PySem.F.args_dict_get_2 _ _) (meetsH_dict_get (tupleKind (mixKind X.prog X.w)) a b hd) ⟨tupleKind_room_in1 hu, k, xs, key_of I.hok eb, dd, h _ _ (I.tok _) ?_⟩
  rw [l]
  exact (rel.val k).getD rfl
theorem d_get2 {Q : Value -> Shared -> Prop} (hu : A.units + 1 < cLine) (I : Inv X pins σ H s) (g : DGet H a y o) (ry : RelV y u) (rd : RelV d r) (h : ∀ w' s', Inv X pins σ H s' -> RelV (o.getD d) w' -> Q w' s') :
  wpAny (model X.prog X.w) A (call (.builtin "dict.get") [.ref a, u, r]) Q E s := by
 rcases g with ⟨kvs, k, e, ey, l⟩ | ⟨kvs, k, b, e, ey, eb, l⟩
 ·subst ey
  obtain ⟨z, hd, vs, rel, dd⟩ := dk_rd I.hok e
  refine call_meetsIn PySem.F.slot_dict_get dd.typeIs PySem.F.entry_dict_get (PySem.F.args_dict_get_3 _ _ _) (meets_dict_get_default (mixKind X.prog X.w) a (kV_is ry) hd r) ⟨_, dd.mapOf, h _ _ (I.tok _) ?_⟩
  rw [l]
  exact (rel.val k).getD rd
 ·subst ey
  cases (show u = Value.ref b from ry)
  obtain ⟨z, hd, xs, rel, dd⟩ := dt_rd I.hok e
  refine call_meetsIn PySem.F.slot_dict_get dd.typeIs PySem.F.entry_dict_get (PySem.F.args_dict_get_3 _ _ _) (meetsH_dict_get_default (tupleKind (mixKind X.prog X.w)) a b hd r) ⟨tupleKind_room_in1 hu, k, xs, key_of I.hok eb, dd, h _ _ (I.tok _) ?_⟩
  rw [l]
  exact (rel.val k).getD rd
end
def tDGet1 (td ty : TE) : TE := fun σ H Q => td σ H fun x H1 => ∃ a, x = .ref a /\ IsD H1 a /\ ty σ H1 fun y H2 => ∃ o, DGet H2 a y o /\ Q (o.getD .non) H2
def tDGet2 (td ty tx : TE) : TE := fun σ H Q => td σ H fun x H1 => ∃ a, x = .ref a /\ IsD H1 a /\ ty σ H1 fun y H2 => tx σ H2 fun z H3 => ∃ o, DGet H3 a y o /\ Q (o.getD z) H3
section
variable {X : Cx} {o e f : Expr} {apos cpos : Pos} {td ty tx : TE}
theorem pe_dget1 (hu : X.A.units + 1 < cLine) (ho : PE X o td) (he : PE X e ty) (m : M1 X o "get" apos e cpos) : PE X (.Call (.Attribute o "get" apos) [e] [] cpos) (tDGet1 td ty) := by
 intro pins s σ H Q I h
 refine wpAny_Call_method m.base m.few m.line PySem.F.plainAttrs_dict PySem.F.slot_dict_get PySem.F.type_dict_get (thn (ho pins s σ H _ I h) fun u s1 ⟨x, H1, I1, rx, a, ex, d, q1⟩ => ?_)
 subst ex
 obtain rfl : u = Value.ref a := rx
 obtain ⟨t1, t2, _⟩ := isD_at I1 d
 refine ⟨t1, t2, ?_⟩
 rw [m.trees]
 refine Calls.callWith_builtin rfl (Calls.evalArgs_plain (Calls.spliced_cons (thn (he pins s1 σ H1 _ I1 q1) fun iv s2 ⟨y, H2, I2, ry, ov, g, q2⟩ => Calls.spliced_nil ?_)))
 exact d_get1 hu I2 g ry fun w' s3 I3 rw' => ⟨_, H2, I3, rw', q2⟩
theorem pe_dget2 (hu : X.A.units + 1 < cLine) (ho : PE X o td) (he : PE X e ty) (hf : PE X f tx) (m : M2 X o "get" apos e f cpos) : PE X (.Call (.Attribute o "get" apos) [e, f] [] cpos) (tDGet2 td ty tx) := by
 intro pins s σ H Q I h
 refine wpAny_Call_method m.base m.few m.line PySem.F.plainAttrs_dict PySem.F.slot_dict_get PySem.F.type_dict_get (thn (ho pins s σ H _ I h) fun u s1 ⟨x, H1, I1, rx, a, ex, d, q1⟩ => ?_)
 subst ex
 obtain rfl : u = Value.ref a := rx
 obtain ⟨t1, t2, _⟩ := isD_at I1 d
 refine ⟨t1, t2, ?_⟩
 rw [m.trees]
 refine Calls.callWith_builtin rfl (Calls.evalArgs_plain (Calls.spliced_cons (thn (he pins s1 σ H1 _ I1 q1) fun iv s2 ⟨y, H2, I2, ry, q2⟩ =>
  Calls.spliced_cons (thn (hf pins s2 σ H2 _ I2 q2) fun fv s3 ⟨z, H3, I3, rz, ov, g, q3⟩ => Calls.spliced_nil ?_))))
 exact d_get2 hu I3 g ry rz fun w' s4 I4 rw' => ⟨_, H3, I4, rw', q3⟩
end
section
variable {X : Cx} {pins : List (Addr × Obj)} {σ : St} {H : Hp} {s : Shared} {a : Addr} {kvs : List (Key × V)} {A : Around} {E : Value -> Shared -> Prop}
end
section
variable {X : Cx} {pins : List (Addr × Obj)} {σ : St} {H : Hp} {s : Shared} {a : Addr} {y : V} {u : Value} {A : Around} {E : Value -> Shared -> Prop}
end
end L2
namespace Att
open PySem PySem.W PySem.Calls PyProof.Rows
theorem ints_of_wellAll {P : Params} {h : Heap} : ∀ (ns : List Int) (vs : List Value), WellAll P h vs (ns.map WData.int) -> IntsAre vs ns := by
 intro ns
 induction ns with
 | nil =>
  intro vs w
  rw [List.map_nil] at w
  cases w
  exact .nil
 | cons n ns ih =>
  intro vs w
  rw [List.map_cons] at w
  cases w with
  | cons a b =>
   cases a
   exact .cons _ _ (ih _ b)
theorem script_of {l : OpenLaw} {n : Nat} (hn : l.most = some n) {P : Params} {h : Heap} {args : List WData} {vals : List Value}
  (hpre : l.row.toRowW.claim.pre args = true) (hwl : WellAll P h vals args) :
  ∃ a vs ns, vals = [Value.ref a] /\ args = [WData.list (ns.map WData.int)] /\ h.get? a = some { cls := .type "list", data := .seq vs.toArray } /\ IntsAre vs ns /\ ns.length <= n := by
 have hsh : WShape.hasAll [] args [.list .int] = true := (pre_splitW hpre).1
 have hc : l.pre.holds [] { args := args } = true := (pre_splitW hpre).2
 obtain ⟨d, r, rfl, h1, h2⟩ := hasAllW_cons hsh
 obtain rfl := hasAllW_nil h2
 obtain ⟨xs, rfl, h3⟩ := hasW_list h1
 obtain ⟨ns, rfl⟩ := items_int h3
 have hlen : ns.length <= n := by
  unfold OpenLaw.pre at hc
  have h4 : (WTm.not (.lt (.lit (.int (n : Int))) (.len (.arg 0)))).holds [] { args := [.list (ns.map .int)] } = true := by
   have h4 := (holds_andW hc).1
   rw [hn] at h4
   exact h4
  have h5 := condW_of h4 (w_not (w_lt w_lit (w_len_list (w_arg rfl))))
  rw [List.length_map] at h5
  refine Nat.le_of_not_lt fun q => ?_
  have q' : (n : Int) < ((ns.length : Nat) : Int) := by omega
  first
   | (rw [decide_eq_true q'] at h5; exact absurd h5 (by decide))
   | (simp at h5; omega)
 cases hwl with
 | cons w1 w2 =>
  cases w2
  cases w1 with
  | list ho hall => exact ⟨_, _, ns, rfl, rfl, ho, ints_of_wellAll ns _ hall, hlen⟩
theorem post_true (l : OpenLaw) (args : List WData) : l.row.toRowW.claim.post args (.bool true) args = true :=
 postW_of (r := l.row.toRowW) (X := (true == true))
  (show WShape.has [] (.bool true) .bool = true by first | rfl | decide | simp [WShape.has, WShape.arms, WShape.armsAll])
  (show (WTm.eq .res (.lit (.bool true))).value [] { args := args, res := some (.bool true), after := args } = some (.bool (true == true)) from w_eq_bool (w_res rfl) w_lit) rfl
theorem attach_call {l : OpenLaw} {n : Nat} {q : Program} {loose : List Str} {XP : (Str -> Option Value) -> Heap -> Prop} {YP : World -> Heap -> Prop} {d : DefRec}
  (hn : l.most = some n) (hdf : d.params.defaults = [])
  (call : ∀ (w : World) (s₀ s₁ : Shared) (mg mb : Str -> Option Value) (fa : Addr) (o : Obj) (pm cd doc : Value) (a : Addr) (vs : List Value) (ns : List Int),
   Ground q loose [] XP w s₀ mg mb s₁.heap -> YP w s₁.heap ->
   s₁.heap.get? fa = some o -> o.data = .func (docDef d.name d.params d.body d.scope pm cd doc) -> s₁.heap.CodeRec cd d.name -> mg d.name = some (.ref fa) ->
   s₁.heap.get? a = some { cls := .type "list", data := .seq vs.toArray } -> IntsAre vs ns -> ns.length <= n -> s₁.gens = #[] ->
   codeAny (model l.prog w) callerA (.call (.ref fa) ⟨[.ref a], []⟩) (fun r s' => r = .ok (.ret (.bool true)) /\ OldK s₁.heap s'.heap /\ s'.os = s₁.os /\ AllBare s'.gens) s₁) :
  WalkO q loose XP YP l.row.toRowW d [] (fun f vs => PySem.call f vs) := by
 intro w s₀ s₁ mg mb G Y fa o pm cd doc dV kV ho hd hcd hD hmg hg args vals as hpre hlay hrd hwl hlo
 obtain rfl : dV = .none := Dflts.none hD hdf
 obtain rfl : kV = .none := Dflts.noKw hD
 obtain ⟨a, vs, ns, rfl, rfl, hobj, hints, hlen⟩ := script_of hn hpre hwl
 refine enter_call (codeAny_mono (call w s₀ s₁ mg mb fa o pm cd doc a vs ns G Y ho (fd_plain hd) hcd hmg hobj hints hlen hg) fun r s' hq => ?_)
 obtain ⟨rfl, h2, h3, h4⟩ := hq
 exact ⟨.inl ⟨.bool true, .bool true, [], rfl, fun _ => rfl, .bool true, post_true l _, fun _ => ⟨List.Pairwise.nil, fun _ hm => (nomatch hm)⟩⟩, h2, h3, h4⟩
section
variable {prog : Program} {w : World} {A : Around} {E : Value -> Shared -> Prop} {s : Shared} {K : Frag}
end
end Att
namespace L2
open PySem PySem.Spec PyProof.Rows
theorem vals_ints : ∀ {vs : List Value} {ns : List Int}, IntsAre vs ns -> Vals (ns.map V.int) vs
 | _, _, .nil => .nil
 | _, _, .cons n t h => .cons ⟨t, rfl⟩ (vals_ints h)
def Only (H : Hp) : Prop := ∀ b, H b = none ∨ ∃ o xs, H b = some (.frz o (.lst xs))
theorem law_call {P : Program} {w : World} {K : PySem.W.Frag} {mg mb : Str -> Option Value} {CX : CXT} {k : Nat} {fa a : Addr} {fd : FuncData} {x : Str} {sp : Sp} {s₁ : Shared} {vs : List Value} {ns : List Int}
  (KX : K.In s₁.heap) (hns : s₁.heap.Ns mainGlobals mg) (hb : s₁.heap.Ns builtinsNs mb) (hbb : ∀ x : Str, x ≠ "__name__" -> mb x = bootBuiltins x) (hlim : s₁.heap.NoLimit) (hg : s₁.gens = #[])
  (ha : s₁.heap.get? a = some { cls := .type "list", data := .seq vs.toArray }) (hi : IntsAre vs ns) (hl : ns.length <= sizeLine) (hr : Room k callerA)
  (F : ∀ base : Heap, K.In base -> base.Ns mainGlobals mg -> FnOk P w K mg base CX k fa fd [x] sp) (hbind : ∀ (s : Shared) (u : Value), BindsTo s fd ⟨[u], []⟩ [(x, u)])
  (hsp : ∀ H : Hp, Only H -> SqL K H a (ns.map V.int) -> sp [.ref a] H (fun v _ => v = .bl true) fun _ _ _ => False)
  (hCX : ∀ H e s', CX [] H s₁ (fun _ _ _ => False) e s' -> False) :
  codeAny (model P w) callerA (.call (.ref fa) ⟨[.ref a], []⟩) (fun r s' => r = .ok (.ret (.bool true)) /\ OldK s₁.heap s'.heap /\ s'.os = s₁.os /\ AllBare s'.gens) s₁ := by
 have rv := vals_ints hi
 have lenV := hi.length
 have core : ∀ H : Hp, Only H -> SqL K H a (ns.map V.int) -> HOk P w H s₁.heap -> (∀ b, H b ≠ none -> b = a) -> (H a ≠ none -> K.lookup a = none) ->
   codeAny (model P w) callerA (.call (.ref fa) ⟨[.ref a], []⟩) (fun r s' => r = .ok (.ret (.bool true)) /\ OldK s₁.heap s'.heap /\ s'.os = s₁.os /\ AllBare s'.gens) s₁ := by
  intro H hO hS hok hA hK
  have base_of : ∀ {b : Addr} {o : Obj}, s₁.heap.get? b = some o -> H b = none -> (hidT s₁.heap H).get? b = some o := fun e n => hidT_get e n
  have noA : ∀ {b : Addr} {o : Obj} {es : Array DictEntry} {ep : Nat}, s₁.heap.get? b = some o -> o.data = .dict es ep -> H b = none := fun {b o es ep} e d => by
   cases q : H b with
   | none => rfl
   | some u =>
    have e' : b = a := hA b (by rw [q]; simp)
    subst e'
    rw [ha] at e; cases e
    have d' : Data.seq vs.toArray _ = Data.dict es ep := d
    cases d'
  have nsK : ∀ {b : Addr} {m : Str -> Option Value}, s₁.heap.Ns b m -> (hidT s₁.heap H).Ns b m := fun {b m} ⟨o, es, ep, e, d, r⟩ => ⟨o, es, ep, base_of e (noA e d), d, r⟩
  have hKb : K.In (hidT s₁.heap H) := fun b o e => base_of (KX b o e) (by
   cases q : H b with
   | none => rfl
   | some u =>
    have e' : b = a := hA b (by rw [q]; simp)
    subst e'
    rw [hK (by rw [q]; simp)] at e; cases e)
  have hM : Mod K mg (hidT s₁.heap H) := ⟨hKb, nsK hns, ⟨mb, nsK hb, hbb⟩, let ⟨mc, h1, h2⟩ := hlim; ⟨mc, nsK h1, h2⟩⟩
  have e0 : Env0 P w K mg (hidT s₁.heap H) callerA [] s₁ H := ⟨rfl, hM, fun b o e => of_hidT e, Nat.le_of_eq (hidT_size _ _), trivial, fun b hb => absurd (show b ∈ ([] : List Addr) from hb) (by simp), hok, .of_eq hg⟩
  refine codeAny_mono ((F _ hKb (nsK hns)).run callerA [] s₁ H ⟨[.ref a], []⟩ [.ref a] [.ref a] _ _ hr e0 (hbind s₁ (.ref a)) (.cons rfl .nil) (hsp H hO hS)) fun r s' h => ?_
  cases r with
  | error e => exact (hCX H e s' h).elim
  | ok fl =>
   cases fl with
   | next => exact False.elim h
   | brk => exact False.elim h
   | cont => exact False.elim h
   | ret u =>
    obtain ⟨v, H', os, bare, un, hok', r', q⟩ := h
    have q' : v = .bl true := q
    subst q'
    obtain rfl : u = Value.bool true := r'
    refine ⟨rfl, OldK.of_keep fun b o e => ?_, os, bare⟩
    cases q : H b with
    | none => exact un.keep b o e q (by intro z; exact absurd (show b ∈ ([] : List Addr) from z) (by simp)) (by simp)
    | some u =>
     rcases hO b with z | ⟨ob, xs, z⟩
     ·rw [q] at z; cases z
     ·have z2 := un.frzs b ob _ z
      obtain ⟨e1, _⟩ := hok b _ z
      obtain ⟨e2, _⟩ := hok' b _ z2
      rw [e] at e1; cases e1
      exact e2
 cases hk : K.lookup a with
 | some o =>
  have e := KX a o hk
  rw [ha] at e
  cases e
  refine core (fun _ => none) (fun _ => .inl rfl) (.inr ⟨_, vs.toArray, _, hk, rfl, rfl, rfl, by rw [List.size_toArray, lenV]; exact hl, by simpa using rv⟩) (fun b u z => by have z' : (none : Option HO) = some u := z; cases z') (fun b z => absurd rfl z) fun z => absurd rfl z
 | none =>
  refine core (fun b => if b = a then some (.frz { cls := .type "list", data := .seq vs.toArray } (.lst (ns.map V.int))) else none) (fun b => ?_) (.inl (.inr ⟨{ cls := .type "list", data := .seq vs.toArray }, if_pos rfl⟩)) (fun b u z => ?_) (fun b z => ?_) fun _ => hk
  ·by_cases hb : b = a
   ·exact .inr ⟨_, _, if_pos hb⟩
   ·exact .inl (if_neg hb)
  ·by_cases hb : b = a
   ·have z' := (if_pos hb).symm.trans z
    cases z'
    subst hb
    exact ⟨ha, by rw [List.length_map]; exact hl, vs, _, rv, ha⟩
   ·have z' := (if_neg hb).symm.trans z
    cases z'
  ·by_cases hb : b = a
   ·exact hb
   ·exact absurd (if_neg hb) z
end L2
namespace L2
open PySem PySem.Spec PyProof.Rows
theorem walk_of {l : PySem.W.OpenLaw} {n k : Nat} {q : Program} {loose : List Str} {XP : (Str -> Option Value) -> Heap -> Prop} {YP : World -> Heap -> Prop} {d : DefRec} {K : Params -> PySem.W.Frag} {CX : World -> CXT} {sp : World -> Sp} {x : Str}
  (hn : l.most = some n) (hn2 : n <= sizeLine) (hdf : d.params.defaults = []) (hr : Room k callerA)
  (hY : ∀ (w : World) (h : Heap), YP w h -> (K w.params).In h)
  (F : ∀ (w : World) (mg : Str -> Option Value) (fa : Addr) (h : Heap), (K w.params).In h -> h.Ns mainGlobals mg -> mg d.name = some (.ref fa) ->
   ∃ fd : FuncData, (∀ (s : Shared) (u : Value), BindsTo s fd ⟨[u], []⟩ [(x, u)]) /\
    ∀ base : Heap, (K w.params).In base -> base.Ns mainGlobals mg -> FnOk l.prog w (K w.params) mg base (CX w) k fa fd [x] (sp w))
  (hsp : ∀ (w : World) (H : Hp) (a : Addr) (ns : List Int), ns.length <= n -> Only H -> SqL (K w.params) H a (ns.map V.int) -> sp w [.ref a] H (fun v _ => v = .bl true) fun _ _ _ => False)
  (hCX : ∀ (w : World) (H : Hp) (s : Shared) (e : Value) (s' : Shared), CX w [] H s (fun _ _ _ => False) e s' -> False) :
  PySem.W.WalkO q loose XP YP l.row.toRowW d [] (fun f vs => PySem.call f vs) := by
 refine Att.attach_call hn hdf fun w s₀ s₁ mg mb fa o pm cd doc a vs ns G Y ho hd hcd hmg hobj hints hlen hg => ?_
 have KX := hY w _ Y
 obtain ⟨fd, hb, hF⟩ := F w mg fa _ KX G.T.g hmg
 exact law_call KX G.T.g G.T.b G.T.builtins G.T.nolimit hg hobj hints (Nat.le_trans hlen hn2) hr hF hb (fun H hO hS => hsp w H a ns hlen hO hS) fun H e s' => hCX w H s₁ e s'
end L2
/- THE LAST THEOREM (shape; LID, My.* are yours):
  My.Adr: a structure of the addresses that your layer names (classes, functions); My.Txt K t: a structure (Prop) of the equations over K;
  My.txt_mk : {K} {implicit addresses ..} (e1 : nsIn K mainGlobals "law" = some (some (.ref f))) (e2 : K.lookup f = some ⟨oc, od, .func (fnOf "law" "law" params body scope dV kV doc pm an cdv ct), sl⟩) (e3 : codeIn K cdv "law" = true) .. : ∃ t, My.Txt K t
set_option maxRecDepth 100000 in
set_option maxHeartbeats 0 in
theorem PySem.Challenge.cw_LID_holds : PySem.Challenge.rw_LID.Holds := by
 w_on; o_law; k_head; (case hw => w_witness2)
 k_fill
 refine L2.walk_of (l := PySem.Challenge.rw_LID) (n := 63) (k := 40) (x := "script") (CX := fun w => ..) (sp := fun _ => My.sp_law) rfl (by decide) rfl ⟨rfl, by decide, by decide⟩ (fun w h Y => PySem.W.kIn_of Y) ?F ?S ?C
 case F =>
  intro w mg fa h KX G hmg
  have T : ∃ t, My.Txt (L2.KOf KX) t := by
   dsimp only [L2.KOf]                          -- K must stand as «<heap const> w.params» for k_is
   refine' My.txt_mk ?e1 ?e2 ?e3 ..
   (case e1 => PySem.W.k_is)                    -- in the order: a name -> its address -> its object -> its parts
   (case e2 => PySem.W.k_is)
   ..
  obtain ⟨t, T⟩ := T
  have e0 := hmg.symm.trans (PySem.W.mg_of KX G T.law)
  cases e0                                       -- fa is the law's own address
  exact ⟨_, fun s u => .of_eq rfl, fun base kb nb => My.law_fn T kb nb⟩     -- if «.of_eq rfl» comes too early: refine' ⟨_, ?b, fun base kb nb => My.law_fn T kb nb⟩; exact fun s u => .of_eq rfl
 case S => exact fun w H a ns hl hO hS => ..
 case C => exact ..
(the tactic k_is has no namespace: write k_is) -/
namespace L2
open PySem PySem.Spec PyProof.Rows
def inClass (s : Stmt) (j : Nat) : Stmt := match s with
 | .ClassDef _ _ _ body _ _ _ _ _ _ _ => body.getD j (.Pass ⟨0, 0, 0, 0⟩)
 | _ => .Pass ⟨0, 0, 0, 0⟩
def defArgs (s : Stmt) : Arguments := match s with
 | .FunctionDef _ a _ _ _ _ _ _ _ _ => a
 | _ => { posonlyargs := [], args := [], vararg := none, kwonlyargs := [], kw_defaults := [], kwarg := none, defaults := [] }
def defBody (s : Stmt) : List Stmt := match s with
 | .FunctionDef _ _ b _ _ _ _ _ _ _ => b
 | _ => []
def defScope (s : Stmt) : Scope := match s with
 | .FunctionDef _ _ _ _ _ _ sc _ _ _ => sc
 | _ => { kind := .function, names := [], isGenerator := false, isCoroutine := false }
abbrev CX0 : CXT := fun _ _ _ _ _ _ => False
abbrev E0 : XK := fun _ _ _ => False
theorem pass0 {X : Cx} : Passes CX0 X E0 := fun _ _ _ _ _ _ _ h => h.elim
structure Fun (K : PySem.W.Frag) (x qual : Str) (st : Stmt) (f : Addr) (fd : FuncData) : Prop where
 ex : ∃ (oc : Value) (od : Option Addr) (kV doc pm : Value) (an : Option Addr) (cdv ct : Value) (osl : Array (Option Value)),
  fd = PySem.W.fnOf x qual (defArgs st) (defBody st) (defScope st) .none kV doc pm an cdv ct /\ K.lookup f = some ⟨oc, od, .func fd, osl⟩ /\ PySem.W.codeIn K cdv qual = true
 kp : PySem.W.keepIn K (.ref f) = true
section
variable {P : Program} {w : World} {K : PySem.W.Frag} {mg : Str -> Option Value} {base : Heap}
theorem Fun.ok {x qual : Str} {st : Stmt} {f : Addr} {fd : FuncData} {N ps : List Str} {k : Nat} {sp : Sp} (F : Fun K x qual st f fd) (S : FnScope N ps (defScope st)) (len : ∀ vs H Q E, sp vs H Q E -> vs.length = ps.length)
  (hbody : ∀ (cdv : Value) (A : Around) (outer : List Env) (s : Shared) (H : Hp) (vs : List V) (Q : VK) (E : XK), Room k (A.deeper (envOfC qual (defScope st) s.heap.objs.size f cdv)) -> sp vs H Q E ->
   ∃ t, PSs (cxOf CX0 P w K mg base N qual (defScope st) f cdv A outer s H E).nox (defBody st) t /\ t { nx := fun _ H' => Q .non H', rt := Q } (start N vs) H) : FnOk P w K mg base CX0 (k + 1) f fd ps sp := by
 obtain ⟨oc, od, kV, doc, pm, an, cdv, ct, osl, rfl, lk, hcd⟩ := F.ex
 refine fn_of lk hcd S len fun A outer s H vs Q E hr hsp => ?_
 obtain ⟨t, h, q⟩ := hbody cdv A outer s H vs Q E hr hsp
 exact ⟨t, h.nox, q⟩
theorem Fun.binds {x qual : Str} {st : Stmt} {f : Addr} {fd : FuncData} {ps : List Str} (F : Fun K x qual st f fd)
  (h : ∀ (kV doc pm : Value) (an : Option Addr) (cdv ct : Value) (us : List Value), us.length = ps.length -> bindArgs (PySem.W.fnOf x qual (defArgs st) (defBody st) (defScope st) .none kV doc pm an cdv ct) ⟨us, []⟩ = pure (ps.zip us)) : Binds K fd ps [] := by
 obtain ⟨oc, od, kV, doc, pm, an, cdv, ct, osl, rfl, lk, hcd⟩ := F.ex
 exact .all (h kV doc pm an cdv ct)
theorem fun_mk {x qual : Str} {st : Stmt} {f : Addr} {oc : Value} {od an : Option Addr} {osl : Array (Option Value)} {kV doc pm cdv ct : Value} (l : K.lookup f = some ⟨oc, od, .func (PySem.W.fnOf x qual (defArgs st) (defBody st) (defScope st) .none kV doc pm an cdv ct), osl⟩)
  (c : PySem.W.codeIn K cdv qual = true) (k : PySem.W.keepIn K (.ref f) = true) : Fun K x qual st f (PySem.W.fnOf x qual (defArgs st) (defBody st) (defScope st) .none kV doc pm an cdv ct) := ⟨⟨oc, od, kV, doc, pm, an, cdv, ct, osl, rfl, l, c⟩, k⟩
end
theorem hu_of {A : Around} {k : Nat} (hr : Room k A) : A.units + 1 < cLine := Nat.lt_of_le_of_lt (Nat.add_le_add_left (by decide : 1 <= 64) _) hr.units
section
variable {X : Cx}
theorem pv (i : Nat) {x : Str} {pos : Pos} (hN : X.N[i]? = some x := by rfl) (hv : Vis X.env.scope x := by first | exact Or.inl rfl | exact Or.inr (Or.inl rfl) | exact Or.inr (Or.inr rfl)) (hd : (x == ("__debug__" : Str)) = false := by decide)
  (hcd : (x == ("__classdict__" : Str)) = false := by decide) : PE X (.Name x pos) (tVar i) := pe_var hN hv hd hcd
end
theorem iteF {A B : Prop} (h : B) : if false = true then A else B := by
 rw [if_neg Bool.false_ne_true]
 exact h
theorem iteT {A B : Prop} (h : A) : if true = true then A else B := by
 rw [if_pos rfl]
 exact h
theorem ite2 {c A B : Prop} [Decidable c] (h1 : c -> A) (h2 : ¬ c -> B) : if c then A else B := by
 by_cases h : c
 ·rw [if_pos h]
  exact h1 h
 ·rw [if_neg h]
  exact h2 h
theorem iteNS {c A B : Prop} [Decidable c] (hc : c) (h : B) : if (!decide c) = true then A else B := by
 rw [decide_eq_true hc]
 exact iteF h
def Same (H H' : Hp) : Prop := ∀ b o, H b = some o -> H' b = some o
theorem Same.refl (H : Hp) : Same H H := fun _ _ h => h
theorem Same.trans {H H1 H2 : Hp} (a : Same H H1) (b : Same H1 H2) : Same H H2 := fun c o h => b c o (a c o h)
theorem Same.free {H H' : Hp} (e : Same H H') {l : Addr} (h : H' l = Option.none) : H l = Option.none := by
 cases q : H l with
 | none => rfl
 | some o =>
  rw [e l o q] at h
  cases h
theorem Same.seq {K : PySem.W.Frag} {H H' : Hp} {a : Addr} {xs : List V} (e : Same H H') (h : SqL K H a xs) : SqL K H' a xs := by
 rcases h with (h | ⟨o, h⟩) | h
 ·exact .inl (.inl (e _ _ h))
 ·exact .inl (.inr ⟨o, e _ _ h⟩)
 ·exact .inr h
section
variable {κ : Type} [DecidableEq κ]
theorem valV_in {kvs : List (κ × V)} {k : κ} {v : V} (h : valV kvs k = some v) : k ∈ kvs.map (·.1) := by
 have q : (kvs.any fun kv => decide (kv.1 = k)) = true := by
  rw [valV_any, h]
  all_goals rfl
 obtain ⟨p, hp, e⟩ := List.any_eq_true.mp q
 exact List.mem_map.mpr ⟨p, hp, of_decide_eq_true e⟩
end
end L2
set_option Elab.async false
set_option linter.all false
set_option maxRecDepth 100000
namespace L2
open PySem PySem.Spec PyProof.Rows
def closOf (env : Env) : List (Str × NameKind) -> List (Str × Addr) -> List (Str × Addr)
 | [], cs => cs
 | (n, k) :: r, cs => closOf env r (if k == .free then (n, (env.cells.lookup n).getD 0) :: cs else cs)
theorem closureFor_go {env : Env} (f : Str × NameKind -> List (Str × Addr) -> Sem (ForInStep (List (Str × Addr))))
  (hf : ∀ n k cs, f (n, k) cs = if (k == .free) = true then (do let a <- cellOf env n; pure (.yield ((n, a) :: cs))) else pure (.yield cs)) :
  ∀ (names : List (Str × NameKind)) (cs : List (Str × Addr)), (∀ x ∈ names, x.2 = .free -> ∃ c, env.cells.lookup x.1 = some c) -> forIn names cs f = (pure (closOf env names cs) : Sem _)
 | [], cs, _ => by rw [List.forIn_nil]; rfl
 | (n, k) :: r, cs, h => by
  rw [List.forIn_cons, hf]
  have hr : ∀ x ∈ r, x.2 = .free -> ∃ c, env.cells.lookup x.1 = some c := fun x hx => h x (List.mem_cons_of_mem _ hx)
  unfold closOf
  by_cases hk : (k == NameKind.free) = true
  ·obtain ⟨c, hc⟩ := h (n, k) List.mem_cons_self (by simpa using hk)
   have hc : env.cells.lookup n = some c := hc
   rw [if_pos hk, if_pos hk]
   have e : cellOf env n = pure c := by unfold cellOf; rw [hc]
   rw [e]
   simp only [pure_bind]
   rw [closureFor_go f hf r _ hr, hc]
   rfl
  ·rw [if_neg hk, if_neg hk]
   simp only [pure_bind]
   exact closureFor_go f hf r _ hr
theorem closureFor_eq {scope : Scope} {env : Env} (h : ∀ x ∈ scope.names, x.2 = .free -> ∃ c, env.cells.lookup x.1 = some c) : closureFor scope env = pure (closOf env scope.names []) := by
 simp only [closureFor]
 rw [closureFor_go (env := env) _ (fun n k cs => by by_cases hk : (k == NameKind.free) = true <;> simp [hk]) scope.names [] h]
 simp only [pure_bind]
theorem mem_closOf {env : Env} : ∀ {names : List (Str × NameKind)} {cs : List (Str × Addr)} {x : Str} {c : Addr}, (x, c) ∈ closOf env names cs -> (x, c) ∈ cs ∨ ((x, NameKind.free) ∈ names /\ c = (env.cells.lookup x).getD 0)
 | [], cs, x, c, h => .inl h
 | (n, k) :: r, cs, x, c, h => by
  unfold closOf at h
  rcases mem_closOf h with h | ⟨h, e⟩
  ·by_cases hk : (k == NameKind.free) = true
   ·rw [if_pos hk] at h
    rcases List.mem_cons.mp h with q | q
    ·cases q
     have : k = .free := by simpa using hk
     subst this
     exact .inr ⟨List.mem_cons_self, rfl⟩
    ·exact .inl q
   ·rw [if_neg hk] at h
    exact .inl h
  ·exact .inr ⟨List.mem_cons_of_mem _ h, e⟩
theorem closOf_has {env : Env} : ∀ {names : List (Str × NameKind)} {cs : List (Str × Addr)} {x : Str}, (x, NameKind.free) ∈ names ∨ (∃ c, (x, c) ∈ cs) -> ∃ c, (x, c) ∈ closOf env names cs
 | [], cs, x, h => by
  rcases h with h | h
  ·cases h
  ·exact h
 | (n, k) :: r, cs, x, h => by
  unfold closOf
  refine closOf_has ?_
  rcases h with h | ⟨c, h⟩
  ·rcases List.mem_cons.mp h with e | h
   ·cases e
    exact .inr ⟨(env.cells.lookup n).getD 0, by rw [if_pos (by decide)]; exact List.mem_cons_self⟩
   ·exact .inl h
  ·refine .inr ⟨c, ?_⟩
   split
   ·exact List.mem_cons_of_mem _ h
   ·exact h
theorem cellsFrom_app : ∀ (names : List (Str × NameKind)) (n : Nat) (acc cl : List (Str × Addr)), cellsFrom n names (acc ++ cl) = cellsFrom n names acc ++ cl
 | [], _, _, _ => rfl
 | (x, k) :: r, n, acc, cl => by
  unfold cellsFrom
  split
  ·exact cellsFrom_app r (n + 1) ((x, n) :: acc) cl
  ·exact cellsFrom_app r n acc cl
theorem mem_cellsFrom : ∀ {names : List (Str × NameKind)} {n : Nat} {acc : List (Str × Addr)} {x : Str} {c : Addr}, (x, c) ∈ cellsFrom n names acc -> (x, c) ∈ acc ∨ (x, NameKind.cell) ∈ names
 | [], _, _, _, _, h => .inl h
 | (y, k) :: r, n, acc, x, c, h => by
  unfold cellsFrom at h
  by_cases hk : (k == NameKind.cell) = true
  ·rw [if_pos hk] at h
   rcases mem_cellsFrom h with h | h
   ·rcases List.mem_cons.mp h with e | h
    ·cases e
     have : k = .cell := by simpa using hk
     subst this
     exact .inr List.mem_cons_self
    ·exact .inl h
   ·exact .inr (List.mem_cons_of_mem _ h)
  ·rw [if_neg hk] at h
   rcases mem_cellsFrom h with h | h
   ·exact .inl h
   ·exact .inr (List.mem_cons_of_mem _ h)
theorem lookup_of_mem {α : Type} : ∀ {l : List (Str × α)} {x : Str} {c : α}, (x, c) ∈ l -> ∃ c', l.lookup x = some c'
 | (k, v) :: r, x, c, h => by
  rw [List.lookup_cons]
  cases hb : x == k with
  | true => exact ⟨v, rfl⟩
  | false =>
   rcases List.mem_cons.mp h with e | h
   ·cases e
    simp at hb
   ·exact lookup_of_mem h
def cpEnv (scope : Scope) (C : Addr) (env : Env) : Env :=
 { scope := relabel scope env, locals := C, globals := env.globals, cells := cellsFrom (C + 1) scope.names (closOf env scope.names []), qual := env.qual, func := none, code := env.code, frame := env.frame, builtins := env.builtins }
theorem newEnv_comp {M : Model} {A : Around} {E : Value -> Shared -> Prop} {s : Shared} {scope : Scope} {cl : List (Str × Addr)} {env : Env} {Q : Env -> Shared -> Prop}
  (h : Q { scope := scope, locals := s.heap.objs.size, globals := env.globals, cells := cellsFrom (s.heap.objs.size + 1) scope.names cl, qual := env.qual, func := none, code := env.code, frame := env.frame, builtins := env.builtins }
   { s with heap := pushCells (s.heap.push { cls := .type "dict", data := .dict #[] }) scope.names }) :
  wpAny M A (newFunctionEnv scope env.globals cl [] env.qual none .none (some env)) Q E s := by
 simp only [newFunctionEnv, Option.isSome_some, if_true]
 refine wpAny_bind (wpAny_alloc ?_)
 refine wpAny_bind (wpAny_layCells _ (fun name kind cells => by cases hkc : kind == NameKind.cell <;> simp [hkc]) _ _ _ _ ?_)
 rw [show ({ s with heap := s.heap.push { cls := .type "dict", data := .dict #[] } } : Shared).heap.objs.size = s.heap.objs.size + 1 from Heap.size_push ..]
 rw [List.forIn_nil]
 exact wpAny_bind (wpAny_pure (wpAny_pure h))
def cpCheck (PN : List Str) (ps : Scope) (N : List Str) (own : Nat) (fr : List Nat) (scope : Scope) : Bool :=
 decide (scope.kind = .function) && decide N.Nodup && decide (own + fr.length = N.length)
 && (scope.names.all fun y => decide (scope.names.lookup y.1 = some y.2))
 && (scope.names.all fun y => if y.2 = .free then decide (ps.names.lookup y.1 = some .cell) || decide (ps.names.lookup y.1 = some .free) else true)
 && ((fr.map fun j => PN[j]?) == (N.drop own).map some)
 && ((N.drop own).all fun x => decide (scope.names.lookup x = some .free))
structure CpOk (PN : List Str) (ps : Scope) (N : List Str) (own : Nat) (fr : List Nat) (scope : Scope) : Prop where
 kind : scope.kind = .function
 nd : N.Nodup
 len : own + fr.length = N.length
 look : ∀ y ∈ scope.names, scope.names.lookup y.1 = some y.2
 par : ∀ y ∈ scope.names, y.2 = .free -> ps.names.lookup y.1 = some .cell ∨ ps.names.lookup y.1 = some .free
 frs : (fr.map fun j => PN[j]?) = (N.drop own).map some
 frk : ∀ x ∈ N.drop own, scope.names.lookup x = some .free
theorem CpOk.of {PN : List Str} {ps : Scope} {N : List Str} {own : Nat} {fr : List Nat} {scope : Scope} (h : cpCheck PN ps N own fr scope = true) : CpOk PN ps N own fr scope := by
 unfold cpCheck at h
 simp only [Bool.and_eq_true, decide_eq_true_eq, List.all_eq_true, beq_iff_eq] at h
 obtain ⟨⟨⟨⟨⟨⟨h1, h2⟩, h3⟩, h4⟩, h5⟩, h6⟩, h7⟩ := h
 refine ⟨h1, h2, h3, h4, fun y hy e => ?_, h6, h7⟩
 have q := h5 y hy
 rw [if_pos e] at q
 simpa using q
def cpStart (own : Nat) (fr : List Nat) (σ : St) : St := List.replicate own none ++ fr.map fun j => (σ[j]?).join
def cxComp (X : Cx) (N : List Str) (scope : Scope) (fp : List Addr) (s : Shared) (H : Hp) : Cx where
 prog := X.prog
 w := X.w
 K := X.K
 mg := X.mg
 base := X.base
 A := X.A
 N := N
 s₀ := s
 H₀ := H
 env := cpEnv scope s.heap.objs.size X.env
 outer := X.stack
 stack := X.stack
 ex := fp
 fn := fun x => decide (scope.names.lookup x = some .local) || decide (scope.names.lookup x = some .cell)
 calm := X.calm
 pn := []
 xe := fun _ _ => False
theorem relabel_look {ps : Scope} {env : Env} (he : env.scope = ps) {x : Str} : ∀ {names : List (Str × NameKind)} {k : NameKind}, names.lookup x = some k ->
  (names.map fun (n, k) => if (k == NameKind.free && env.scope.kind == .function && env.kindOf n == some .cell) then (n, NameKind.cell) else (n, k)).lookup x =
   some (if (k == NameKind.free && env.scope.kind == .function && env.kindOf x == some .cell) then .cell else k)
 | (n, k') :: r, k, h => by
  rw [List.lookup_cons] at h
  rw [List.map_cons]
  cases hb : x == n with
  | true =>
   rw [hb] at h
   cases h
   have e : x = n := by simpa using hb
   subst e
   dsimp only
   split <;> simp [List.lookup_cons]
  | false =>
   rw [hb] at h
   have ih := relabel_look he (env := env) h
   dsimp only
   split <;> (rw [List.lookup_cons, hb]; exact ih)
theorem relabel_of {env : Env} {x : Str} : ∀ {names : List (Str × NameKind)} {k : NameKind}, (names.map fun (n, k) => if (k == NameKind.free && env.scope.kind == .function && env.kindOf n == some .cell) then (n, NameKind.cell) else (n, k)).lookup x = some k -> ∃ k', names.lookup x = some k' /\ (k' = k ∨ (k' = .free /\ k = .cell))
 | (n, k') :: r, k, h => by
  rw [List.map_cons] at h
  rw [List.lookup_cons]
  dsimp only at h
  cases hb : x == n with
  | true =>
   refine ⟨k', rfl, ?_⟩
   by_cases hc : (k' == NameKind.free && env.scope.kind == .function && env.kindOf n == some .cell) = true
   ·rw [if_pos hc, List.lookup_cons, hb] at h
    cases h
    simp only [Bool.and_eq_true, beq_iff_eq] at hc
    exact .inr ⟨hc.1.1, rfl⟩
   ·rw [if_neg hc, List.lookup_cons, hb] at h
    cases h
    exact .inl rfl
  | false =>
   have h' : (r.map fun (n, k) => if (k == NameKind.free && env.scope.kind == .function && env.kindOf n == some .cell) then (n, NameKind.cell) else (n, k)).lookup x = some k := by
    split at h <;> (rw [List.lookup_cons, hb] at h; exact h)
   exact relabel_of h'
theorem of_lookup_app {α : Type} {x : Str} {c : α} : ∀ {l r : List (Str × α)}, (l ++ r).lookup x = some c -> (x, c) ∈ l ∨ (x, c) ∈ r := fun h => List.mem_append.mp (PySem.mem_of_lookup h)
section
variable {X : Cx} {pins : List (Addr × Obj)} {σ : St} {H : Hp} {s : Shared} {N : List Str} {own : Nat} {fr : List Nat} {scope : Scope} {fp : List Addr}
theorem closCell (I : Inv X pins σ H s) (S : CpOk X.N X.env.scope N own fr scope) {x : Str} {c : Addr} (h : (x, c) ∈ closOf X.env scope.names []) : X.env.cells.lookup x = some c /\ (x, NameKind.free) ∈ scope.names := by
 rcases mem_closOf h with h | ⟨h, e⟩
 ·cases h
 ·obtain ⟨c', hc⟩ := I.ok.has x (S.par _ h rfl)
  refine ⟨?_, h⟩
  rw [e, hc]
  rfl
theorem Inv.block (I : Inv X pins σ H s) (S : CpOk X.N X.env.scope N own fr scope) (hfp : ∀ b ∈ fp, FpOk X pins H b) (hfo : ∀ b ∈ fp, ∃ o, s.heap.get? b = some o) :
  Inv (cxComp X N scope fp s H) [] (cpStart own fr σ) H { s with heap := pushCells (s.heap.push { cls := .type "dict", data := .dict #[] }) scope.names } := by
 have kept : ∀ b o, s.heap.get? b = some o -> (pushCells (s.heap.push { cls := .type "dict", data := .dict #[] }) scope.names).get? b = some o := fun b o e => pushCells_keeps _ _ b o (Heap.get?_push_of_some _ e)
 have cok := cellsFrom_ok scope.names (s.heap.push { cls := .type "dict", data := .dict #[] }) (s.heap.objs.size + 1) [] ⟨fun _ _ hm => (nomatch hm), List.Pairwise.nil⟩ (by rw [Heap.size_push]; exact Nat.le_refl _)
 rw [Heap.size_push] at cok
 have ecs : cellsFrom (s.heap.objs.size + 1) scope.names (closOf X.env scope.names []) = cellsFrom (s.heap.objs.size + 1) scope.names [] ++ closOf X.env scope.names [] := cellsFrom_app _ _ [] _
 have lookC : ∀ {x c}, (cellsFrom (s.heap.objs.size + 1) scope.names (closOf X.env scope.names [])).lookup x = some c -> ((x, c) ∈ cellsFrom (s.heap.objs.size + 1) scope.names [] /\ (x, NameKind.cell) ∈ scope.names /\ s.heap.objs.size + 1 <= c) ∨ (X.env.cells.lookup x = some c /\ (x, NameKind.free) ∈ scope.names) := fun {x c} h => by
  rw [ecs] at h
  rcases of_lookup_app h with h | h
  ·refine .inl ⟨h, ?_, (cok.empty _ _ h).2⟩
   rcases mem_cellsFrom h with q | q
   ·cases q
   ·exact q
  ·exact .inr (closCell I S h)
 have oldC : ∀ {x c}, X.env.cells.lookup x = some c -> c < s.heap.objs.size := fun {x c} h => by
  obtain ⟨v, hv⟩ := I.cell x c h
  exact hv.lt
 have hb : ∀ b ∈ fp, b < s.heap.objs.size := fun b hb => let ⟨o, e⟩ := hfo b hb; Heap.lt_size e
 refine ⟨⟨I.ok.mod, S.kind, I.ok.glob, I.ok.blt, Nat.le_refl _, fun x y c h1 h2 => ?_, fun x hx => ?_, fun x c hf h => ?_, I.ok.hd, I.ok.frames, .inl rfl, fun b hb' => ⟨Nat.ne_of_lt (hb b hb'), fun x c h => ?_⟩, I.bs, ?_, fun b o e hb' => ?_, fun b hb' hs => ?_, I.stack, I.stkFree⟩,
  rfl, I.bare, Un.kept kept, ⟨_, (Heap.Ns.new s.heap (.type "dict")).keeps (pushCells_keeps _ _), fun i x v h1 h2 h3 => ?_⟩, fun x c h => ?_, I.hok.fresh (Nat.le_refl _), fun x c h => ?_, fun p hp => absurd (show p ∈ ([] : List (Addr × Obj)) from hp) (by simp), I.hok.kept kept, ?_⟩
 ·-- inj
  rcases lookC h1 with ⟨m1, k1, l1⟩ | ⟨m1, k1⟩ <;> rcases lookC h2 with ⟨m2, k2, l2⟩ | ⟨m2, k2⟩
  ·exact name_of_addr cok.apart m1 m2
  ·exact absurd (oldC m2) (Nat.not_lt.mpr (Nat.le_of_succ_le l1))
  ·exact absurd (oldC m1) (Nat.not_lt.mpr (Nat.le_of_succ_le l2))
  ·exact I.ok.inj x y c m1 m2
 ·-- has
  have key : (x, NameKind.cell) ∈ scope.names ∨ (x, NameKind.free) ∈ scope.names := by
   rcases hx with hx | hx
   ·obtain ⟨k', e, q⟩ := relabel_of (env := X.env) (show _ = some NameKind.cell from hx)
    have m := PySem.mem_of_lookup e
    rcases q with q | ⟨q, _⟩
    ·exact .inl (q ▸ m)
    ·exact .inr (q ▸ m)
   ·obtain ⟨k', e, q⟩ := relabel_of (env := X.env) (show _ = some NameKind.free from hx)
    have m := PySem.mem_of_lookup e
    rcases q with q | ⟨_, q⟩
    ·exact .inr (q ▸ m)
    ·cases q
  show ∃ c, (cellsFrom (s.heap.objs.size + 1) scope.names (closOf X.env scope.names [])).lookup x = some c
  have : ((cellsFrom (s.heap.objs.size + 1) scope.names (closOf X.env scope.names [])).lookup x).isSome = true := by
   refine PySem.W.cellsFrom_some _ _ _ ?_
   rcases key with q | q
   ·exact .inl (S.look _ q)
   ·obtain ⟨c, m⟩ := closOf_has (env := X.env) (names := scope.names) (cs := []) (x := x) (.inl q)
    obtain ⟨c', e⟩ := lookup_of_mem m
    exact .inr (by rw [e]; rfl)
  exact Option.isSome_iff_exists.mp this
 ·-- cab
  rcases lookC h with ⟨_, _, l⟩ | ⟨_, k⟩
  ·exact Nat.le_of_succ_le l
  ·have e := S.look _ k
   have hf : (decide (scope.names.lookup x = some .local) || decide (scope.names.lookup x = some .cell)) = true := hf
   rw [show scope.names.lookup x = some .free from e] at hf
   exact absurd hf (by decide)
 ·rcases lookC h with ⟨_, _, l⟩ | ⟨q, _⟩
  ·exact Nat.ne_of_gt (Nat.lt_of_lt_of_le (hb b hb') (Nat.le_of_succ_le l))
  ·exact (hfp b hb').2.2.2.2.1 x c q
 ·exact Nat.le_trans I.ok.bsz I.sz
 ·rcases (hfp b hb').2.2.2.1 with q | q
  ·exact I.ok.noex b o e q
  ·exact absurd (Nat.lt_of_lt_of_le (Heap.lt_size e) I.ok.bsz) (by omega)
 ·rcases List.mem_cons.mp (I.stkSub b hs) with q | q
  ·exact (hfp b hb').2.1 q
  ·exact (hfp b hb').2.2.1 q
 ·-- names
  have hi : own <= i := by
   refine Nat.le_of_not_lt fun hlt => ?_
   unfold cpStart at h2
   rw [List.getElem?_append_left (by rw [List.length_replicate]; exact hlt), List.getElem?_replicate, if_pos hlt] at h2
   cases h2
  have h2' : (fr.map fun j => (σ[j]?).join)[i - own]? = some (some v) := by
   unfold cpStart at h2
   rw [List.getElem?_append_right (by rw [List.length_replicate]; exact hi), List.length_replicate] at h2
   exact h2
  have h1 : N[i]? = some x := h1
  have hx : (N.drop own)[i - own]? = some x := by rw [List.getElem?_drop, show own + (i - own) = i by omega]; exact h1
  rw [List.getElem?_map] at h2'
  cases ej : fr[i - own]? with
  | none => rw [ej] at h2'; cases h2'
  | some j =>
   rw [ej] at h2'
   have h2' : (σ[j]?).join = some v := Option.some.inj h2'
   have hσ : σ[j]? = some (some v) := by
    cases q : σ[j]? with
    | none => rw [q] at h2'; cases h2'
    | some o => rw [q] at h2'; exact congrArg some h2'
   have hN : X.N[j]? = some x := by
    have q := congrArg (fun l => l[i - own]?) S.frs
    simp only [List.getElem?_map, ej, hx, Option.map_some] at q
    exact Option.some.inj q
   have kf := S.frk x (List.mem_of_getElem? hx)
   have mf := PySem.mem_of_lookup kf
   obtain ⟨m, hm, hv⟩ := I.loc
   have pk := S.par _ mf rfl
   obtain ⟨u, ru, lk⟩ := hv j x v hN hσ (pk.elim (fun q => .inr (.inl q)) fun q => .inr (.inr q))
   refine ⟨u, ru, ?_⟩
   have pk' : X.env.kindOf x = some .cell ∨ X.env.kindOf x = some .free := pk
   rcases lk with ⟨k, _⟩ | ⟨_, c, hc, hcell⟩
   ·rw [k] at pk'
    rcases pk' with q | q <;> cases q
   ·obtain ⟨c', m1⟩ := closOf_has (env := X.env) (names := scope.names) (cs := []) (x := x) (.inl mf)
    have e1 := (closCell I S m1).1
    rw [hc] at e1
    cases e1
    refine .inr ⟨?_, c, ?_, hcell.keeps kept⟩
    ·have q := relabel_look (env := X.env) rfl kf
     show (relabel scope X.env).names.lookup x = some .cell ∨ (relabel scope X.env).names.lookup x = some .free
     unfold relabel
     rw [q]
     split
     ·exact .inl rfl
     ·exact .inr rfl
    ·obtain ⟨c2, e2⟩ := Option.isSome_iff_exists.mp (PySem.W.cellsFrom_some (x := x) scope.names (s.heap.objs.size + 1) (closOf X.env scope.names []) (.inr (by obtain ⟨c', e⟩ := lookup_of_mem m1; rw [e]; rfl)))
     show (cellsFrom (s.heap.objs.size + 1) scope.names (closOf X.env scope.names [])).lookup x = some c
     rcases lookC e2 with ⟨_, q, _⟩ | ⟨q, _⟩
     ·have := S.look _ q
      rw [show scope.names.lookup x = some .free from kf] at this
      cases this
     ·rw [hc] at q
      cases q
      exact e2
 ·-- cells
  rcases lookC h with ⟨q, _, _⟩ | ⟨q, _⟩
  ·exact ⟨_, (cok.empty _ _ q).1⟩
  ·obtain ⟨v, hv⟩ := I.cell x c q
   exact ⟨v, hv.keeps kept⟩
 ·rcases lookC h with ⟨q, _, l⟩ | ⟨q, _⟩
  ·exact I.hok.fresh (by omega)
  ·exact I.freeC x c q
 ·show (cpStart own fr σ).length = N.length
  unfold cpStart
  rw [List.length_append, List.length_replicate, List.length_map]
  exact S.len
end
def PTs (X : Cx) (ifs : List Expr) (t : TT) : Prop :=
 ∀ (pins : List (Addr × Obj)) (s : Shared) (σ : St) (H : Hp) (Q : Bool -> Hp -> Prop), Inv X pins σ H s -> t σ H Q ->
  wpAny (model X.prog X.w) X.A (forIn ifs true fun c r => if r = true then do let ok <- isTrue c X.env (eval c X.env); pure (ForInStep.yield ok) else pure (ForInStep.yield r)) (TP X pins σ Q) X.xe s
def tYes : TT := fun _ H Q => Q true H
theorem yesT {σ : St} {H : Hp} {A B : Hp -> Prop} (h : A H) : tYes σ H fun b H4 => if b = true then A H4 else B H4 := by
 unfold tYes
 exact iteT h
theorem pts_nil {X : Cx} : PTs X [] tYes := fun _ _ _ H _ I h => wpAny_tests_nil ⟨H, I, h⟩
theorem pts_one {X : Cx} {c : Expr} {t : TT} (h : PT X c t) : PTs X [c] t := fun pins s σ H Q I q => wpAny_tests_one (h pins s σ H Q I q)
def CompW (J : It) (g : TG) (tc : TT) (te : TE) (σ0 : St) (D : Addr) (H1 : Hp) (Q : VK) : Prop := ∃ W : Nat -> Nat -> St -> Hp -> Prop,
 (∃ m, W 0 m σ0 (upd H1 D (.lst []))) /\ ∀ i m σ' H', W i m σ' H' -> (J.stop i H' /\ Q (.ref D) H') ∨
  (J.go i H' /\ ∃ Nx : St -> Hp -> Prop, (∀ σ2 H2, Nx σ2 H2 -> ∃ m', m' < m /\ W (i + 1) m' σ2 H2) /\
   ∀ x H2, J.yld i H' x H2 -> g x σ' H2 fun σ3 H3 => tc σ3 H3 fun b H4 => if b = true then te σ3 H4 fun y H5 => ∃ out, H5 D = some (.lst out) /\ out.length < sizeLine /\ Nx σ3 (upd H5 D (.lst (out ++ [y]))) else Nx σ3 H4)
def tComp (wi : TI) (own : Nat) (fr : List Nat) (g : TG) (tc : TT) (te : TE) : TE := fun σ H Q => wi σ H fun J H1 => ∀ D, H1 D = none -> CompW J g tc te (cpStart own fr σ) D H1 Q
section
variable {X : Cx} {tg iter elt : Expr} {ifs : List Expr} {scope : Scope} {pos : Pos} {wi : TI} {g : TG} {tc : TT} {te : TE} {N : List Str}
theorem comp_go {R : Result -> Shared -> Prop} {own : Nat} {fr : List Nat} {pins : List (Addr × Obj)} {σ : St} {H1 : Hp} {s2 : Shared} {it : Addr} {fp : List Addr} {tn : Nat -> Heap -> Prop} {J : It} {D : Addr} {Q : VK}
  (S : CpOk X.N X.env.scope N own fr scope) (hc : X.calm = true) (hg : ∀ fp s H, PG (cxComp X N scope fp s H) tg g) (ht : ∀ fp s H, PTs (cxComp X N scope fp s H) ifs tc) (he : ∀ fp s H, PE (cxComp X N scope fp s H) elt te)
  (I3 : Inv X pins σ (upd H1 D (.lst [])) s2) (T : Turn X.prog X.w X.K tg J fp it tn) (st : tn 0 s2.heap) (f2 : ∀ b ∈ fp, FpOk X pins (upd H1 D (.lst [])) b)
  (k : CompW J g tc te (cpStart own fr σ) D H1 Q)
  (hR : ∀ H' s', Inv X pins σ H' s' -> (∃ m, s'.heap.Ns s2.heap.objs.size m) -> H' s2.heap.objs.size = none -> Q (.ref D) H' -> R (.ok .next) s') :
  codeAny (model X.prog X.w) X.A (.compStart (.ListComp elt [⟨tg, iter, ifs, 0⟩] scope pos) 0 (.ref it) (.ref D) (cpEnv scope s2.heap.objs.size X.env)) R
   { s2 with heap := pushCells (s2.heap.push { cls := .type "dict", data := .dict #[] }) scope.names } := by
 obtain ⟨W, ⟨m0, w0⟩, turn⟩ := k
 have I4 := I3.block (N := N) S f2 (fun b hb => let ⟨o, e, _⟩ := T.obj _ _ st b hb; ⟨o, e⟩)
 have kept : ∀ b o, s2.heap.get? b = some o -> (pushCells (s2.heap.push { cls := .type "dict", data := .dict #[] }) scope.names).get? b = some o := fun b o e => pushCells_keeps _ _ b o (Heap.get?_push_of_some _ e)
 have st4 : tn 0 (pushCells (s2.heap.push { cls := .type "dict", data := .dict #[] }) scope.names) := T.keep _ _ _ st fun b hb o e => kept b o e
 have fx : ∀ {H' : Hp}, (∀ b ∈ fp, H' b = none) -> ∀ b ∈ fp, FpOk (cxComp X N scope fp s2 (upd H1 D (.lst []))) [] H' b := fun hn b hb =>
  ⟨hn b hb, (I4.ok.exf b hb).1, I4.ok.exfs b hb, .inl hb, (I4.ok.exf b hb).2, fun p hp => absurd (show p ∈ ([] : List (Addr × Obj)) from hp) (by simp)⟩
 have loop : codeAny (model X.prog X.w) X.A (.compLoop (.ListComp elt [⟨tg, iter, ifs, 0⟩] scope pos) 0 (.ref it) (.ref D) (cpEnv scope s2.heap.objs.size X.env)) R
   { s2 with heap := pushCells (s2.heap.push { cls := .type "dict", data := .dict #[] }) scope.names } := by
  refine codeAny_loop rfl (fun n s' => ∃ i σ' H', Inv (cxComp X N scope fp s2 (upd H1 D (.lst []))) [] σ' H' s' /\ tn i s'.heap /\ (∀ b ∈ fp, H' b = none) /\ W i n σ' H') (fun n s' hI => ?_) m0 ⟨0, _, _, I4, st4, fun b hb => (f2 b hb).1, w0⟩
  obtain ⟨i, σ', H', I5, st5, fr5, w5⟩ := hI
  show wpAny _ X.A ((compTurn (.ListComp elt [⟨tg, iter, ifs, 0⟩] scope pos) 0 (.ref it) (.ref D) (cpEnv scope s2.heap.objs.size X.env)).onRaise (fun x => do noteFrame x (cpEnv scope s2.heap.objs.size X.env); theTreesLotGoes x)) _ _ s'
  refine wpAny_noted (wpAny_mono (E := fun _ _ => False) ?_ (fun _ _ q => q) fun _ _ q => q.elim)
  rw [compTurn_list]
  refine wpAny_bind (wpAny_standAt (wpAny_bind ?_))
  rcases turn i n σ' H' w5 with ⟨stop, q⟩ | ⟨go, Nx, hN, step⟩
  ·refine thn (T.done (cxComp X N scope fp s2 (upd H1 D (.lst []))) rfl rfl rfl hc i [] s' σ' H' _ I5 (fx fr5) st5 stop) fun r s6 ⟨hr, I6⟩ => ?_
   subst hr
   refine wpAny_pure (hR H' s6 (I3.call' I6.os I6.base I6.hok I6.bare fun b hb => ?_) ?_ I6.free q)
   ·exact ⟨(f2 b hb).2.2.2.1, (f2 b hb).2.1, (f2 b hb).2.2.2.2.1, (f2 b hb).2.2.2.2.2⟩
   ·obtain ⟨m, hm, _⟩ := I6.loc
    exact ⟨m, hm⟩
  ·refine thn (T.item (cxComp X N scope fp s2 (upd H1 D (.lst []))) rfl rfl rfl hc i [] s' σ' H' _ I5 (fx fr5) st5 go) fun r s6 ⟨u, hr, h6⟩ => ?_
   subst hr
   refine wpAny_bind (thn h6 fun _ s7 ⟨x, H7, I7, r7, y7, st7, fr7⟩ => ?_)
   have I7' := I7.pinned (fx fr7) (T.obj _ _ st7)
   have back : ∀ {σ8 : St} {H8 : Hp} {s8 : Shared}, Inv (cxComp X N scope fp s2 (upd H1 D (.lst []))) ([] ++ pinsAt fp s7.heap) σ8 H8 s8 -> Nx σ8 H8 -> ∃ m, m < n /\ ∃ i σ' H', Inv (cxComp X N scope fp s2 (upd H1 D (.lst []))) [] σ' H' s8 /\ tn i s8.heap /\ (∀ b ∈ fp, H' b = none) /\ W i m σ' H' := fun {σ8 H8 s8} I8 n8 => by
    obtain ⟨m', hm, w8⟩ := hN σ8 H8 n8
    refine ⟨m', hm, i + 1, σ8, H8, I8.unpinned, T.keep _ _ _ st7 fun b hb o e => (I8.pin (b, o) (List.mem_append_right _ (List.mem_append_right _ (mem_pinsAt hb e)))).1, fun b hb => ?_, w8⟩
    obtain ⟨o, e, d⟩ := T.obj _ _ st7 b hb
    exact (I8.pin (b, o) (List.mem_append_right _ (List.mem_append_right _ (mem_pinsAt hb e)))).2.1
   refine wpAny_bind (thn (hg fp s2 (upd H1 D (.lst [])) _ s7 σ' H7 x u _ I7' r7 (step x H7 y7)) fun _ s8 ⟨σ8, H8, I8, q8⟩ => ?_)
   refine wpAny_bind (thn (ht fp s2 (upd H1 D (.lst [])) _ s8 σ8 H8 _ I8 q8) fun b s9 ⟨H9, I9, q9⟩ => ?_)
   cases b with
   | false =>
    simp only [Bool.false_eq_true, if_false] at q9 ⊢
    exact wpAny_pure ⟨rfl, back I9 q9⟩
   | true =>
    simp only [if_true] at q9 ⊢
    refine wpAny_bind (wpAny_bind (thn (he fp s2 (upd H1 D (.lst [])) _ s9 σ8 H9 _ I9 q9) fun y s10 ⟨yv, H10, I10, r10, out, hD, hz, q10⟩ => ?_))
    refine wpAny_bind (thn (mt_append (X := cxComp X N scope fp s2 (upd H1 D (.lst []))) _ s10 σ8 H10 (.ref D) [yv] (.ref D) [y] (fun _ H' => Nx σ8 H') I10 rfl (.cons r10 .nil) ⟨D, out, yv, rfl, rfl, hD, hz, q10⟩) fun _ s11 ⟨_, H11, I11, _, q11⟩ => ?_)
    exact wpAny_pure (wpAny_pure ⟨rfl, back I11 q11⟩)
 exact codeAny_compStart_list loop (T.self _ 0 _ _ _ st4 loop)
theorem pe_comp (N : List Str) (own : Nat) (fr : List Nat) (hi : PI X tg iter wi) (hg : ∀ fp s H, PG (cxComp X N scope fp s H) tg g) (ht : ∀ fp s H, PTs (cxComp X N scope fp s H) ifs tc) (he : ∀ fp s H, PE (cxComp X N scope fp s H) elt te)
  (S : cpCheck X.N X.env.scope N own fr scope = true := by kernel_rfl) (hc : X.calm = true := by rfl) (hs : ∀ x, foldedSetIterable iter X.env x = pure x := by intro _; rfl) :
  PE X (.ListComp elt [⟨tg, iter, ifs, 0⟩] scope pos) (tComp wi own fr g tc te) := by
 intro pins s σ H Q I h
 have S' := CpOk.of S
 rw [eval_ListComp]
 have hclos : closureFor scope X.env = pure (closOf X.env scope.names []) := closureFor_eq fun x hx e => I.ok.has x.1 (S'.par x hx e)
 refine wpAny_comprehension_free (use := none) rfl hs hclos S'.kind (fun x hx e => by rw [S'.look x hx, e]) (thn (hi pins s σ H _ I h) fun v s1 h1 => thn h1 fun itv s2 h2 => ?_)
 obtain ⟨it, fp, tn, J, H1, rfl, I2, T, st2, f2, k⟩ := h2
 refine wpAny_newObj_type (newEnv_comp ?_)
 have hD : H1 s2.heap.objs.size = none := I2.fresh
 have I3 := I2.lnew (ys := []) (its := []) (t' := s2.toks) .nil (Nat.zero_le _)
 have kept : ∀ b o, s2.heap.get? b = some o -> (s2.heap.push { cls := .type "list", data := .seq ([] : List Value).toArray }).get? b = some o := fun b o e => Heap.get?_push_of_some _ e
 refine comp_go (own := own) (fr := fr) (Q := Q) S' hc hg ht he I3 T (T.keep _ _ _ st2 fun b hb o e => kept b o e) (fun b hb => ?_) (k _ hD) ?_
 ·refine ⟨?_, (f2 b hb).2⟩
  obtain ⟨o, e, _⟩ := T.obj _ _ st2 b hb
  rw [upd_ne (Nat.ne_of_lt (Heap.lt_size e))]
  exact (f2 b hb).1
 ·rintro H' s' I' ⟨m, hm⟩ hn q
  refine ⟨m, hm, fun h' hs' => ⟨.ref s2.heap.objs.size, H', ?_, rfl, q⟩⟩
  exact I'.turned (t' := s'.toks) (fun b o hb e => hs'.extBut b o hb e) hn (Nat.ne_of_gt I3.lt) (.inr I3.sz) (fun x c hcx e => by
   obtain ⟨v, hv⟩ := I3.cell x c hcx
   exact absurd hv.lt (by rw [e]; exact Nat.lt_irrefl _)) fun p hp e => by
    have := (I3.pin p hp).1
    rw [e] at this
    exact absurd (Heap.lt_size this) (Nat.lt_irrefl _)
end
def GOk (g : TG) (own : Nat) (fv : List (Option V)) (dec : V -> Hp -> List (Option V) -> Prop) : Prop :=
 ∀ (x : V) (o : List (Option V)) (H : Hp) (k : St -> Hp -> Prop) (o3 : List (Option V)), o.length = own -> dec x H o3 -> k (o3 ++ fv) H -> g x (o ++ fv) H k
theorem gok1 {fv : List (Option V)} : GOk (gName 0) 1 fv (fun x _ o3 => o3 = [some x]) := fun x o H k o3 hl e h => by
 subst e
 match o, hl with
 | [a], _ => exact h
def dec2 (K : PySem.W.Frag) : V -> Hp -> List (Option V) -> Prop := fun x H o3 => ∃ p u v, x = .ref p /\ SqT K H p [u, v] /\ o3 = [some u, some v]
theorem gok2 {K : PySem.W.Frag} {fv : List (Option V)} : GOk (gTup K 2 (gCons (gName 0) (gCons (gName 1) gNil))) 2 fv (dec2 K) := fun x o H k o3 hl e h => by
 obtain ⟨p, u, v, rfl, hp, rfl⟩ := e
 match o, hl with
 | [a, b], _ => exact ⟨p, [u, v], rfl, hp, rfl, u, [v], rfl, v, [], rfl, rfl, h⟩
theorem comp_it {J : It} {g : TG} {tc : TT} {te : TE} {own : Nat} {fv : List (Option V)} {dec : V -> Hp -> List (Option V) -> Prop} {D : Addr} {H : Hp} {Q : VK} {σ0 : St} (hσ : σ0 = List.replicate own none ++ fv) (G : GOk g own fv dec) (n : Nat) (Pv : Nat -> List V -> Hp -> Prop)
  (h0 : Pv 0 [] (upd H D (.lst []))) (hstop : ∀ out H', Pv n out H' -> J.stop n H' /\ Q (.ref D) H')
  (hgo : ∀ i out H', i < n -> Pv i out H' -> J.go i H' /\ ∀ x H2, J.yld i H' x H2 -> ∃ o3, dec x H2 o3 /\ o3.length = own /\ ∀ Nx : Hp -> Prop, (∀ out' H2, Pv (i + 1) out' H2 -> Nx H2) ->
   tc (o3 ++ fv) H2 fun b H4 => if b = true then te (o3 ++ fv) H4 fun y H5 => ∃ out2, H5 D = some (.lst out2) /\ out2.length < sizeLine /\ Nx (upd H5 D (.lst (out2 ++ [y]))) else Nx H4) :
  CompW J g tc te σ0 D H Q := by
 subst hσ
 refine ⟨fun i m σ' H' => m = n - i /\ i <= n /\ (∃ o : List (Option V), σ' = o ++ fv /\ o.length = own) /\ ∃ out, Pv i out H', ⟨n, by simp, Nat.zero_le _, ⟨_, rfl, List.length_replicate⟩, _, h0⟩, ?_⟩
 rintro i m σ' H' ⟨rfl, hi, ⟨o, rfl, ho⟩, out, p⟩
 by_cases hlt : i < n
 ·obtain ⟨go, k⟩ := hgo i out H' hlt p
  refine .inr ⟨go, fun σ2 H2 => (∃ o : List (Option V), σ2 = o ++ fv /\ o.length = own) /\ ∃ out, Pv (i + 1) out H2, fun σ2 H2 q => ⟨n - (i + 1), by omega, rfl, hlt, q⟩, fun x H2 y => ?_⟩
  obtain ⟨o3, d, l3, q⟩ := k x H2 y
  exact G x o H2 _ o3 ho d (q (fun H2 => (∃ o : List (Option V), o3 ++ fv = o ++ fv /\ o.length = own) /\ ∃ out, Pv (i + 1) out H2) fun out' H2 z => ⟨⟨o3, rfl, l3⟩, out', z⟩)
 ·have e : i = n := by omega
  subst e
  exact .inl (hstop out H' p)
theorem comp_list {K : PySem.W.Frag} {a : Addr} {xs : List V} {g : TG} {tc : TT} {te : TE} {own : Nat} {fv : List (Option V)} {dec : V -> Hp -> List (Option V) -> Prop} {D : Addr} {H : Hp} {Q : VK} {σ0 : St} (hσ : σ0 = List.replicate own none ++ fv) (G : GOk g own fv dec) (Pv : Nat -> List V -> Hp -> Prop)
  (h0 : Pv 0 [] (upd H D (.lst []))) (hl : ∀ i out H', i <= xs.length -> Pv i out H' -> SqL K H' a xs) (hd : ∀ out H', Pv xs.length out H' -> Q (.ref D) H')
  (hgo : ∀ i x out H', xs[i]? = some x -> Pv i out H' -> ∃ o3, dec x H' o3 /\ o3.length = own /\ ∀ Nx : Hp -> Prop, (∀ out' H2, Pv (i + 1) out' H2 -> Nx H2) ->
   tc (o3 ++ fv) H' fun b H4 => if b = true then te (o3 ++ fv) H4 fun y H5 => ∃ out2, H5 D = some (.lst out2) /\ out2.length < sizeLine /\ Nx (upd H5 D (.lst (out2 ++ [y]))) else Nx H4) :
  CompW (Itl K a) g tc te σ0 D H Q := by
 refine comp_it hσ G xs.length Pv h0 (fun out H' p => ⟨⟨xs, hl _ _ _ (Nat.le_refl _) p, Nat.le_refl _⟩, hd out H' p⟩) fun i out H' hi p => ?_
 have q := hl i out H' (Nat.le_of_lt hi) p
 refine ⟨⟨xs, xs[i], q, by simp [hi]⟩, fun x H2 y => ?_⟩
 obtain ⟨e, y⟩ := y
 subst e
 exact hgo i x out _ (y xs q) p
end L2
set_option Elab.async false
set_option linter.all false
set_option maxRecDepth 100000
namespace EvS
open PySem PySem.W PyProof.Rows
def Ok {α : Type} (f : Nat -> Nat -> Bool) (n : Nat) : KasT α -> (α -> Prop) -> Prop
 | .ret a, Q => Q a
 | .ask i j k, Q => i < n /\ j < n /\ Ok f n (k (f i j)) Q
theorem Ok.bind {α β : Type} {f : Nat -> Nat -> Bool} {n : Nat} {g : α -> KasT β} {Q : β -> Prop} : ∀ {t : KasT α} {R : α -> Prop}, Ok f n t R -> (∀ a, R a -> Ok f n (g a) Q) -> Ok f n (t.bind g) Q
 | .ret a, R, h, k => k a h
 | .ask i j t, R, h, k => ⟨h.1, h.2.1, Ok.bind h.2.2 k⟩
theorem Ok.imp {α : Type} {f : Nat -> Nat -> Bool} {n : Nat} {Q R : α -> Prop} (k : ∀ a, Q a -> R a) : ∀ {t : KasT α}, Ok f n t Q -> Ok f n t R
 | .ret a, h => k a h
 | .ask i j t, h => ⟨h.1, h.2.1, Ok.imp k h.2.2⟩
theorem Ok.wp {α : Type} {f : Nat -> Nat -> Bool} {n : Nat} {cmp : Nat -> Nat -> (Bool -> Shared -> Prop) -> Shared -> Prop} {s : Shared} (hc : ∀ i j C, i < n -> j < n -> C (f i j) s -> cmp i j C s) {Q : α -> Prop} {G : α -> Shared -> Prop} (k : ∀ a, Q a -> G a s) :
  ∀ {t : KasT α}, Ok f n t Q -> t.kasWp cmp G s
 | .ret a, h => k a h
 | .ask i j t, h => hc i j _ h.1 h.2.1 (Ok.wp hc k h.2.2)
structure Ord (f : Nat -> Nat -> Bool) : Prop where
 rfl' : ∀ i, f i i = false
 trans : ∀ {i j k}, f j i = false -> f k j = false -> f k i = false
 tot : ∀ {i j}, f i j = true -> f j i = false
section
variable {f : Nat -> Nat -> Bool} (O : Ord f) {N : Nat}
abbrev at' (p : Array Nat) (i : Nat) : Nat := p.getD i 0
def Up (f : Nat -> Nat -> Bool) (p : Array Nat) (k : Nat) : Prop := ∀ i j, i <= j -> j < k -> f (at' p j) (at' p i) = false
def Down (f : Nat -> Nat -> Bool) (p : Array Nat) (k : Nat) : Prop := ∀ i j, i <= j -> j < k -> f (at' p i) (at' p j) = false
def Like (f : Nat -> Nat -> Bool) (p : Array Nat) (lo k : Nat) : Prop := ∀ i, lo <= i -> i < k -> f (at' p i) (at' p (k - 1)) = false /\ f (at' p (k - 1)) (at' p i) = false
def Good (N : Nat) (p : Array Nat) : Prop := p.Perm (List.range N).toArray
theorem Good.size {p : Array Nat} (h : Good N p) : p.size = N := by
 have := h.size_eq
 simpa using this
theorem Good.lt {p : Array Nat} (h : Good N p) (hN : 0 < N) (i : Nat) : at' p i < N := by
 unfold at'
 by_cases hi : i < p.size
 ·have e : p.getD i 0 = p[i] := by simp [Array.getD, hi]
  rw [e]
  have m : p[i] ∈ (List.range N).toArray := h.mem_iff.mp (Array.getElem_mem hi)
  simpa using m
 ·have e : p.getD i 0 = 0 := by simp [Array.getD, hi]
  rw [e]
  exact hN
theorem Good.rev {p : Array Nat} (h : Good N p) (i j : Nat) : Good N (kas_rev p i j) := (mirror_perm _ _ _ _).trans h
theorem Good.bub {p : Array Nat} (h : Good N p) (i j : Nat) : Good N (bubble p i j) := (bubble_perm _ _ _).trans h
theorem getD_of {p q : Array Nat} {i j : Nat} (h : p[i]? = q[j]?) : at' p i = at' q j := by
 unfold at'
 rw [Array.getD_eq_getD_getElem?, Array.getD_eq_getD_getElem?, h]
theorem at_rev {p : Array Nat} {i j : Nat} (hj : j <= p.size) (k : Nat) : at' (kas_rev p i j) k = if i <= k /\ k < j then at' p (i + j - 1 - k) else at' p k := by
 have e := getElem?_mirror_all (i := i) hj k
 unfold kas_rev
 split
 ·rename_i c
  rw [if_pos c] at e
  exact getD_of e
 ·rename_i c
  rw [if_neg c] at e
  exact getD_of e
theorem at_bub {p : Array Nat} {k l : Nat} (hk : k < p.size) (hl : l <= k) (i : Nat) : at' (bubble p k (k - l)) i = if i = l then at' p k else if l < i /\ i <= k then at' p (i - 1) else at' p i := by
 have e := getElem?_bubble hk (k - l) (by omega) i
 rw [show k - (k - l) = l by omega] at e
 by_cases c : i = l
 ·rw [if_pos c] at e ⊢
  exact getD_of e
 ·rw [if_neg c] at e ⊢
  split
  ·rename_i d
   rw [if_pos d] at e
   exact getD_of e
  ·rename_i d
   rw [if_neg d] at e
   exact getD_of e
include O
theorem Up.more {p : Array Nat} {n : Nat} (h : Up f p n) (h1 : 1 <= n) (c : f (at' p n) (at' p (n - 1)) = false) : Up f p (n + 1) := fun i j hij hj => by
 by_cases e : j < n
 ·exact h i j hij e
 ·have e : j = n := by omega
  subst e
  by_cases e2 : i = j
  ·subst e2
   exact O.rfl' _
  ·exact O.trans (h i (j - 1) (by omega) (by omega)) c
theorem Down.more {p : Array Nat} {n : Nat} (h : Down f p n) (h1 : 1 <= n) (c : f (at' p (n - 1)) (at' p n) = false) : Down f p (n + 1) := fun i j hij hj => by
 by_cases e : j < n
 ·exact h i j hij e
 ·have e : j = n := by omega
  subst e
  by_cases e2 : i = j
  ·subst e2
   exact O.rfl' _
  ·exact O.trans c (h i (j - 1) (by omega) (by omega))
theorem asc_ok {p : Array Nat} (g : Good N p) (hN : 0 < N) : ∀ (m n : Nat), 1 <= n -> Up f p n -> Ok f N (kas_asc p m n) fun r => n <= r /\ r <= n + m /\ Up f p r /\ (r < n + m -> f (at' p r) (at' p (r - 1)) = true)
 | 0, n, _, h => ⟨Nat.le_refl _, Nat.le_refl _, h, fun q => absurd q (by omega)⟩
 | m + 1, n, h1, h => by
  refine ⟨g.lt hN _, g.lt hN _, ?_⟩
  dsimp only
  by_cases c : f (at' p n) (at' p (n - 1)) = true
  ·rw [if_pos c]
   exact ⟨Nat.le_refl _, by omega, h, fun _ => c⟩
  ·rw [if_neg c]
   refine (asc_ok g hN m (n + 1) (by omega) (h.more O h1 (by simpa using c))).imp fun r ⟨a, b, u, z⟩ => ⟨by omega, by omega, u, fun q => z (by omega)⟩
theorem Like.rev {p : Array Nat} {lo k : Nat} (h : Like f p lo k) (hk : k <= p.size) (i : Nat) : f (at' (kas_rev p lo k) i) (at' p i) = false /\ f (at' p i) (at' (kas_rev p lo k) i) = false := by
 rw [at_rev hk]
 split
 ·rename_i c
  obtain ⟨a1, a2⟩ := h i c.1 c.2
  obtain ⟨b1, b2⟩ := h (lo + k - 1 - i) (by omega) (by omega)
  exact ⟨O.trans a2 b1, O.trans b2 a1⟩
 ·exact ⟨O.rfl' _, O.rfl' _⟩
theorem Down.rev {p : Array Nat} {lo k n : Nat} (h : Down f p n) (l : Like f p lo k) (hk : k <= p.size) : Down f (kas_rev p lo k) n := fun i j hij hj => by
 obtain ⟨a1, _⟩ := l.rev O hk i
 obtain ⟨_, b2⟩ := l.rev O hk j
 exact O.trans (O.trans b2 (h i j hij hj)) a1
theorem desc_ok (hN : 0 < N) : ∀ (m : Nat) (p : Array Nat) (n q : Nat), Good N p -> 1 <= n -> q + 1 <= n -> n + m <= N -> Down f p n -> Like f p (n - (q + 1)) n ->
  Ok f N (kas_desc m p n q) fun r => Good N r.1 /\ n <= r.2.1 /\ r.2.1 <= n + m /\ Down f r.1 r.2.1 /\ r.2.2 + 1 <= r.2.1 /\ Like f r.1 (r.2.1 - (r.2.2 + 1)) r.2.1
 | 0, p, n, q, g, h1, hq, hn, d, l => ⟨g, Nat.le_refl _, Nat.le_refl _, d, hq, l⟩
 | m + 1, p, n, q, g, h1, hq, hn, d, l => by
  refine ⟨g.lt hN _, g.lt hN _, ?_⟩
  dsimp only
  by_cases c : f (at' p n) (at' p (n - 1)) = true
  ·rw [if_pos c]
   have d2 : Down f p (n + 1) := d.more O h1 (O.tot c)
   have one : ∀ p' : Array Nat, Like f p' (n + 1 - (0 + 1)) (n + 1) := fun p' i h2 h3 => by
    have e : i = n + 1 - 1 := by omega
    subst e
    exact ⟨O.rfl' _, O.rfl' _⟩
   by_cases hq0 : q > 0
   ·rw [if_pos hq0]
    have hk : n <= p.size := by rw [g.size]; omega
    exact (desc_ok hN m _ (n + 1) 0 (g.rev _ _) (by omega) (by omega) (by omega) (d2.rev O l hk) (one _)).imp fun r ⟨a, b, b2, z⟩ => ⟨a, by omega, by omega, z⟩
   ·rw [if_neg hq0]
    exact (desc_ok hN m _ (n + 1) 0 g (by omega) (by omega) (by omega) d2 (one _)).imp fun r ⟨a, b, b2, z⟩ => ⟨a, by omega, by omega, z⟩
  ·rw [if_neg c]
   refine ⟨g.lt hN _, g.lt hN _, ?_⟩
   dsimp only
   have c : f (at' p n) (at' p (n - 1)) = false := by simpa using c
   by_cases e : f (at' p (n - 1)) (at' p n) = true
   ·rw [if_pos e]
    exact ⟨g, Nat.le_refl _, by show n <= n + (m + 1); omega, d, hq, l⟩
   ·rw [if_neg e]
    have e : f (at' p (n - 1)) (at' p n) = false := by simpa using e
    refine (desc_ok hN m p (n + 1) (q + 1) g (by omega) (by omega) (by omega) (d.more O h1 e) fun i h2 h3 => ?_).imp fun r ⟨a, b, b2, z⟩ => ⟨a, by omega, by omega, z⟩
    show f (at' p i) (at' p n) = false /\ f (at' p n) (at' p i) = false
    by_cases ei : i = n
    ·subst ei
     exact ⟨O.rfl' _, O.rfl' _⟩
    ·obtain ⟨a1, a2⟩ := l i (by omega) (by omega)
     exact ⟨O.trans e a1, O.trans a2 c⟩
def Counted (f : Nat -> Nat -> Bool) (N nrem : Nat) (r : Nat × Array Nat) : Prop := Good N r.2 /\ 1 <= r.1 /\ r.1 <= nrem /\ Up f r.2 r.1
theorem tail_ok (hN : 0 < N) {p : Array Nat} {n nrem : Nat} (g : Good N p) (h1 : 1 <= n) (hn : n <= nrem) (hr : nrem <= N) (d : Down f p n) : Ok f N (kas_tail3 n nrem p) (Counted f N nrem) := by
 unfold kas_tail3
 have u : Up f (kas_rev p 0 n) n := fun i j hij hj => by
  rw [at_rev (by rw [g.size]; omega), at_rev (by rw [g.size]; omega), if_pos (by omega), if_pos (by omega)]
  exact d _ _ (by omega) (by omega)
 exact (asc_ok O (g.rev _ _) hN (nrem - n) n h1 u).bind fun m ⟨a, b, u, _⟩ => ⟨g.rev _ _, by show 1 <= m; omega, by show m <= nrem; omega, u⟩
theorem descPart_ok (hN : 0 < N) {p : Array Nat} {n nrem : Nat} (g : Good N p) (hn : n + 1 <= nrem) (hr : nrem <= N) (d : Down f p (n + 1)) : Ok f N (kas_descPart n nrem p) (Counted f N nrem) := by
 unfold kas_descPart
 refine (desc_ok O hN (nrem - (n + 1)) p (n + 1) 0 g (by omega) (by omega) (by omega) d fun i h2 h3 => ?_).bind fun r ⟨g', a, b, d', hq, l⟩ => ?_
 ·have e : i = n + 1 - 1 := by omega
  subst e
  exact ⟨O.rfl' _, O.rfl' _⟩
 ·split
  ·exact tail_ok O hN (g'.rev _ _) (by omega) (by omega) hr (d'.rev O l (by rw [g'.size]; omega))
  ·exact tail_ok O hN g' (by omega) (by omega) hr d'
theorem count_ok (hN : 0 < N) {p : Array Nat} {nrem : Nat} (g : Good N p) (h1 : 1 <= nrem) (hr : nrem <= N) : Ok f N (kas_count nrem p) (Counted f N nrem) := by
 unfold kas_count
 refine (asc_ok O g hN (nrem - 1) 1 (Nat.le_refl _) fun i j hij hj => ?_).bind fun n ⟨a, b, u, st⟩ => ?_
 ·have e : i = j := by omega
  subst e
  exact O.rfl' _
 ·by_cases e : (n == nrem) = true
  ·rw [if_pos e]
   exact ⟨g, a, by show n <= nrem; omega, u⟩
  ·rw [if_neg e]
   have e : n ≠ nrem := by simpa using e
   have c := st (by omega)
   by_cases h2 : n > 1
   ·rw [if_pos h2]
    refine ⟨g.lt hN _, g.lt hN _, ?_⟩
    dsimp only
    by_cases c2 : f (at' p 0) (at' p (n - 1)) = true
    ·rw [if_pos c2]
     exact ⟨g, a, by show n <= nrem; omega, u⟩
    ·rw [if_neg c2]
     have c2 : f (at' p 0) (at' p (n - 1)) = false := by simpa using c2
     refine descPart_ok O hN (g.rev _ _) (by omega) hr fun i j hij hj => ?_
     by_cases ej : j < n
     ·rw [at_rev (by rw [g.size]; omega), at_rev (by rw [g.size]; omega), if_pos (by omega), if_pos (by omega)]
      exact u _ _ (by omega) (by omega)
     ·have ej : j = n := by omega
      subst ej
      by_cases ei : i = j
      ·subst ei
       exact O.rfl' _
      ·rw [at_rev (by rw [g.size]; omega), at_rev (by rw [g.size]; omega), if_pos (by omega), if_neg (by omega)]
       exact O.trans (O.trans (O.tot c) c2) (u 0 _ (by omega) (by omega))
   ·rw [if_neg h2]
    have e1 : n = 1 := by omega
    subst e1
    refine descPart_ok O hN g (by omega) hr fun i j hij hj => ?_
    by_cases ei : i = j
    ·subst ei
     exact O.rfl' _
    ·have q1 : i = 0 := by omega
     have q2 : j = 1 := by omega
     subst q1
     subst q2
     exact O.tot c
theorem place_ok (hN : 0 < N) {p : Array Nat} {k : Nat} (g : Good N p) (u : Up f p k) : ∀ (m l r : Nat), r - l <= m -> l <= r -> r <= k -> (∀ i, i < l -> f (at' p k) (at' p i) = false) -> (∀ i, r <= i -> i < k -> f (at' p k) (at' p i) = true) ->
  Ok f N (kas_place p k m l r) fun x => x <= k /\ (∀ i, i < x -> f (at' p k) (at' p i) = false) /\ ∀ i, x <= i -> i < k -> f (at' p k) (at' p i) = true
 | 0, l, r, hm, hl, hr, h1, h2 => by
  have e : l = r := by omega
  subst e
  exact ⟨hr, h1, h2⟩
 | m + 1, l, r, hm, hl, hr, h1, h2 => by
  unfold kas_place
  by_cases e : l ≥ r
  ·rw [if_pos e]
   have e : l = r := by omega
   subst e
   exact ⟨hr, h1, h2⟩
  ·rw [if_neg e]
   refine ⟨g.lt hN _, g.lt hN _, ?_⟩
   dsimp only
   by_cases c : f (at' p k) (at' p ((l + r) / 2)) = true
   ·rw [if_pos c]
    refine place_ok hN g u m l _ (by omega) (by omega) (by omega) h1 fun i h3 h4 => ?_
    by_cases ei : f (at' p k) (at' p i) = true
    ·exact ei
    ·have ei : f (at' p k) (at' p i) = false := by simpa using ei
     have := O.trans (u _ i h3 h4) ei
     rw [c] at this
     cases this
   ·rw [if_neg c]
    have c : f (at' p k) (at' p ((l + r) / 2)) = false := by simpa using c
    exact place_ok hN g u m _ r (by omega) (by omega) hr (fun i h3 => O.trans (u i _ (by omega) (by omega)) c) h2
theorem bin_ok (hN : 0 < N) : ∀ (m : Nat) (p : Array Nat) (k : Nat), Good N p -> k + m = N -> Up f p k -> Ok f N (kas_bin m p k) fun r => Good N r /\ Up f r N
 | 0, p, k, g, e, u => by
  have e : k = N := by omega
  subst e
  exact ⟨g, u⟩
 | m + 1, p, k, g, e, u => by
  unfold kas_bin
  refine (place_ok O hN g u k 0 k (by omega) (by omega) (Nat.le_refl _) (fun i h => absurd h (by omega)) fun i h1 h2 => absurd h2 (by omega)).bind fun l ⟨hl, h1, h2⟩ => ?_
  have hk : k < p.size := by rw [g.size]; omega
  refine bin_ok hN m _ (k + 1) (g.bub _ _) (by omega) fun i j hij hj => ?_
  rw [at_bub hk hl, at_bub hk hl]
  by_cases ej : j = l
  ·rw [if_pos ej]
   by_cases ei : i = l
   ·rw [if_pos ei]
    exact O.rfl' _
   ·rw [if_neg ei, if_neg (by omega)]
    exact h1 i (by omega)
  ·rw [if_neg ej]
   by_cases ej2 : l < j /\ j <= k
   ·rw [if_pos ej2]
    by_cases ei : i = l
    ·rw [if_pos ei]
     exact O.tot (h2 (j - 1) (by omega) (by omega))
    ·rw [if_neg ei]
     by_cases ei2 : l < i /\ i <= k
     ·rw [if_pos ei2]
      exact u _ _ (by omega) (by omega)
     ·rw [if_neg ei2]
      exact u _ _ (by omega) (by omega)
   ·rw [if_neg ej2]
    rw [if_neg (show ¬ i = l by omega), if_neg (show ¬ (l < i /\ i <= k) by omega)]
    exact u _ _ (by omega) (by omega)
theorem sort_ok (hN : 0 < N) : Ok f N (kas_sort N) fun p => Good N p /\ Up f p N := by
 unfold kas_sort
 refine (count_ok O hN (p := (List.range N).toArray) (Array.Perm.refl _) hN (Nat.le_refl _)).bind fun r ⟨g, h1, h2, u⟩ => ?_
 split
 ·rename_i c
  rw [show max r.1 1 = r.1 by omega]
  exact bin_ok O hN _ _ _ g (by omega) u
 ·rename_i c
  have e : r.1 = N := by omega
  exact ⟨g, e ▸ u⟩
end
end EvS
set_option Elab.async false
set_option linter.all false
set_option maxRecDepth 100000
namespace EvS
open PySem PySem.W PyProof.Rows
section
variable {prog : Program} {w : World} {A : Around} {E : Value -> Shared -> Prop} {s : Shared}
def Asks (prog : Program) (w : World) (A : Around) (f : Nat -> Nat -> Bool) (vs : List Value) (s : Shared) : Prop :=
 ∃ κ, (∀ Q : SortKind -> Shared -> Prop, Q κ s -> wpAny (model prog w) A (keyKind' vs.toArray) Q (fun _ _ => False) s) /\ ∀ i j C, i < vs.length -> j < vs.length -> C (f i j) s -> kas_ask prog w A κ vs i j C s
def KeptBut (a : Addr) (h h' : Heap) : Prop := ∀ b o, b ≠ a -> h.get? b = some o -> h'.get? b = some o
def putBy (p : Array Nat) (vs : List Value) : List Value := p.toList.map fun i => vs.getD i Value.none
theorem putBy_range (vs : List Value) : putBy (List.range vs.length).toArray vs = vs := by
 unfold putBy
 apply List.ext_getElem?
 intro i
 simp only [List.getElem?_map]
 by_cases h : i < vs.length
 ·simp [h]
 ·simp [Nat.le_of_not_lt h]
theorem sort_raw {a : Addr} {vs : List Value} {n : Nat} {f : Nat -> Nat -> Bool} {P : Fin -> Shared -> Prop} (O : Ord f) (ho : s.heap.get? a = some (seqObj "list" vs.toArray n)) (h64 : vs.length < 64)
  (hask : 2 <= vs.length -> ∀ h', KeptBut a s.heap h' -> Asks prog w A f vs { s with heap := h' })
  (h : ∀ (p : Array Nat) (h' : Heap) (e : Nat), Good vs.length p -> Up f p vs.length -> h'.get? a = some (seqObj "list" (putBy p vs).toArray e) -> KeptBut a s.heap h' -> P (.done (.ret .none)) { s with heap := h' }) :
  wpAny (model prog w) A (Builtin.«list.sort» ⟨[.ref a], []⟩) P E s := by
 have haz : a < s.heap.objs.size := Heap.lt_size ho
 obtain ⟨e1, ho1⟩ : ∃ e1, (s.heap.update a (Obj.mapSeq fun _ => (#[] : Array Value))).get? a = some (seqObj "list" #[] e1) := ⟨_, get?_update_seq ho (fun _ => #[])⟩
 have l64 : vs.length <= sizeLine := by
  have := sizeLine_eq
  omega
 rw [list_sort_plain]
 refine wpAny_bind (listItems_at ho rfl (wpAny_bind (listUpdate_at ho rfl (wpAny_bind (seqEpoch_at ho1 rfl (wpAny_bind (wpAny_newTuple (wpAny_bind (wpAny_newList (wpAny_holding ?_) (Nat.zero_le _))) l64)))) (by simpa using l64) (Nat.zero_le _))))
 have keep : ∀ g : Array Value -> Array Value, KeptBut a s.heap ((((s.heap.update a (Obj.mapSeq fun _ => (#[] : Array Value))).push (seqObj "tuple" vs.toArray 0)).push (seqObj "list" #[] 0)).update a (Obj.mapSeq g)) := fun g b o hb e => by
  refine (Heap.get?_update_other _ _ (Ne.symm hb)).trans (Heap.get?_push_of_some _ (Heap.get?_push_of_some _ ?_))
  exact (Heap.get?_update_other _ _ (Ne.symm hb)).trans e
 have keep0 : KeptBut a s.heap (((s.heap.update a (Obj.mapSeq fun _ => (#[] : Array Value))).push (seqObj "tuple" vs.toArray 0)).push (seqObj "list" #[] 0)) := fun b o hb e =>
  Heap.get?_push_of_some _ (Heap.get?_push_of_some _ ((Heap.get?_update_other _ _ (Ne.symm hb)).trans e))
 have hoB : (((s.heap.update a (Obj.mapSeq fun _ => (#[] : Array Value))).push (seqObj "tuple" vs.toArray 0)).push (seqObj "list" #[] 0)).get? a = some (seqObj "list" #[] e1) := Heap.get?_push_of_some _ (Heap.get?_push_of_some _ ho1)
 show wpAny (model prog w) A _ P E { s with heap := ((s.heap.update a (Obj.mapSeq fun _ => (#[] : Array Value))).push (seqObj "tuple" vs.toArray 0)).push (seqObj "list" #[] 0) }
 dsimp only
 by_cases h2 : vs.toArray.size < 2
 ·rw [if_pos h2, if_pos h2]
  refine wpAny_bind (wpAny_pure ?_)
  rw [StateT.run_pure]
  have eout : ((vs.toArray.zip vs.toArray).map fun x : Keyed => x.2) = (putBy (List.range vs.length).toArray vs).toArray := by
   rw [putBy_range]
   apply Array.ext'
   simp [List.map_snd_zip]
  refine wpAny_bind (wpAny_pure (wpAny_bind (seqEpoch_at hoB rfl (wpAny_bind (listUpdate_at hoB rfl ?_ (Nat.zero_le _) ?_)))))
  ·simp only [bne_self_eq_false, Bool.false_eq_true, if_false]
   refine wpAny_pure (h (List.range vs.length).toArray _ _ (Array.Perm.refl _) (fun i j hij hj => ?_) ((get?_update_seq hoB _).trans (congrArg (fun z => some (seqObj "list" z _)) eout)) (keep _))
   ·have e : i = j := by
     simp only [List.size_toArray] at h2
     omega
    subst e
    exact O.rfl' _
  ·have e : ((vs.toArray.zip vs.toArray).map fun x : Keyed => x.2).size <= sizeLine + 1 := by
    simp only [Array.size_map, Array.size_zip, List.size_toArray]
    omega
   exact e
 ·rw [if_neg h2, if_neg h2]
  have h2' : 2 <= vs.length := by
   simp only [List.size_toArray] at h2
   omega
  obtain ⟨κ, hk, hc⟩ := hask h2' _ keep0
  refine wpAny_bind (wpAny_mono (hk (fun k s' => k = κ /\ s' = _) ⟨rfl, rfl⟩) (fun k s' hks => ?_) fun _ _ x => x.elim)
  obtain ⟨rfl, rfl⟩ := hks
  refine wpAny_bind (wpAny_mono (kat_run (ks := vs) (vs := vs) (G := fun p s' => s' = { s with heap := ((s.heap.update a (Obj.mapSeq fun _ => (#[] : Array Value))).push (seqObj "tuple" vs.toArray 0)).push (seqObj "list" #[] 0) } /\ Good vs.length p /\ Up f p vs.length)
   (Q := fun st' s' => ∃ p : Array Nat, arrOf st' = p.map (kas_item (vs.toArray.zip vs.toArray)) /\ failedOf st' = none /\ s' = { s with heap := ((s.heap.update a (Obj.mapSeq fun _ => (#[] : Array Value))).push (seqObj "tuple" vs.toArray 0)).push (seqObj "list" #[] 0) } /\ Good vs.length p /\ Up f p vs.length)
   rfl h2' h64 (fun p st' s' _ q1 q2 q3 => ⟨p, q1, q2, q3⟩) (Ok.wp hc (fun p q => ⟨rfl, q⟩) (sort_ok O (by omega)))) ?_ fun _ _ x => x)
  rintro ⟨⟨⟩, st'⟩ s' ⟨p, har, hf, hs', g, u⟩
  have hs' : s' = { s with heap := ((s.heap.update a (Obj.mapSeq fun _ => (#[] : Array Value))).push (seqObj "tuple" vs.toArray 0)).push (seqObj "list" #[] 0) } := hs'
  subst hs'
  have eout : ((arrOf st').map fun x : Keyed => x.2) = (putBy p vs).toArray := by
   rw [har]
   apply Array.ext'
   unfold putBy
   simp only [Array.map_map, Array.toList_map, List.toList_toArray]
   refine List.map_congr_left fun i _ => ?_
   show (kas_item (vs.toArray.zip vs.toArray) i).2 = _
   unfold kas_item
   by_cases hi : i < vs.length
   ·simp [Array.getD, hi]
   ·simp [Array.getD, hi, Nat.le_of_not_lt hi]
  have esz : ((arrOf st').map fun x : Keyed => x.2).size = vs.length := by
   rw [eout]
   unfold putBy
   simp only [List.size_toArray, List.length_map, Array.length_toList]
   exact g.size
  refine wpAny_bind (seqEpoch_at hoB rfl (wpAny_bind (listUpdate_at hoB rfl ?_ (Nat.zero_le _) (by rw [esz]; omega))))
  rw [hf]
  simp only [bne_self_eq_false, Bool.false_eq_true, if_false]
  exact wpAny_pure (h p _ _ g u ((get?_update_seq hoB _).trans (congrArg (fun z => some (seqObj "list" z _)) eout)) (keep _))
theorem sorted_raw {x : Value} {f : Nat -> Nat -> Bool} {Q : Value -> Shared -> Prop} (O : Ord f)
  (hcol : wpAny (model prog w) A.in1 (collect x) (fun vs s1 => vs.length < 64 /\ (2 <= vs.length -> ∀ h' : Heap, (∀ b o, s1.heap.get? b = some o -> h'.get? b = some o) -> Asks prog w A.in1.in1 f vs { s1 with heap := h' }) /\
   ∀ (p : Array Nat) (h' : Heap) (e : Nat), Good vs.length p -> Up f p vs.length -> h'.get? s1.heap.objs.size = some (seqObj "list" (putBy p vs).toArray e) -> (∀ b o, s1.heap.get? b = some o -> h'.get? b = some o) -> Q (.ref s1.heap.objs.size) { s1 with heap := h' }) E s) :
  wpAny (model prog w) A (call (.builtin "sorted") [x]) Q E s := by
 refine Calls.call_function_entry kind_sorted plain_sorted entry_sorted (args_sorted1 _) ?_
 unfold Builtin.«sorted»
 refine wpAny_bind (m := checkCount "sorted" 1 1 _) (wpAny_pure (wpAny_bind (wpAny_mono hcol (fun vs s1 q => ?_) fun _ _ z => z)))
 obtain ⟨h64, hask, hQ⟩ := q
 refine wpAny_bind (wpAny_newList ?_ (by have := sizeLine_eq; omega))
 have hn : (s1.heap.push (seqObj "list" vs.toArray 0)).get? s1.heap.objs.size = some (seqObj "list" vs.toArray 0) := Heap.get?_push_size _ rfl
 have old : ∀ h', KeptBut s1.heap.objs.size (s1.heap.push (seqObj "list" vs.toArray 0)) h' -> ∀ b o, s1.heap.get? b = some o -> h'.get? b = some o := fun h' k b o e =>
  k b o (Nat.ne_of_lt (Heap.lt_size e)) (Heap.get?_push_of_some _ e)
 refine wpAny_bind (wpAny_holding (wpAny_call_entry slot_list_sort ⟨_, hn, rfl⟩ entry_list_sort (sort_raw O hn h64 (fun h2 h' k => hask h2 h' (old h' k)) fun p h' e g u q k => ⟨_, rfl, ?_⟩) (args_list_sort _)))
 exact wpAny_pure ⟨_, rfl, hQ p h' e g u q (old h' k)⟩
end
end EvS
set_option Elab.async false
set_option linter.all false
set_option maxRecDepth 100000
namespace L2
open PySem PySem.Spec PyProof.Rows PySem.W EvS
def kLt : Key -> Key -> Bool
 | .inl i, .inl j => decide (i < j)
 | .inl _, .inr _ => true
 | .inr _, .inl _ => false
 | .inr x, .inr y => decide (x.cps.toList < y.cps.toList)
def lexK : List Key -> List Key -> Bool
 | [], [] => false
 | [], _ :: _ => true
 | _ :: _, [] => false
 | a :: r, b :: q => if a = b then lexK r q else kLt a b
theorem kLt_irr : ∀ a : Key, kLt a a = false
 | .inl i => by simp [kLt]
 | .inr x => by simp [kLt, List.lt_irrefl]
theorem kLt_asymm : ∀ {a b : Key}, kLt a b = true -> kLt b a = false
 | .inl i, .inl j, h => by
  simp only [kLt, decide_eq_true_eq, decide_eq_false_iff_not] at *
  omega
 | .inl _, .inr _, _ => rfl
 | .inr _, .inl _, h => by cases h
 | .inr x, .inr y, h => by
  simp only [kLt, decide_eq_true_eq, decide_eq_false_iff_not] at *
  exact fun q => List.lt_irrefl _ (List.lt_trans h q)
theorem kLt_tot : ∀ {a b : Key}, kLt a b = false -> kLt b a = false -> a = b
 | .inl i, .inl j, h, h2 => by
  simp only [kLt, decide_eq_false_iff_not] at *
  rw [show i = j by omega]
 | .inl _, .inr _, h, _ => by cases h
 | .inr _, .inl _, _, h => by cases h
 | .inr x, .inr y, h, h2 => by
  simp only [kLt, decide_eq_false_iff_not] at *
  rw [ext_toList (List.le_antisymm (List.not_lt.mp h2) (List.not_lt.mp h))]
theorem kLt_trans : ∀ {a b c : Key}, kLt a b = true -> kLt b c = true -> kLt a c = true
 | .inl i, .inl j, .inl k, h, h2 => by
  simp only [kLt, decide_eq_true_eq] at *
  omega
 | .inl _, .inl _, .inr _, _, _ => rfl
 | .inl _, .inr _, .inr _, _, _ => rfl
 | .inl _, .inr _, .inl _, _, h => by cases h
 | .inr _, .inl _, _, h, _ => by cases h
 | .inr _, .inr _, .inl _, _, h => by cases h
 | .inr x, .inr y, .inr z, h, h2 => by
  simp only [kLt, decide_eq_true_eq] at *
  exact List.lt_trans h h2
theorem lexK_irr : ∀ a : List Key, lexK a a = false
 | [] => rfl
 | a :: r => by
  unfold lexK
  rw [if_pos rfl]
  exact lexK_irr r
theorem lexK_asymm : ∀ {a b : List Key}, lexK a b = true -> lexK b a = false
 | [], [], h => by cases h
 | [], _ :: _, _ => rfl
 | _ :: _, [], h => by cases h
 | a :: r, b :: q, h => by
  unfold lexK at h ⊢
  by_cases e : a = b
  ·rw [if_pos e] at h
   rw [if_pos e.symm]
   exact lexK_asymm h
  ·rw [if_neg e] at h
   rw [if_neg (Ne.symm e)]
   exact kLt_asymm h
theorem lexK_tot : ∀ {a b : List Key}, lexK a b = false -> lexK b a = false -> a = b
 | [], [], _, _ => rfl
 | [], _ :: _, h, _ => by cases h
 | _ :: _, [], _, h => by cases h
 | a :: r, b :: q, h, h2 => by
  unfold lexK at h h2
  by_cases e : a = b
  ·rw [if_pos e] at h
   rw [if_pos e.symm] at h2
   rw [e, lexK_tot h h2]
  ·rw [if_neg e] at h
   rw [if_neg (Ne.symm e)] at h2
   exact absurd (kLt_tot h h2) e
theorem lexK_ltTrans : ∀ {a b c : List Key}, lexK a b = true -> lexK b c = true -> lexK a c = true
 | [], _, [], h, h2 => by
  rename_i b
  cases b with
  | nil => cases h
  | cons _ _ => cases h2
 | [], _, _ :: _, _, _ => rfl
 | _ :: _, [], _, h, _ => by cases h
 | _ :: _, _ :: _, [], _, h => by cases h
 | a :: r, b :: q, c :: t, h, h2 => by
  unfold lexK at h h2 ⊢
  by_cases e : a = b
  ·subst e
   rw [if_pos rfl] at h
   by_cases e2 : a = c
   ·rw [if_pos e2] at h2 ⊢
    exact lexK_ltTrans h h2
   ·rw [if_neg e2] at h2 ⊢
    exact h2
  ·rw [if_neg e] at h
   by_cases e2 : b = c
   ·subst e2
    rw [if_neg e]
    exact h
   ·rw [if_neg e2] at h2
    have h3 := kLt_trans h h2
    rw [if_neg (fun q => by rw [q, kLt_irr] at h3; cases h3)]
    exact h3
theorem lexK_trans {a b c : List Key} (h : lexK b a = false) (h2 : lexK c b = false) : lexK c a = false := by
 cases e : lexK c a with
 | false => rfl
 | true =>
  by_cases e1 : lexK a b = true
  ·have := lexK_ltTrans e e1
   rw [h2] at this
   cases this
  ·have e1 : lexK a b = false := by simpa using e1
   have := lexK_tot e1 h
   subst this
   rw [h2] at e
   cases e
def Asc (ks : List (List Key)) : Prop := ks.Pairwise fun a b => lexK b a = false
theorem asc_unique : ∀ {a b : List (List Key)}, a.Perm b -> Asc a -> Asc b -> a = b
 | [], b, p, _, _ => by
  have := p.length_eq
  cases b with
  | nil => rfl
  | cons _ _ => cases this
 | x :: r, [], p, _, _ => by
  have := p.length_eq
  cases this
 | x :: r, y :: q, p, h1, h2 => by
  obtain ⟨a1, a2⟩ := List.pairwise_cons.mp h1
  obtain ⟨b1, b2⟩ := List.pairwise_cons.mp h2
  have e : x = y := by
   rcases List.mem_cons.mp (p.mem_iff.mp List.mem_cons_self) with m | m
   ·exact m
   ·rcases List.mem_cons.mp (p.mem_iff.mpr List.mem_cons_self) with m2 | m2
    ·exact m2.symm
    ·exact lexK_tot (b1 _ m) (a1 _ m2)
  subst e
  rw [asc_unique ((List.perm_cons _).mp p) a2 b2]
def sortKs (ks : List (List Key)) : List (List Key) := ks.mergeSort fun a b => !lexK b a
theorem sortKs_perm (ks : List (List Key)) : (sortKs ks).Perm ks := List.mergeSort_perm _ _
theorem sortKs_asc (ks : List (List Key)) : Asc (sortKs ks) := by
 have := List.pairwise_mergeSort (le := fun a b => !lexK b a) (fun a b c h1 h2 => by
  simp only [Bool.not_eq_true'] at *
  exact lexK_trans h1 h2) (fun a b => by
  simp only [Bool.or_eq_true, Bool.not_eq_true']
  by_cases e : lexK b a = true
  ·exact .inr (lexK_asymm e)
  ·exact .inl (by simpa using e)) ks
 exact this.imp fun h => by simpa using h
theorem sortKs_eq {ks ks' : List (List Key)} (p : ks'.Perm ks) (h : Asc ks') : ks' = sortKs ks := asc_unique (p.trans (sortKs_perm ks).symm) h (sortKs_asc ks)
theorem map_put_perm {α : Type} {p : Array Nat} {n : Nat} (g : Good n p) (F : Nat -> α) : (p.toList.map F).Perm ((List.range n).map F) := by
 have e : p.toList.Perm (List.range n) := by
  have := Array.perm_iff_toList_perm.mp g
  simpa using this
 exact e.map F
theorem asc_put {p : Array Nat} {ks : List (List Key)} {f : Nat -> Nat -> Bool} (hf : ∀ i j, i < ks.length -> j < ks.length -> f i j = lexK (ks.getD i []) (ks.getD j [])) (g : Good ks.length p) (u : Up f p ks.length) : Asc (p.toList.map fun i => ks.getD i []) := by
 unfold Asc
 rw [List.pairwise_map, List.pairwise_iff_getElem]
 intro i j hi hj hij
 have hs := g.size
 rw [Array.length_toList] at hi hj
 have hj' : j < ks.length := by omega
 have q := u i j (Nat.le_of_lt hij) hj'
 have hN : 0 < ks.length := by omega
 rw [hf _ _ (g.lt hN _) (g.lt hN _)] at q
 have e1 : at' p i = p.toList[i] := by simp [at', Array.getD, hi]
 have e2 : at' p j = p.toList[j] := by simp [at', Array.getD, hj]
 rw [e1, e2] at q
 exact q
theorem ord_keys (ks : List (List Key)) : Ord fun i j => lexK (ks.getD i []) (ks.getD j []) := ⟨fun _ => lexK_irr _, fun h h2 => lexK_trans h h2, fun h => lexK_asymm h⟩
theorem map_range_getD {α : Type} (d : α) (l : List α) : ((List.range l.length).map fun i => l.getD i d) = l := by
 apply List.ext_getElem?
 intro i
 simp only [List.getElem?_map]
 by_cases h : i < l.length
 ·simp [h]
 ·simp [Nat.le_of_not_lt h]
theorem vals_put {ys : List V} {vs : List Value} (r : Vals ys vs) {p : Array Nat} (g : Good vs.length p) : Vals (p.toList.map fun i => ys.getD i .non) (putBy p vs) := by
 unfold putBy
 have key : ∀ l : List Nat, (∀ i ∈ l, i < vs.length) -> Vals (l.map fun i => ys.getD i .non) (l.map fun i => vs.getD i Value.none) := fun l => by
  induction l with
  | nil => exact fun _ => .nil
  | cons i l ih =>
   intro h
   refine .cons ?_ (ih fun j hj => h j (List.mem_cons_of_mem _ hj))
   have hi := h i List.mem_cons_self
   have hy : i < ys.length := by rw [r.length]; exact hi
   obtain ⟨u, hu, ru⟩ := r.get (List.getElem?_eq_getElem hy)
   have e1 : ys.getD i .non = ys[i] := by simp [hy]
   have e2 : vs.getD i Value.none = u := by simp [hu]
   show RelV (ys.getD i .non) (vs.getD i Value.none)
   rw [e1, e2]
   exact ru
 refine key p.toList fun i hi => ?_
 have m : i ∈ (List.range vs.length).toArray := g.mem_iff.mp (by simpa using hi)
 simpa using m
def isS : Key -> Bool
 | .inl _ => false
 | .inr _ => true
theorem oneLt_key {prog : Program} {w : World} {A : Around} {E : Value -> Shared -> Prop} {s : Shared} {c : Bool} {a b : Key} {p q : Value} {Q : Bool -> Shared -> Prop} (ra : RelV (kV a) p) (rb : RelV (kV b) q) (hk : isS a = isS b) (h : Q (kLt a b) s) :
  wpAny (model prog w) A (oneLt' c p q) Q E s := by
 cases a with
 | inl i =>
  cases b with
  | inr y => cases hk
  | inl j =>
   obtain ⟨t, rfl⟩ := ra
   obtain ⟨u, rfl⟩ := rb
   cases c with
   | true => exact oneLt_int h
   | false => exact kat_one _ _ (lt_int (show PySem.W.BoolBack Q (.bool _) s from h))
 | inr x =>
  cases b with
  | inl j => cases hk
  | inr y =>
   obtain ⟨t, rfl⟩ := ra
   obtain ⟨u, rfl⟩ := rb
   cases c with
   | true => exact oneLt_str h
   | false => exact kat_one _ _ (PyProof.Rows.lt_str (show PySem.W.BoolBack Q (.bool _) s from h))
theorem eqV_key {a b : Key} (hk : isS a = isS b) : eqV (kV a) (kV b) = decide (a = b) := by
 cases a with
 | inl i =>
  cases b with
  | inr y => cases hk
  | inl j =>
   show (i == j) = _
   by_cases e : i = j
   ·subst e
    simp
   ·rw [decide_eq_false (fun q => e (Sum.inl.inj q))]
    simpa using e
 | inr x =>
  cases b with
  | inl j => cases hk
  | inr y =>
   show (x == y) = _
   by_cases e : x = y
   ·subst e
    simp
   ·rw [decide_eq_false (fun q => e (Sum.inr.inj q))]
    simpa using e
theorem flat_key (a : Key) : flatV (kV a) = true := by cases a <;> rfl
theorem katlex_keys {prog : Program} {w : World} {A : Around} {s : Shared} {Q : Bool -> Shared -> Prop} : ∀ {k1 k2 : List Key} {us vs : List Value} (i : Nat), Vals (k1.map kV) us -> Vals (k2.map kV) vs -> k1.map isS = k2.map isS -> Q (lexK k1 k2) s -> KatLex prog w A true false Q (us.zip vs) i s
 | [], [], _, _, i, .nil, .nil, _, h => h
 | [], _ :: _, _, _, _, _, _, h, _ => by cases h
 | _ :: _, [], _, _, _, _, _, h, _ => by cases h
 | a :: k1, b :: k2, u :: us, v :: vs, i, .cons ra r1, .cons rb r2, hk, h => by
  obtain ⟨e1, e2⟩ := List.cons.inj hk
  refine kat_cons ?_
  refine eqAt_V ra rb (flat_key a) (flat_key b) prog w _ _ ?_
  rw [eqV_key e1]
  unfold lexK at h
  by_cases e : a = b
  ·rw [if_pos e] at h
   rw [decide_eq_true e]
   exact kat_yes (katlex_keys (i + 1) r1 r2 e2 h)
  ·rw [if_neg e] at h
   rw [decide_eq_false e]
   exact kat_no (oneLt_key ra rb e1 h)
def TupsAt (K : PySem.W.Frag) (H : Hp) : List V -> List (List Key) -> Prop := Paired fun y k => ∃ a, y = V.ref a /\ H a = some (.tup (k.map kV))
def Alike (ks : List (List Key)) (sh : List Bool) : Prop := sh ≠ [] /\ ∀ k ∈ ks, k.map isS = sh
theorem asks_tups {X : Cx} {pins : List (Addr × Obj)} {σ : St} {H : Hp} {s s' : Shared} {A : Around} {ys : List V} {ks : List (List Key)} {sh : List Bool} {vs : List Value} (I : Inv X pins σ H s) (r : Vals ys vs) (t : TupsAt X.K H ys ks) (al : Alike ks sh) (h2 : 2 <= vs.length)
  (kp : ∀ b o, s.heap.get? b = some o -> s'.heap.get? b = some o) : Asks X.prog X.w A (fun i j => lexK (ks.getD i []) (ks.getD j [])) vs s' := by
 have look : ∀ k, k < vs.length -> ∃ a its, vs.getD k Value.none = .ref a /\ Vals ((ks.getD k []).map kV) its /\ IsTup s'.heap a its.toArray /\ ks.getD k [] ∈ ks := fun k hk => by
  have hy : k < ys.length := by rw [r.length]; exact hk
  have hk2 : k < ks.length := by rw [<- Paired.length t]; exact hy
  obtain ⟨u, hu, ru⟩ := r.get (List.getElem?_eq_getElem hy)
  have gen : ∀ {ys : List V} {ks : List (List Key)} (k : Nat) (hy : k < ys.length) (hk2 : k < ks.length), TupsAt X.K H ys ks -> ∃ a, ys[k] = V.ref a /\ H a = some (.tup (ks[k].map kV)) := fun {ys ks} k hy hk2 t => by
   induction t generalizing k with
   | nil => exact absurd hy (by simp)
   | cons h t ih =>
    cases k with
    | zero => exact h
    | succ k => exact ih k (by simpa using hy) (by simpa using hk2)
  obtain ⟨a, e, sq⟩ := gen k hy hk2 t
  obtain ⟨its, ri, ti, _⟩ := I.tuple (SqT.of sq)
  rw [e] at ru
  cases ru
  have e2 : ks.getD k [] = ks[k] := by simp [hk2]
  refine ⟨a, its, by simp [hu], by rw [e2]; exact ri, ti.keeps kp, ?_⟩
  rw [e2]
  exact List.getElem_mem hk2
 obtain ⟨hne, hal⟩ := al
 obtain ⟨c, sh', rfl⟩ : ∃ c sh', sh = c :: sh' := by
  cases sh with
  | nil => exact absurd rfl hne
  | cons c sh' => exact ⟨c, sh', rfl⟩
 refine ⟨tuples' true, fun Q q => ?_, fun i j C hi hj hC => ?_⟩
 ·have firsts : ∀ l : List Value, (∀ v ∈ l, ∃ (a : Addr) (its : List Value) (k : List Key), v = .ref a /\ Vals (k.map kV) its /\ IsTup s'.heap a its.toArray /\ k.map isS = c :: sh') -> ∃ fs, KatTups s'.heap l fs /\ fs.length = l.length /\ ∀ v ∈ fs, Looks (model X.prog X.w) s'.heap (typeOf v) (.type (if c then "str" else "int")) := fun l => by
   induction l with
   | nil => exact fun _ => ⟨[], .nil, rfl, fun _ h => nomatch h⟩
   | cons v l ih =>
    intro h
    obtain ⟨fs, h1, h2, h3⟩ := ih fun v hv => h v (List.mem_cons_of_mem _ hv)
    obtain ⟨a, its, k, rfl, rv, ⟨o, ho, hc, n, hd⟩, hk⟩ := h v List.mem_cons_self
    match k, its, rv, hk with
    | k0 :: k, u :: its, .cons r0 _, hk =>
     refine ⟨u :: fs, .cons ho hc hd (by simp) h1, by simp [h2], fun v hv => ?_⟩
     rcases List.mem_cons.mp hv with e | hv
     ·subst e
      have e0 := (List.cons.inj hk).1
      cases k0 with
      | inl i =>
       obtain ⟨t, rfl⟩ := r0
       rw [<- e0]
       exact .now
      | inr x =>
       obtain ⟨t, rfl⟩ := r0
       rw [<- e0]
       exact .now
     ·exact h3 v hv
  obtain ⟨fs, h1, h3, h4⟩ := firsts vs fun v hv => by
   obtain ⟨k, hk, rfl⟩ := List.getElem_of_mem hv
   obtain ⟨a, its, e, rv, ti, m⟩ := look k hk
   refine ⟨a, its, _, ?_, rv, ti, hal _ m⟩
   rw [<- e]
   simp [hk]
  refine kat_kind h1 (by omega) h4 (by cases c <;> decide) ?_
  have e : ((Value.type (if c then "str" else "int")) != Value.type "tuple") = true := by cases c <;> decide
  rw [e]
  exact q
 ·unfold kas_ask
  obtain ⟨a, its, e1, r1, ⟨o, ho, _, n, hd⟩, m1⟩ := look i hi
  obtain ⟨b, its2, e2, r2, ⟨o2, ho2, _, n2, hd2⟩, m2⟩ := look j hj
  rw [e1, e2]
  refine kat_lt ho hd ho2 hd2 ?_
  have l1 := r1.length
  have l2 := r2.length
  have l3 := congrArg List.length ((hal _ m1).trans (hal _ m2).symm)
  simp only [List.length_map] at l1 l2 l3
  rw [show decide (its.toArray.size < its2.toArray.size) = false by simp; omega]
  exact katlex_keys 0 r1 r2 ((hal _ m1).trans (hal _ m2).symm) hC
end L2
set_option Elab.async false
set_option linter.all false
set_option maxRecDepth 100000
namespace EvD
open PySem PySem.W PyProof.Rows
section
variable {prog : Program} {w : World} {A : Around} {E : Value -> Shared -> Prop} {s : Shared}
def Raw (h : Heap) (d : Addr) (es : Array DictEntry) (ep : Nat) : Prop := ∃ o, h.get? d = some o /\ o.ExactDict /\ o.data = .dict es ep
theorem Raw.stay {h h' : Heap} {d : Addr} {es : Array DictEntry} {ep : Nat} (x : Raw h d es ep) (k : ∀ o, h.get? d = some o -> h'.get? d = some o) : Raw h' d es ep := let ⟨o, e, r⟩ := x; ⟨o, k o e, r⟩
theorem Raw.ty {d : Addr} {es : Array DictEntry} {ep : Nat} (x : Raw s.heap d es ep) : s.TypeIs (.ref d) "dict" := let ⟨o, e, c, _⟩ := x; ⟨o, e, c.1⟩
theorem raw_iter {d : Addr} {es : Array DictEntry} {ep : Nat} {Q : Value -> Shared -> Prop} (hd : (d == sysModules) = false) (x : Raw s.heap d es ep)
  (q : Q (.ref s.heap.objs.size) { s with heap := s.heap.push { cls := .type "dict_keyiterator", data := .fields #[.ref d, .int 0 0, .int es.size 0, .int ep 0] } }) :
  wpAny (model prog w) A (pyIter (.ref d)) Q E s := by
 obtain ⟨o, ho, hc, hdat⟩ := id x
 refine wpAny_pyIter_slot x.ty F.slot_dict_iter (wpAny_call_entry F.slot_dict_iter x.ty F.entry_dict_iter ?_ (F.args_dict_iter_1 _))
 unfold Builtin.«dict.__iter__» Builtin.Dict.dictSlotNone
 refine wpAny_bind (wpAny_bind (wpAny_notOrdered_dict x.ty (show wpAny _ _ (pure (Value.ref d)) _ _ s from wpAny_pure (show wpAny _ _ (Builtin.Dict.showsAll d >>= _) _ _ s from ?_))))
 unfold Builtin.Dict.showsAll
 rw [if_neg (by rw [hd]; decide)]
 refine wpAny_bind (wpAny_pure (wpAny_bind (wpAny_dictEntries ho hdat (wpAny_bind (wpAny_dictEpoch ho hdat (wpAny_bind (wpAny_newObj_type (wpAny_pure ⟨_, rfl, "dict_keyiterator", _, ⟨_, Heap.get?_push_size _ rfl, rfl⟩, F.slot_dict_keyiterator_next.lookup, ?_⟩))))))))
 exact q
theorem raw_next {it d : Addr} {i ep : Nat} {es : Array DictEntry} {Q : Option Value -> Shared -> Prop} (hit : s.heap.IsKeyIter it d i es.size ep) (x : Raw s.heap d es ep) (hi : i < es.size)
  (q : ∀ h', h'.IsKeyIter it d (i + 1) es.size ep -> Heap.SameBut it s.heap h' -> Q (some es[i].key) { s with heap := h' }) : wpAny (model prog w) A (pyNext (.ref it)) Q E s := by
 obtain ⟨o, ho, hc, hd⟩ := id hit
 obtain ⟨od, hod, hcd, hdd⟩ := id x
 unfold pyNext
 refine wpAny_bind (wpAny_attempt (wpAny_callSpecial?_slot (name := Str.ofString "__next__") hit.typeIs F.slot_dict_keyiterator_next (wpAny_call_entry F.slot_dict_keyiterator_next hit.typeIs F.entry_dict_keyiterator_next ?_ (F.args_dict_keyiterator_next_1 _))))
 refine wpAny_bind (wpAny_pure (wpAny_bind (wpAny_bind ?_)))
 first | refine wpAny_bind (wpAny_typeNameOfWhole_keyiter hit.typeIs (wpAny_pure (wpAny_bind (wpAny_fieldsOf ho hd ?_)))) | refine wpAny_bind (wpAny_typeNameOf_keyiter hit.typeIs (wpAny_pure (wpAny_bind (wpAny_fieldsOf ho hd ?_))))
 simp only [show Builtin.Dict_items.ownsTuple "dict_keyiterator" = false by decide, Bool.false_eq_true, if_false]
 refine (show wpAny _ _ (if (Value.ref d == Value.none) = true then _ else _) _ _ s from ?_)
 rw [if_neg (fun z => by cases z)]
 refine wpAny_bind (wpAny_pure (wpAny_bind (wpAny_dictEntries hod hdd ?_)))
 rw [if_neg (by simp)]
 refine wpAny_bind (wpAny_pure (wpAny_bind (wpAny_dictEpoch hod hdd ?_)))
 rw [if_neg (by simp)]
 refine wpAny_pure ?_
 simp only [show ¬ ((i : Int) < 0) from by omega, if_false, Int.toNat_natCast, Array.getElem?_eq_getElem hi]
 refine wpAny_bind ?_
 first | refine wpAny_bind (wpAny_typeNameOfWhole_keyiter hit.typeIs (wpAny_pure (wpAny_bind (wpAny_isOneOf_keyiter hit.typeIs ?_)))) | refine wpAny_bind (wpAny_typeNameOf_keyiter hit.typeIs (wpAny_pure (wpAny_bind (wpAny_isOneOf_keyiter hit.typeIs ?_))))
 refine (show wpAny _ _ (setField (.ref it) 1 (rawInt ((i : Int) + 1)) >>= _) _ _ s from wpAny_bind (wpAny_setField ho hd (by simp) ?_))
 have turned : (s.heap.update it (Obj.mapFields (·.setIfInBounds 1 (rawInt ((i : Int) + 1))))).IsKeyIter it d (i + 1) es.size ep :=
  ⟨_, Heap.get?_update_self _ ho (Obj.isFreed_of_fields (Obj.data_mapFields hd _)), (Obj.cls_mapFields ..).trans hc, by rw [Obj.data_mapFields hd]; simp [rawInt]⟩
 refine wpAny_bind (wpAny_holding (wpAny_bind (wpAny_isOneOf_keyiter (s := { s with heap := s.heap.update it (Obj.mapFields (·.setIfInBounds 1 (rawInt ((i : Int) + 1)))) }) turned.typeIs ?_)))
 exact (show wpAny _ _ (pure es[i].key) _ _ _ from wpAny_pure (wpAny_pure ⟨_, rfl, wpAny_pure (q _ turned (Heap.SameBut.update ..))⟩))
theorem raw_stop {it d : Addr} {ep : Nat} {es : Array DictEntry} {Q : Option Value -> Shared -> Prop} (hh : A.handled = none) (hit : s.heap.IsKeyIter it d es.size es.size ep) (x : Raw s.heap d es ep)
  (q : ∀ h', Heap.ExtBut it s.heap h' -> Q none { s with heap := h' }) : wpAny (model prog w) A (pyNext (.ref it)) Q E s := by
 obtain ⟨o, ho, hc, hd⟩ := id hit
 obtain ⟨od, hod, hcd, hdd⟩ := id x
 unfold pyNext
 refine wpAny_bind (wpAny_attempt (wpAny_callSpecial?_slot (name := Str.ofString "__next__") hit.typeIs F.slot_dict_keyiterator_next (wpAny_call_entry F.slot_dict_keyiterator_next hit.typeIs F.entry_dict_keyiterator_next ?_ (F.args_dict_keyiterator_next_1 _))))
 refine wpAny_bind (wpAny_pure (wpAny_bind (wpAny_bind ?_)))
 first | refine wpAny_bind (wpAny_typeNameOfWhole_keyiter hit.typeIs (wpAny_pure (wpAny_bind (wpAny_fieldsOf ho hd ?_)))) | refine wpAny_bind (wpAny_typeNameOf_keyiter hit.typeIs (wpAny_pure (wpAny_bind (wpAny_fieldsOf ho hd ?_))))
 simp only [show Builtin.Dict_items.ownsTuple "dict_keyiterator" = false by decide, Bool.false_eq_true, if_false]
 refine (show wpAny _ _ (if (Value.ref d == Value.none) = true then _ else _) _ _ s from ?_)
 rw [if_neg (fun z => by cases z)]
 refine wpAny_bind (wpAny_pure (wpAny_bind (wpAny_dictEntries hod hdd ?_)))
 rw [if_neg (by simp)]
 refine wpAny_bind (wpAny_pure (wpAny_bind (wpAny_dictEpoch hod hdd ?_)))
 rw [if_neg (by simp)]
 refine wpAny_pure ?_
 simp only [show ¬ ((es.size : Int) < 0) from by omega, if_false, Int.toNat_natCast, Array.getElem?_eq_none (Nat.le_refl _)]
 refine wpAny_bind ?_
 first | refine wpAny_bind (wpAny_typeNameOfWhole_keyiter hit.typeIs (wpAny_pure ?g)) | refine wpAny_bind (wpAny_typeNameOf_keyiter hit.typeIs (wpAny_pure ?g))
 refine (show wpAny _ _ (setField (.ref it) 0 .none >>= _) _ _ s from wpAny_bind (wpAny_setField ho hd (by simp) (show wpAny _ _ (newExc (.type "StopIteration") [] >>= _) _ _ _ from wpAny_bind ?_)))
 simp only [newExc, newTuple]
 refine wpAny_bind (wpAny_newObj_type (wpAny_bind (m := firstArgMember _ _) (wpAny_of_eq (a := Value.none) (by first | rfl | (simp only [firstArgMember]; rfl)) (wpAny_newObj_type ?_ (by size_fits)))) (by size_fits))
 simp only [raiseNew]
 refine wpAny_bind (wpAny_handled ?_)
 rw [show A.in1.handled = none from hh]
 refine wpAny_bind (wpAny_pure (wpAny_throw ?_))
 exact wpAny_bind (wpAny_isInstance (T := "StopIteration") (b := true) ⟨_, Heap.get?_push_size _ rfl, rfl⟩ isSubtype_stop (wpAny_pure (q _ (((Heap.SameBut.update ..).extBut.push _).push _))))
theorem raw_walks (hh : A.handled = none) (I d : Addr) (hne : d ≠ I) (es : Array DictEntry) (ep : Nat) :
  Walks prog w A I [I, d] [I] es.size (fun i v => ∃ h : i < es.size, v = es[i].key) (fun i h => h.IsKeyIter I d i es.size ep /\ Raw h d es ep) where
 sub := fun b hb => by simp only [List.mem_singleton] at hb; simp [hb]
 frame := fun _ _ _ st k => ⟨st.1.at fun o e => k I (by simp) o e, st.2.stay fun o e => k d (by simp) o e⟩
 item := fun i s Q E hi st hQ => raw_next st.1 st.2 hi fun h' hit' hs' => hQ _ h' s.toks ⟨hi, rfl⟩ ⟨hit', st.2.stay fun o e => hs'.extBut d o hne e⟩ fun b o hb e => hs'.extBut b o (fun h => hb (by simp [h])) e
 done := fun s Q E st hQ => raw_stop hh st.1 st.2 fun h' he' => hQ h' s.toks fun b o hb e => he' b o (fun h => hb (by simp [h])) e
 self := fun _ _ _ _ st hQ => wpAny_pyIter_keyiter st.1 hQ
theorem raw_src {d : Addr} {es : Array DictEntry} {ep : Nat} (lo : (d == sysModules) = false) : KdlSrc prog w "dict" d d es.size (fun i v => ∃ h : i < es.size, v = es[i].key) (fun h => Raw h d es ep) where
 type := fun s x => x.ty
 there := fun h x => let ⟨o, e, _⟩ := x; ⟨Heap.lt_size e, Heap.lt_size e⟩
 keep := fun h h' x k => x.stay fun o e => k d (.inl rfl) o e
 notList := by decide
 notTuple := by decide
 hint := fun _ _ s _ x q => kdl_hint_dict x.ty q
 iter := fun A s hh x => ⟨_, _, fun E Q q => raw_iter lo x q, raw_walks hh _ d (let ⟨o, e, _⟩ := x; Nat.ne_of_lt (Heap.lt_size e)) es ep, ⟨⟨_, Heap.get?_push_size _ rfl, rfl, rfl⟩, x.stay fun o e => Heap.get?_push_of_some _ e⟩⟩
end
end EvD
set_option Elab.async false
set_option linter.all false
set_option maxRecDepth 100000
namespace EvD
open PySem PySem.W PyProof.Rows
theorem list_keys_none : typeLookup (.type "list") "keys" = pure none := by rw [typeLookup_type, builtinLookup_eq_fast]; kernel_rfl
theorem miss_keys {prog : Program} {w : World} {A : Around} {s : Shared} {a : Addr} {xs : Array Value} {k : Nat} {tk : Tok} {R : Result -> Shared -> Prop} (hx : s.heap.get? a = some (seqObj "list" xs k)) (h : raisesAttr (.ref a) "keys" A R s) :
  codeAny (model prog w) A (.call (.builtin "list.__getattribute__") ⟨[.ref a, .str "keys" tk], []⟩) R s := by
 refine codeAny_call_builtin F.slot_list_getattribute.plain am_entry_list_getattribute (F.slot_list_getattribute.check _ _ _ _ _ _ _ _ ⟨_, hx, rfl⟩ (F.args_list_getattribute_2 _ _) ?_)
 exact meets_getattribute_miss_list a xs k #[] "keys" tk list_keys_none (by decide) (by size_fits) prog w A R s ⟨hx, h⟩
theorem noKeys {prog : Program} {w : World} {A : Around} {E : Value -> Shared -> Prop} {s : Shared} {a : Addr} {xs : Array Value} {k : Nat} {Q : Option Value -> Shared -> Prop} (hx : s.heap.get? a = some (seqObj "list" xs k)) (hA : A.handled = none)
  (h : ∀ h' tk, (∀ b o, s.heap.get? b = some o -> h'.get? b = some o) -> Q none { s with heap := h', toks := tk }) : wpAny (model prog w) A (getAttr? (.ref a) "keys") Q E s := by
 obtain ⟨hp, g, d, tk, os⟩ := s
 have ty : ∀ tk', (⟨hp, g, d, tk', os⟩ : Shared).TypeIs (.ref a) "list" := fun _ => ⟨_, hx, rfl⟩
 have f1 := sub_AttributeError
 have f2 := F.slot_list_getattribute.lookup
 have f3 := F.slot_list_getattribute.bind (.ref a)
 have f4 := am_list_getattr_none
 unfold getAttr? getAttrBy? getAttrBy
 repeat (any_goals (first | assumption | exact ty _ | wp_step))
 refine miss_keys hx ⟨hA, fun h' tk' e hx' => ?_⟩
 obtain ⟨t', u', he⟩ := hx'.there
 show wpAny _ _ (getattributeRaised _ _ _ _ _ _ _) _ _ _
 unfold getattributeRaised
 repeat (any_goals (first | assumption | wp_step))
 exact h _ _ hx'.keeps
end EvD
set_option Elab.async false
set_option linter.all false
set_option maxRecDepth 100000
namespace EvD
open PySem PySem.W PyProof.Rows
theorem entry_upl : entryFor table "dict.update.loop" = some Builtin.«dict.update.loop» := entryFor_of_tree (by kernel_rfl)
theorem plain_upl : plainId "dict.update.loop" = true := by decide +kernel
theorem upl_eq (d it : Addr) (i : Int) (tk : Tok) : Builtin.«dict.update.loop» ⟨[.ref d, .ref it, .int i tk, .none], []⟩ = (do
  let r <- pyNext (.ref it)
  match r with
  | none => do Builtin.Dict.addKeywords d []; ret .none
  | some item => do
   holding [item] (do
    let pair <- (Builtin.Dict.pairItems item).tryCatch fun e => do
     if !(<- isInstance e (.type "TypeError")) then throw e
     rule "dict.update.element-no-sequence"
     raiseError "TypeError" s!"cannot convert dictionary update sequence element #{i} to a sequence"
    match pair with
    | [k, v] => holding [k, v] (dictSet d k v)
    | l => do
     rule "dict.update.element-length"
     raiseError "ValueError" s!"dictionary update sequence element #{i} has length {l.length}; 2 is required")
   again (.builtin "dict.update.loop" ⟨[.ref d, .ref it, rawInt (i + 1), .none], []⟩)) := by
 unfold Builtin.«dict.update.loop»
 refine congrArg (fun f => pyNext (.ref it) >>= f) (funext fun r => ?_)
 cases r <;> rfl
section
variable {prog : Program} {w : World} {K : Type} [DecidableEq K] {knd : PySem.KeyKind prog w K} {A : Around}
def PairsIn (knd : PySem.KeyKind prog w K) (h : Heap) : List Value -> List (K × Value) -> Prop := Paired fun v p => ∃ a key, v = .ref a /\ IsTup h a #[key, p.2] /\ knd.is p.1 key = true
def mergeP (kvs : List (K × Value)) (ps : List (K × Value)) : List (K × Value) := ps.foldl (fun acc p => stored acc p.1 p.2) kvs
theorem stored_len (kvs : List (K × Value)) (k : K) (v : Value) : (stored kvs k v).length <= kvs.length + 1 := by
 unfold stored
 split
 ·simp
 ·simp
theorem tup_ne_iter {h : Heap} {b it l : Addr} {i : Nat} {ys : Array Value} (t : IsTup h b ys) (q : h.IsListIter it l i) : b ≠ it := fun z => by
 obtain ⟨o, ho, hc, _⟩ := t
 obtain ⟨o2, ho2, hc2, _⟩ := q
 subst z
 rw [ho] at ho2
 cases ho2
 rw [hc] at hc2
 exact absurd hc2 (by decide)
theorem tup_ne_dict {h : Heap} {b d : Addr} {ys : Array Value} {kvs : List (K × Value)} (t : IsTup h b ys) (q : h.DictOf knd d kvs) : b ≠ d := fun z => by
 obtain ⟨o, ho, hc, _⟩ := t
 obtain ⟨o2, es, ep, ho2, hc2, _⟩ := q
 subst z
 rw [ho] at ho2
 cases ho2
 have hc3 := hc2.1
 rw [hc] at hc3
 exact absurd hc3 (by decide)
theorem dict_stay {h h' : Heap} {d : Addr} {kvs : List (K × Value)} (q : h.DictOf knd d kvs) (k : ∀ o, h.get? d = some o -> h'.get? d = some o) : h'.DictOf knd d kvs := by
 obtain ⟨o, es, ep, ho, r⟩ := q
 exact ⟨o, es, ep, k _ ho, r⟩
theorem upl_step {it l d a : Addr} {i : Nat} {its : List Value} {key x : Value} {k : K} {kvs : List (K × Value)} {s : Shared} {R : Result -> Shared -> Prop} {tk : Tok} (hdi : d ≠ it) (hi : its.toArray[i]? = some (.ref a)) (ht : IsTup s.heap a #[key, x]) (hk : knd.is k key = true)
  (hit : s.heap.IsListIter it l i) (hl : s.heap.IsList l its.toArray) (hd : s.heap.DictOf knd d kvs) (hz : kvs.length <= 1000)
  (hR : ∀ h2, h2.DictOf knd d (stored kvs k x) -> (∀ b o, b ≠ d -> b ≠ it -> s.heap.get? b = some o -> h2.get? b = some o) -> h2.IsListIter it l (i + 1) -> codeAny (model prog w) A (.builtin "dict.update.loop" ⟨[.ref d, .ref it, rawInt ((i : Int) + 1), .none], []⟩) R { s with heap := h2, toks := s.toks + 1 }) :
  codeAny (model prog w) A (.builtin "dict.update.loop" ⟨[.ref d, .ref it, .int i tk, .none], []⟩) R s := by
 refine codeAny_builtin entry_upl ?_
 rw [Around.under_plainId plain_upl _, upl_eq]
 refine wpAny_bind (wpAny_pyNext_list_item hit hl hi fun h1 hit1 hs1 => ?_)
 obtain ⟨ot, hot, hct, nt, hdt⟩ := id ht
 have hot1 : h1.get? a = some ot := hs1.extBut _ _ (tup_ne_iter ht hit) hot
 refine wpAny_bind (wpAny_holding (wpAny_bind (wpAny_tryCatch ?_)))
 unfold Builtin.Dict.pairItems
 refine wpAny_bind (wpAny_typeOf (T := "tuple") ⟨ot, hot1, hct⟩ ?_)
 rw [if_pos (by decide)]
 unfold seqItems?
 refine wpAny_bind (wpAny_bind (wpAny_load hot1 ?_))
 rw [hdt]
 refine wpAny_pure (wpAny_pure ?_)
 refine (show wpAny _ _ (holding [key, x] (dictSet d key x)) _ _ _ from wpAny_holding (wpAny_dictSet_pairs hk (dict_stay hd fun o q => hs1.extBut _ _ hdi q) (fun h2 hd2 hs2 => ?_) (by have := sizeLine_eq; omega)))
 exact wpAny_pure ⟨plainId_quiet plain_upl _, hR h2 hd2 (fun b o h3 h4 q => hs2.extBut _ _ h3 (hs1.extBut _ _ h4 q)) (hit1.extBut hs2.extBut (Ne.symm hdi))⟩
theorem upl_end {it l d : Addr} {i : Nat} {its : List Value} {kvs : List (K × Value)} {s : Shared} {R : Result -> Shared -> Prop} {tk : Tok} (hdi : d ≠ it) (hh : A.handled = none) (hi : its.toArray[i]? = none)
  (hit : s.heap.IsListIter it l i) (hl : s.heap.IsList l its.toArray) (hd : s.heap.DictOf knd d kvs)
  (hR : ∀ h', h'.DictOf knd d kvs -> (∀ b o, b ≠ it -> s.heap.get? b = some o -> h'.get? b = some o) -> R (.ok (.ret .none)) { s with heap := h' }) :
  codeAny (model prog w) A (.builtin "dict.update.loop" ⟨[.ref d, .ref it, .int i tk, .none], []⟩) R s := by
 refine codeAny_builtin entry_upl ?_
 rw [Around.under_plainId plain_upl _, upl_eq]
 refine wpAny_bind (wpAny_pyNext_list_end hh hit hl hi fun h' he => ?_)
 exact wpAny_bind (m := Builtin.Dict.addKeywords d []) (wpAny_pure (wpAny_pure (hR h' (dict_stay hd fun o q => he _ _ hdi q) fun b o hb q => he b o hb q)))
theorem upl_go {it l d : Addr} (hil : l ≠ it) (hdi : d ≠ it) (hdl : d ≠ l) (hh : A.handled = none) {its : List Value} (rest : List Value) : ∀ (ps : List (K × Value)) (i : Nat) (kvs : List (K × Value)) (s : Shared) (R : Result -> Shared -> Prop) (tk : Tok), its.drop i = rest -> PairsIn knd s.heap rest ps ->
  s.heap.IsListIter it l i -> s.heap.IsList l its.toArray -> s.heap.DictOf knd d kvs -> kvs.length + ps.length <= 1000 ->
  (∀ h' tk', h'.DictOf knd d (mergeP kvs ps) -> (∀ b o, b ≠ d -> b ≠ it -> s.heap.get? b = some o -> h'.get? b = some o) -> R (.ok (.ret .none)) { s with heap := h', toks := tk' }) ->
  codeAny (model prog w) A (.builtin "dict.update.loop" ⟨[.ref d, .ref it, .int i tk, .none], []⟩) R s := by
 induction rest with
 | nil =>
  intro ps i kvs s R tk e hp hit hl hd hz hR
  cases hp
  have hi : its.toArray[i]? = none := by
   have := congrArg List.length e
   simp only [List.length_drop, List.length_nil] at this
   simp
   omega
  exact upl_end hdi hh hi hit hl hd fun h' hd' kp => hR h' s.toks hd' fun b o _ hb q => kp b o hb q
 | cons v rest ih =>
  intro ps i kvs s R tk e hp hit hl hd hz hR
  cases hp with
  | @cons _ p _ ps h0 hr =>
  obtain ⟨a, key, hv, ht, hk⟩ := h0
  obtain ⟨k, x⟩ := p
  subst hv
  have hi : its.toArray[i]? = some (.ref a) := by
   have q : (its.drop i)[0]? = some (.ref a) := by rw [e]; rfl
   rw [List.getElem?_drop] at q
   simpa using q
  have e' : its.drop (i + 1) = rest := by
   rw [<- List.drop_drop, e]
   rfl
  simp only [List.length_cons] at hz
  refine upl_step hdi hi ht hk hit hl hd (by omega) fun h2 hd2 kp hit2 => ?_
  have c1 : ((i : Int) + 1) = ((i + 1 : Nat) : Int) := by omega
  rw [c1]
  refine ih ps (i + 1) (stored kvs k x) _ R 0 e' (L2.Paired.mapP hr fun v p ⟨b, ky, e1, t1, k1⟩ => ⟨b, ky, e1, ?_, k1⟩) hit2 (hl.at fun o q => kp _ _ (Ne.symm hdl) hil q) hd2 (by have := stored_len kvs k x; omega) fun h' tk' hd' kp' => hR h' tk' hd' fun b o h3 h4 q => kp' b o h3 h4 (kp b o h3 h4 q)
  obtain ⟨o, ho, r⟩ := id t1
  exact ⟨o, kp _ _ (tup_ne_dict t1 hd) (tup_ne_iter t1 hit) ho, r⟩
theorem call_dict_of {E : Value -> Shared -> Prop} {s : Shared} {l : Addr} {its : List Value} {n : Nat} {ps : List (K × Value)} {Q : Value -> Shared -> Prop} (hh : A.handled = none) (ho : s.heap.get? l = some (seqObj "list" its.toArray n)) (hp : PairsIn knd s.heap its ps) (hz : ps.length <= 1000)
  (h : ∀ h' tk', h'.DictOf knd s.heap.objs.size (mergeP [] ps) -> (∀ b o, s.heap.get? b = some o -> h'.get? b = some o) -> Q (.ref s.heap.objs.size) { s with heap := h', toks := tk' }) :
  wpAny (model prog w) A (call (.type "dict") [.ref l]) Q E s := by
 refine callType_codes (Q₁ := fun obj s₁ => obj = .ref s.heap.objs.size /\ s₁ = { s with heap := s.heap.push { cls := .type "dict", data := .dict #[] } }) F.kt_called_dict (F.kt_typeCall_dict_1 _) F.entry_dict_init (kt_code_dict_new _ ⟨rfl, rfl⟩) ?_
 rintro obj s₁ ⟨rfl, rfl⟩
 have hnew : (s.heap.push { cls := .type "dict", data := .dict #[] }).DictOf knd s.heap.objs.size [] := Heap.DictOf.new s.heap
 have hl1 : (s.heap.push { cls := .type "dict", data := .dict #[] }).get? l = some (seqObj "list" its.toArray n) := Heap.get?_push_of_some _ ho
 refine ⟨hnew.typeIs, F.args_dict_init_2 _ _, ?_⟩
 unfold Builtin.«dict.__init__» Builtin.Dict.selfAndRest
 refine wpAny_bind (wpAny_bind (wpAny_notOrdered_dict hnew.typeIs ?_))
 refine (show wpAny _ _ (pure (s.heap.objs.size, [Value.ref l])) _ _ _ from wpAny_pure ?_)
 refine (show wpAny _ _ (Builtin.Dict.updateFrom "dict.__init__" s.heap.objs.size (.ref l) [] .none) _ _ _ from ?_)
 unfold Builtin.Dict.updateFrom
 refine wpAny_bind (wpAny_typeOf (T := "list") ⟨_, hl1, rfl⟩ ?_)
 rw [if_pos (by decide)]
 refine wpAny_bind (noKeys hl1 hh fun h2 tk2 k2 => ?_)
 simp only [Option.isNone_none, if_true]
 have hl2 : h2.get? l = some (seqObj "list" its.toArray n) := k2 _ _ hl1
 refine wpAny_bind (wpAny_rule (wpAny_bind (wpAny_pyIter_list ⟨_, hl2, rfl, _, rfl⟩ ?_)))
 refine wpAny_pure ⟨plainId_quiet plain_upl _, ?_⟩
 have all : ∀ {b o}, s.heap.get? b = some o -> (h2.push { cls := .type "list_iterator", data := .fields #[.ref l, .int 0 0] }).get? b = some o := fun q => Heap.get?_push_of_some _ (k2 _ _ (Heap.get?_push_of_some _ q))
 have hd2 : h2.DictOf knd s.heap.objs.size [] := by
  obtain ⟨o, es, ep, ho, r⟩ := hnew
  exact ⟨o, es, ep, k2 _ _ ho, r⟩
 have sz2 : s.heap.objs.size < h2.objs.size := by
  obtain ⟨o, es, ep, ho, r⟩ := hd2
  exact Heap.lt_size ho
 have lz : l < s.heap.objs.size := Heap.lt_size ho
 refine upl_go (A := A.in1) (knd := knd) (its := its) (it := h2.objs.size) (l := l) (d := s.heap.objs.size) (Nat.ne_of_lt (Nat.lt_trans lz sz2)) (Nat.ne_of_lt sz2) (Nat.ne_of_gt lz) hh its ps 0 [] _ _ 0 rfl (L2.Paired.mapP hp fun v p ⟨b, ky, e1, t1, k1⟩ => ⟨b, ky, e1, t1.keeps fun b o q => all q, k1⟩)
  ⟨_, Heap.get?_push_size _ rfl, rfl, rfl⟩ ⟨_, Heap.get?_push_of_some _ hl2, rfl, _, rfl⟩ (by
   obtain ⟨o, es, ep, ho, r⟩ := hd2
   exact ⟨o, es, ep, Heap.get?_push_of_some _ ho, r⟩) (by simpa using hz) fun h' tk' hd' kp => ⟨rfl, h h' tk' hd' fun b o q => ?_⟩
 have bl : b < s.heap.objs.size := Heap.lt_size q
 exact kp b o (Nat.ne_of_lt bl) (Nat.ne_of_lt (Nat.lt_trans bl sz2)) (all q)
end
end EvD
set_option Elab.async false
set_option linter.all false
set_option maxRecDepth 100000
namespace L2
open PySem PySem.Spec PyProof.Rows PySem.W EvS EvD
theorem TupsAt.same {K : PySem.W.Frag} {H H' : Hp} {ys : List V} {ks : List (List Key)} (t : TupsAt K H ys ks) (e : Same H H') : TupsAt K H' ys ks := Paired.mapP t fun y k ⟨a, z, q⟩ => ⟨a, z, e _ _ q⟩
theorem Same.new {H : Hp} {l : Addr} {o : HO} (h : H l = none) : Same H (upd H l o) := fun b u e => by rw [upd_ne (ne_of_none e h)]; exact e
section
variable {X : Cx} {pins : List (Addr × Obj)} {σ : St} {H H' : Hp} {s : Shared} {h' : Heap} {t' : Nat}
theorem Inv.many (I : Inv X pins σ H s) (k : ∀ b o, s.heap.get? b = some o -> h'.get? b = some o) (hold : Same H H') (hnew : ∀ b, H b = none -> b < s.heap.objs.size -> H' b = none)
  (hob : ∀ b o, H' b = some o -> H b = none -> ∃ xs its, o = .tup xs /\ xs.length <= sizeLine /\ Vals xs its /\ IsTup h' b its.toArray /\ ∃ o, h'.get? b = some o /\ o.dict = none) : Inv X pins σ H' { s with heap := h', toks := t' } := by
 refine I.un ⟨fun b o q _ _ _ => k b o q, fun b o q _ _ _ => ⟨o.slots, k b o q⟩, fun b o q n _ => hnew b n (Heap.lt_size q), fun b o q _ => ⟨o, k b o q⟩, fun b xs q => hold b _ q, fun b o u q => hold b _ q, fun b ps q => ⟨#[], by rw [Array.append_empty]; exact hold b _ q⟩⟩ fun b o q => ?_
 cases e : H b with
 | some u =>
  have e2 := hold b u e
  rw [q] at e2
  cases e2
  exact (I.hok b o e).stay (fun c v _ z => k c v z) (fun c z => hold c _ z) fun c xs z => hold c _ z
 | none =>
  obtain ⟨xs, its, rfl, z, r, t⟩ := hob b o q e
  exact ⟨z, its, r, t⟩
end
section
variable {X : Cx} {pins : List (Addr × Obj)} {σ : St} {H : Hp} {s : Shared} {A : Around} {E : Value -> Shared -> Prop}
theorem items_vals {P : Nat -> Value -> Prop} {acc : Array Value} {ys : List V} (h : ItemsOf P acc ys.length) (hp : ∀ (j : Nat) v, P j v -> ∀ y, ys[j]? = some y -> RelV y v) : Vals ys acc.toList := by
 have gen : ∀ (ys : List V) (vs : List Value), ys.length = vs.length -> (∀ (j : Nat) y v, ys[j]? = some y -> vs[j]? = some v -> RelV y v) -> Vals ys vs := fun ys => by
  induction ys with
  | nil =>
   intro vs hl _
   cases vs with
   | nil => exact .nil
   | cons _ _ => cases hl
  | cons y ys ih =>
   intro vs hl h
   cases vs with
   | nil => cases hl
   | cons v vs => exact .cons (h 0 y v rfl rfl) (ih vs (by simpa using hl) fun j y v a b => h (j + 1) y v (by simpa using a) (by simpa using b))
 refine gen ys acc.toList (by rw [Array.length_toList]; exact h.1.symm) fun j y v a b => hp j v (h.2 j v ?_) y a
 rw [<- Array.getElem?_toList]
 exact b
theorem src_dK {d : Addr} {kvs : List (Key × V)} (I : Inv X pins σ H s) (h : Rd H d (.dK kvs)) : ∃ (P : Nat -> Value -> Prop) (OK : Heap -> Prop), KdlSrc X.prog X.w "dict" d d (kvs.map fun kv => kV kv.1).length P OK /\ OK s.heap /\ ∀ (j : Nat) v, P j v -> ∀ y, (kvs.map fun kv => kV kv.1)[j]? = some y -> RelV y v := by
 obtain ⟨z, hd, vs, rel, dd⟩ := dk_rd I.hok h
 obtain ⟨ep, dat⟩ := dd.dictAt
 have hl := rel.length
 refine ⟨fun i v => ∃ k x, vs[i]? = some (k, x) /\ (mixKind X.prog X.w).is k v = true, fun h => h.DictAt (mixKind X.prog X.w) d vs ep, (by rw [List.length_map, hl]; exact kdl_dict (knd := mixKind X.prog X.w) (kvs := vs) (ep := ep) hd), dat, fun j v ⟨k, x, e, hk⟩ y hy => ?_⟩
 rw [List.getElem?_map] at hy
 have ek : kvs.map (·.1) = vs.map (·.1) := rel.keys
 have e2 : (kvs.map (·.1))[j]? = (vs.map (·.1))[j]? := by rw [ek]
 rw [List.getElem?_map, List.getElem?_map, e] at e2
 cases e3 : kvs[j]? with
 | none => rw [e3] at e2; cases e2
 | some kv =>
  rw [e3] at e2 hy
  have e4 : kv.1 = k := Option.some.inj e2
  have e5 : kV kv.1 = y := Option.some.inj hy
  rw [<- e5, e4]
  have hk : keyIs k v = true := hk
  rcases keyIs_shape hk with ⟨i, t, rfl, rfl⟩ | ⟨x, t, rfl, rfl⟩
  ·exact ⟨t, rfl⟩
  ·exact ⟨t, rfl⟩
theorem src_dT {d : Addr} {kvs : List (List Key × V)} (I : Inv X pins σ H s) (h : Rd H d (.dT kvs)) : ∃ (ys : List V) (P : Nat -> Value -> Prop) (OK : Heap -> Prop), TupsAt X.K H ys (kvs.map (·.1)) /\ ys.length <= sizeLine /\ KdlSrc X.prog X.w "dict" d d ys.length P OK /\ OK s.heap /\ ∀ (j : Nat) v, P j v -> ∀ y, ys[j]? = some y -> RelV y v := by
 obtain ⟨z, hd, xs, rel, o, es, ep, ho, hc, hdat, hes, nd⟩ := h.ok I.hok
 have l1 : es.size = xs.length := by
  have := congrArg List.length hes
  simpa using this
 have l2 := Paired.length rel
 refine ⟨xs.map fun x => V.ref x.2.1, fun i v => ∃ h : i < es.size, v = es[i].key, fun h => Raw h d es ep, ?_, by rw [List.length_map]; omega, (by rw [List.length_map, <- l1]; exact raw_src (es := es) (ep := ep) hd), ⟨o, ho, hc, hdat⟩, fun j v ⟨hj, e⟩ y hy => ?_⟩
 ·have gen : ∀ {kvs : List (List Key × V)} {xs : List (List Key × Addr × Value)}, KT H kvs xs -> TupsAt X.K H (xs.map fun x => V.ref x.2.1) (kvs.map (·.1)) := fun {kvs xs} r => by
   induction r with
   | nil => exact .nil
   | cons h _ ih => exact .cons ⟨_, rfl, h.2.1⟩ ih
  exact gen rel
 ·rw [List.getElem?_map] at hy
  have hx : j < xs.length := by omega
  rw [List.getElem?_eq_getElem hx] at hy
  have e1 : V.ref xs[j].2.1 = y := Option.some.inj hy
  have e2 : es[j] = entryOfKey (tupleKind (mixKind X.prog X.w)) xs[j] := by
   have e3 : es.toList[j]? = (xs.map (entryOfKey (tupleKind (mixKind X.prog X.w))))[j]? := by rw [hes]
   rw [List.getElem?_map, List.getElem?_eq_getElem hx, Array.getElem?_toList, Array.getElem?_eq_getElem hj] at e3
   exact Option.some.inj e3
  rw [<- e1, e, e2]
  rfl
theorem col_dT {d : Addr} {kvs : List (List Key × V)} {R : List Value -> Shared -> Prop} (hh : A.handled = none) (I : Inv X pins σ H s) (h : Rd H d (.dT kvs)) (q : ∀ ys vs s1, Inv X pins σ H s1 -> Vals ys vs -> TupsAt X.K H ys (kvs.map (·.1)) -> R vs s1) : wpAny (model X.prog X.w) A (collect (.ref d)) R E s := by
 obtain ⟨ys, P, OK, t, z, S, ok, hp⟩ := src_dT I h
 exact kdu_collect S hh ok z fun h' tk acc k a => q ys _ _ (I.kept k) (items_vals a hp) t
def itemsV (v d : Addr) : HO := .ext fun h => h.IsItemsView v d
def valuesV (v d : Addr) : HO := .ext fun h => h.IsValuesView v d
def PairsAt (K : PySem.W.Frag) (H : Hp) : List V -> List (Key × V) -> Prop := Paired fun y p => ∃ a, y = V.ref a /\ H a = some (.tup [kV p.1, p.2])
theorem col_items {v d : Addr} {kvs : List (Key × V)} {R : List Value -> Shared -> Prop} (hh : A.handled = none) (I : Inv X pins σ H s) (hv : H v = some (itemsV v d)) (h : Rd H d (.dK kvs)) (q : ∀ H1 ys vs s1, Inv X pins σ H1 s1 -> Same H H1 -> Vals ys vs -> PairsAt X.K H1 ys kvs -> R vs s1) :
  wpAny (model X.prog X.w) A (collect (.ref v)) R E s := by
 obtain ⟨z, hd, vs, rel, dd⟩ := dk_rd I.hok h
 obtain ⟨ep, dat⟩ := dd.dictAt
 obtain ⟨iv, _, _⟩ := I.hok v _ hv
 have hl := rel.length
 refine kdx_collect (knd := mixKind X.prog X.w) (kvs := vs) (ep := ep) hh iv dat (by omega) fun h' tk as k la G => ?_
 have up : ∀ b, b ∈ as -> s.heap.objs.size < b := G.above
 have at1 : ∀ (j : Nat) b p, as[j]? = some b -> kvs[j]? = some p -> ∃ its, Vals [kV p.1, p.2] its /\ IsTup h' b its.toArray /\ ∃ o, h'.get? b = some o /\ o.dict = none := fun j b p hj hp => by
  obtain ⟨key, kk, x, e1, e2, e3⟩ := G.pairs j b hj
  have gen : ∀ {kvs : List (Key × V)} {vs : List (Key × Value)}, KV kvs vs -> ∀ (j : Nat), vs[j]? = some (kk, x) -> kvs[j]? = some p -> p.1 = kk /\ RelV p.2 x := fun {kvs vs} r => by
   induction r with
   | nil => intro j e; simp at e
   | @cons p' q _ _ h _ ih =>
    intro j e e'
    cases j with
    | zero =>
     have e : q = (kk, x) := by simpa using e
     have e' : p' = p := by simpa using e'
     subst e'
     rw [e] at h
     exact h
    | succ j => exact ih j (by simpa using e) (by simpa using e')
  obtain ⟨g1, g2⟩ := gen rel j e1 hp
  refine ⟨[key, x], .cons ?_ (.cons g2 .nil), ⟨_, e3, rfl, _, rfl⟩, _, e3, rfl⟩
  rw [g1]
  have e2 : keyIs kk key = true := e2
  rcases keyIs_shape e2 with ⟨i, t, rfl, rfl⟩ | ⟨x, t, rfl, rfl⟩
  ·exact ⟨t, rfl⟩
  ·exact ⟨t, rfl⟩
 have look : ∀ {as : List Addr} {kvs : List (Key × V)}, as.Pairwise (· < ·) -> ∀ (j : Nat) b p, as[j]? = some b -> kvs[j]? = some p -> (as.zip kvs).lookup b = some p := fun {as} => by
  induction as with
  | nil => intro kvs _ j b p e; simp at e
  | cons a as ih =>
   intro kvs pw j b p e e'
   cases kvs with
   | nil => simp at e'
   | cons q kvs =>
    obtain ⟨p1, p2⟩ := List.pairwise_cons.mp pw
    show ((a, q) :: as.zip kvs).lookup b = some p
    cases j with
    | zero =>
     have e : a = b := by simpa using e
     have e' : q = p := by simpa using e'
     subst e
     subst e'
     rw [List.lookup_cons_self]
    | succ j =>
     have e : as[j]? = some b := by simpa using e
     have e' : kvs[j]? = some p := by simpa using e'
     have lt := p1 b (List.mem_of_getElem? e)
     rw [List.lookup_cons, show (b == a) = false by simp only [beq_eq_false_iff_ne]; exact Nat.ne_of_gt lt]
     exact ih p2 j b p e e'
 have lk : as.length = kvs.length := by omega
 let H1 : Hp := fun b => if b ∈ as then ((as.zip kvs).lookup b).map fun p => HO.tup [kV p.1, p.2] else H b
 have h1in : ∀ (j : Nat) b p, as[j]? = some b -> kvs[j]? = some p -> H1 b = some (.tup [kV p.1, p.2]) := fun j b p e e' => by
  show (if b ∈ as then _ else _) = _
  rw [if_pos (List.mem_of_getElem? e), look G.rise j b p e e']
  rfl
 have h1out : ∀ b, b ∉ as -> H1 b = H b := fun b hb => if_neg hb
 have old : ∀ b, b < s.heap.objs.size -> b ∉ as := fun b hb m => absurd (up b m) (by omega)
 refine q H1 (as.map V.ref) _ _ (I.many (t' := tk) k (fun b o e => by rw [h1out b (old b (I.hok.lt e))]; exact e) (fun b e hb => by rw [h1out b (old b hb)]; exact e) fun b o e e0 => ?_) (fun b o e => by rw [h1out b (old b (I.hok.lt e))]; exact e) ?_ ?_
 ·by_cases m : b ∈ as
  ·obtain ⟨j, hj⟩ := List.mem_iff_getElem?.mp m
   have jl : j < kvs.length := by
    have := (List.getElem?_eq_some_iff.mp hj).1
    omega
   have e' := h1in j b kvs[j] hj (List.getElem?_eq_getElem jl)
   rw [e] at e'
   cases e'
   obtain ⟨its, r, t⟩ := at1 j b _ hj (List.getElem?_eq_getElem jl)
   exact ⟨_, its, rfl, by show 2 <= sizeLine; decide, r, t⟩
  ·rw [h1out b m, e0] at e
   cases e
 ·have gen : ∀ as : List Addr, Vals (as.map V.ref) (as.map Value.ref) := fun as => by
   induction as with
   | nil => exact .nil
   | cons a as ih => exact .cons rfl ih
  exact gen as
 ·have gen : ∀ (as' : List Addr) (kvs' : List (Key × V)), as'.length = kvs'.length -> (∀ (j : Nat) b p, as'[j]? = some b -> kvs'[j]? = some p -> H1 b = some (.tup [kV p.1, p.2])) -> PairsAt X.K H1 (as'.map V.ref) kvs' := fun as' => by
   induction as' with
   | nil =>
    intro kvs' hl _
    cases kvs' with
    | nil => exact .nil
    | cons _ _ => cases hl
   | cons a as' ih =>
    intro kvs' hl h
    cases kvs' with
    | nil => cases hl
    | cons p kvs' => exact .cons ⟨a, rfl, h 0 a p rfl rfl⟩ (ih kvs' (by simpa using hl) fun j b p e e' => h (j + 1) b p (by simpa using e) (by simpa using e'))
  exact gen as kvs lk h1in
end
end L2
set_option Elab.async false
set_option linter.all false
set_option maxRecDepth 100000
namespace L2
open PySem PySem.Spec PyProof.Rows PySem.W EvS EvD
section
variable {X : Cx} {pins : List (Addr × Obj)} {σ : St} {H : Hp} {s : Shared}
theorem tups_put {K : PySem.W.Frag} {H : Hp} {ys : List V} {ks : List (List Key)} (t : TupsAt K H ys ks) : ∀ l : List Nat, (∀ i ∈ l, i < ys.length) -> TupsAt K H (l.map fun i => ys.getD i .non) (l.map fun i => ks.getD i []) := fun l => by
 induction l with
 | nil => exact fun _ => .nil
 | cons i l ih =>
  intro h
  refine .cons ?_ (ih fun j hj => h j (List.mem_cons_of_mem _ hj))
  have hi := h i List.mem_cons_self
  have gen : ∀ {ys : List V} {ks : List (List Key)} (i : Nat), i < ys.length -> TupsAt K H ys ks -> ∃ a, ys.getD i .non = V.ref a /\ H a = some (.tup ((ks.getD i []).map kV)) := fun {ys ks} i hy t => by
   induction t generalizing i with
   | nil => exact absurd hy (by simp)
   | cons h t ih =>
    cases i with
    | zero => exact h
    | succ i => exact ih i (by simpa using hy)
  exact gen i hi t
theorem sorted_tups' {u : Value} {ks : List (List Key)} {sh : List Bool} {Q : VK} (h64 : ks.length < 64) (al : Alike ks sh)
  (hcol : wpAny (model X.prog X.w) X.A.in1 (collect u) (fun vs s1 => ∃ H1 ys, Inv X pins σ H1 s1 /\ Vals ys vs /\ TupsAt X.K H1 ys ks /\ ∀ l zs, H1 l = none -> TupsAt X.K H1 zs (sortKs ks) -> zs.Perm ys -> Q (.ref l) (upd H1 l (.lst zs))) X.xe s) :
  wpAny (model X.prog X.w) X.A (call (.builtin "sorted") [u]) (EP X pins σ Q) X.xe s := by
 refine sorted_raw (ord_keys ks) (thn hcol fun vs s1 ⟨H1, ys, I1, r, t, q⟩ => ?_)
 have l1 := r.length
 have l2 := Paired.length t
 have hl : vs.length = ks.length := by omega
 refine ⟨by omega, fun h2 h' k => asks_tups I1 r t al h2 k, fun p h' e g up hD kp => ?_⟩
 have g' : Good ks.length p := by rw [<- hl]; exact g
 have asc := asc_put (ks := ks) (fun i j _ _ => rfl) g' (by rw [<- hl]; exact up)
 have perm : (p.toList.map fun i => ks.getD i []).Perm ks := by
  have := map_put_perm g' fun i => ks.getD i []
  rwa [map_range_getD] at this
 have es := sortKs_eq perm asc
 have inr : ∀ i ∈ p.toList, i < ys.length := fun i hi => by
  have m : i ∈ (List.range vs.length).toArray := g.mem_iff.mp (by simpa using hi)
  rw [<- l1] at m
  simpa using m
 have tz := tups_put t p.toList inr
 rw [es] at tz
 have rv := vals_put r g
 have pz : (p.toList.map fun i => ys.getD i .non).Perm ys := by
  have := map_put_perm (n := ys.length) (by rw [l1]; exact g) fun i => ys.getD i .non
  rwa [map_range_getD] at this
 refine ⟨.ref s1.heap.objs.size, _, I1.laid (t' := s1.toks) kp (Nat.le_refl _) (show ObjOk X.prog X.w _ h' _ (.lst (p.toList.map fun i => ys.getD i .non)) from ⟨?_, putBy p vs, e, rv, hD⟩), rfl, q _ _ (I1.hok.fresh (Nat.le_refl _)) tz pz⟩
 rw [pz.length_eq]
 have := sizeLine_eq
 omega
end
section
variable {X : Cx}
def rSortDT (K : PySem.W.Frag) : List V -> Hp -> VK -> Prop := fun xs H Q => ∃ d kvs sh, xs = [.ref d] /\ H d = some (.dT kvs) /\ Alike (kvs.map (·.1)) sh /\ kvs.length < 64 /\ ∀ l zs, H l = none -> TupsAt K H zs (sortKs (kvs.map (·.1))) -> Q (.ref l) (upd H l (.lst zs))
theorem call_sortDT (hc : X.calm = true) : CallR X (.builtin "sorted") (rSortDT X.K) := by
 intro pins s σ H xs us Q I r h
 obtain ⟨d, kvs, sh, rfl, hd, al, h64, q⟩ := h
 obtain ⟨u, rfl, ru⟩ := vals1 r
 cases ru
 exact sorted_tups' (by rw [List.length_map]; exact h64) al (col_dT (I.ok.hd hc) I (.inl hd) fun ys vs s1 I1 r1 t => ⟨H, ys, I1, r1, t, fun l zs n t' _ => q l zs n t'⟩)
def rSortI (K : PySem.W.Frag) : List V -> Hp -> VK -> Prop := fun xs H Q => ∃ (v d : Addr) (kvs : List (Key × V)) (ks : List (Key × Key)) (sh : List Bool), xs = [.ref v] /\ H v = some (itemsV v d) /\ H d = some (.dK kvs) /\ kvs = ks.map (fun k : Key × Key => (k.1, kV k.2)) /\ Alike (ks.map fun k => [k.1, k.2]) sh /\ ks.length < 64 /\
 ∀ l H1 zs, Same H H1 -> H1 l = none -> TupsAt K H1 zs (sortKs (ks.map fun k => [k.1, k.2])) -> Q (.ref l) (upd H1 l (.lst zs))
theorem call_sortI (hc : X.calm = true) : CallR X (.builtin "sorted") (rSortI X.K) := by
 intro pins s σ H xs us Q I r h
 obtain ⟨v, d, kvs, ks, sh, rfl, hv, hd, ek, al, h64, q⟩ := h
 obtain ⟨u, rfl, ru⟩ := vals1 r
 cases ru
 refine sorted_tups' (by rw [List.length_map]; exact h64) al (col_items (I.ok.hd hc) I hv (.inl hd) fun H1 ys vs s1 I1 sm r1 t => ⟨H1, ys, I1, r1, ?_, fun l zs n t' _ => q l H1 zs sm n t'⟩)
 subst ek
 have gen : ∀ (ks : List (Key × Key)) (ys : List V), PairsAt X.K H1 ys (ks.map (fun k : Key × Key => (k.1, kV k.2))) -> TupsAt X.K H1 ys (ks.map fun k => [k.1, k.2]) := fun ks => by
  induction ks with
  | nil =>
   intro ys t
   cases t
   exact .nil
  | cons k ks ih =>
   intro ys t
   cases t with
   | cons h t => exact .cons h (ih _ t)
 exact gen ks ys t
def rListD : List V -> Hp -> VK -> Prop := fun xs H Q => ∃ d kvs, xs = [.ref d] /\ Rd H d (.dK kvs) /\ ∀ l, H l = none -> Q (.ref l) (upd H l (.lst (kvs.map fun kv => kV kv.1)))
theorem call_listD (hc : X.calm = true) : CallR X (.type "list") rListD := by
 intro pins s σ H xs us Q I r h
 obtain ⟨d, kvs, rfl, hd, q⟩ := h
 obtain ⟨u, rfl, ru⟩ := vals1 r
 cases ru
 obtain ⟨P, OK, S, ok, hp⟩ := src_dK I hd
 have z := (dk_rd I.hok hd).1
 refine kdl_call S (I.ok.hd hc) ok (by rw [List.length_map]; exact z) fun h' tk acc c k hD a => ?_
 refine ⟨.ref s.heap.objs.size, _, I.laid (t' := tk) k (Nat.le_refl _) (show ObjOk X.prog X.w _ h' _ (.lst (kvs.map fun kv => kV kv.1)) from ⟨by rw [List.length_map]; exact z, acc.toList, c, items_vals a hp, by rw [Array.toArray_toList]; exact hD⟩), rfl, q _ I.fresh⟩
theorem KV.mergeP {κ : Type} [DecidableEq κ] : ∀ {more : List (κ × V)} {rs : List (κ × Value)} {kvs : List (κ × V)} {vs : List (κ × Value)}, KV more rs -> KV kvs vs -> KV (more.foldl (fun acc kv => putK acc kv.1 kv.2) kvs) (EvD.mergeP vs rs) := fun {more rs kvs vs} h => by
 induction h generalizing kvs vs with
 | nil => exact fun h => h
 | @cons p q _ _ h _ ih =>
  intro h2
  obtain ⟨k, y⟩ := p
  obtain ⟨k', u⟩ := q
  obtain ⟨h1, h3⟩ := h
  have h1 : k = k' := h1
  subst h1
  exact ih (h2.put k h3)
def rDictOf (K : PySem.W.Frag) : List V -> Hp -> VK -> Prop := fun xs H Q => ∃ p ys kvs, xs = [.ref p] /\ H p = some (.lst ys) /\ PairsAt K H ys kvs /\ kvs.length <= 1000 /\ ∀ l, H l = none -> Q (.ref l) (upd H l (.dK (mergeK [] kvs)))
theorem call_dictOf (hc : X.calm = true) : CallR X (.type "dict") (rDictOf X.K) := by
 intro pins s σ H xs us Q I r h
 obtain ⟨p, ys, kvs, rfl, hp, t, hz, q⟩ := h
 obtain ⟨u, rfl, ru⟩ := vals1 r
 cases ru
 obtain ⟨z, its, n, rv, hl, ho⟩ := I.lstM hp
 have gen : ∀ {ys : List V} {its : List Value} {kvs : List (Key × V)}, Vals ys its -> PairsAt X.K H ys kvs -> ∃ ps, KV kvs ps /\ PairsIn (mixKind X.prog X.w) s.heap its ps := fun {ys its kvs} rv t => by
  induction t generalizing its with
  | nil =>
   cases rv
   exact ⟨[], .nil, .nil⟩
  | @cons y p ys kvs h t ih =>
   cases rv with
   | cons r0 rv =>
    obtain ⟨ps, h1, h2⟩ := ih rv
    obtain ⟨a, e, sq⟩ := h
    subst e
    cases r0
    obtain ⟨tv, rt, it, _⟩ := I.tuple (SqT.of sq)
    obtain ⟨key, x, e2, rk, rx⟩ := vals2 rt
    subst e2
    refine ⟨(p.1, x) :: ps, Paired.cons (show p.1 = p.1 /\ RelV p.2 x from ⟨rfl, rx⟩) h1, Paired.cons (show ∃ a' key', Value.ref a = .ref a' /\ IsTup s.heap a' #[key', x] /\ (mixKind X.prog X.w).is p.1 key' = true from ⟨a, key, rfl, it, kV_is rk⟩) h2⟩
 obtain ⟨ps, h1, h2⟩ := gen rv t
 have lp := KV.length h1
 refine call_dict_of (knd := mixKind X.prog X.w) (I.ok.hd hc) ho h2 (by omega) fun h' tk hd kp => ?_
 refine ⟨.ref s.heap.objs.size, _, I.laid (t' := tk) kp (Nat.le_refl _) (dk_new ?_ (beq_eq_false_iff_ne.mpr (Ne.symm (Nat.ne_of_lt I.big))) (KV.mergeP h1 .nil) hd), rfl, q _ I.fresh⟩
 have := length_mergeK kvs []
 have := sizeLine_eq
 simp only [List.length_nil] at *
 show (mergeK [] kvs).length <= sizeLine
 omega
theorem bools_of : ∀ {bs : List Bool} {vs : List Value}, Vals (bs.map V.bl) vs -> vs = bs.map Value.bool
 | [], _, .nil => rfl
 | b :: bs, _, .cons h t => by
  cases h
  rw [bools_of t]
  rfl
def rAll (K : PySem.W.Frag) (g : List Bool -> Bool) : List V -> Hp -> VK -> Prop := fun xs H Q => ∃ p bs, xs = [.ref p] /\ SqL K H p (bs.map V.bl) /\ Q (.bl (g bs)) H
theorem call_all (hc : X.calm = true) : CallR X (.builtin "all") (rAll X.K fun bs => bs.all id) := by
 intro pins s σ H xs us Q I r h
 obtain ⟨p, bs, rfl, hp, q⟩ := h
 obtain ⟨u, rfl, ru⟩ := vals1 r
 cases ru
 obtain ⟨its, rv, pl, z⟩ := I.list hp
 obtain rfl := bools_of rv
 have hl := pl.isList
 have lt : p < s.heap.objs.size := by obtain ⟨_, e, _⟩ := hl; exact Heap.lt_size e
 refine call_all_walk (wpAny_pyIter_list hl ⟨s.heap.objs.size, [s.heap.objs.size, p], [s.heap.objs.size], (bs.map Value.bool).toArray.size, _, _, fun i => (bs[i]?).getD true, rfl, Walks.list (A := X.A.in1) (I.ok.hd hc) _ p (Nat.ne_of_lt lt) _, ⟨⟨_, Heap.get?_push_size _ rfl, rfl, rfl⟩, hl.push _⟩, fun i v s' Q' E' hP hQ => ?_, fun h' tk hk => ?_⟩)
 ·have hP : (bs.map Value.bool).toArray[i]? = some v := hP
  simp only [List.getElem?_toArray, List.getElem?_map] at hP
  cases e : bs[i]? with
  | none => rw [e] at hP; cases hP
  | some b =>
   have hQ : Q' ((bs[i]?).getD true) s' := hQ
   rw [e] at hP hQ
   cases hP
   exact wpAny_truthy_bool hQ
 ·have e : ((List.range (bs.map Value.bool).toArray.size).all fun i => (bs[i]?).getD true) = bs.all id := by
   rw [List.size_toArray, List.length_map]
   exact LSm.range_all bs
  rw [e]
  exact ⟨.bl _, H, I.kept (LSm.kept_iter hk), rfl, q⟩
theorem call_any (hc : X.calm = true) : CallR X (.builtin "any") (rAll X.K fun bs => bs.any id) := by
 intro pins s σ H xs us Q I r h
 obtain ⟨p, bs, rfl, hp, q⟩ := h
 obtain ⟨u, rfl, ru⟩ := vals1 r
 cases ru
 obtain ⟨its, rv, pl, z⟩ := I.list hp
 obtain rfl := bools_of rv
 have hl := pl.isList
 have lt : p < s.heap.objs.size := by obtain ⟨_, e, _⟩ := hl; exact Heap.lt_size e
 refine call_any_walk (wpAny_pyIter_list hl ⟨s.heap.objs.size, [s.heap.objs.size, p], [s.heap.objs.size], (bs.map Value.bool).toArray.size, _, _, fun i => (bs[i]?).getD false, rfl, Walks.list (A := X.A.in1) (I.ok.hd hc) _ p (Nat.ne_of_lt lt) _, ⟨⟨_, Heap.get?_push_size _ rfl, rfl, rfl⟩, hl.push _⟩, fun i v s' Q' E' hP hQ => ?_, fun h' tk hk => ?_⟩)
 ·have hP : (bs.map Value.bool).toArray[i]? = some v := hP
  simp only [List.getElem?_toArray, List.getElem?_map] at hP
  cases e : bs[i]? with
  | none => rw [e] at hP; cases hP
  | some b =>
   have hQ : Q' ((bs[i]?).getD false) s' := hQ
   rw [e] at hP hQ
   cases hP
   exact wpAny_truthy_bool hQ
 ·have e : ((List.range (bs.map Value.bool).toArray.size).any fun i => (bs[i]?).getD false) = bs.any id := by
   rw [List.size_toArray, List.length_map]
   exact LSm.range_any bs
  rw [e]
  exact ⟨.bl _, H, I.kept (LSm.kept_iter hk), rfl, q⟩
theorem ints_of : ∀ {ns : List Int} {vs : List Value}, Vals (ns.map V.int) vs -> IntsAre vs ns
 | [], _, .nil => .nil
 | n :: ns, _, .cons h t => by
  obtain ⟨tk, rfl⟩ := h
  exact .cons _ _ (ints_of t)
def rMax (K : PySem.W.Frag) : List V -> Hp -> VK -> Prop := fun xs H Q => ∃ (p : Addr) (ns : List Int), xs = [.ref p] /\ SqL K H p (ns.map V.int) /\ 0 < ns.length /\ ∀ m, m ∈ ns -> (∀ a ∈ ns, a <= m) -> Q (.int m) H
theorem call_max (hc : X.calm = true) : CallR X (.builtin "max") (rMax X.K) := by
 intro pins s σ H xs us Q I r h
 obtain ⟨p, ns, rfl, hp, hn, q⟩ := h
 obtain ⟨u, rfl, ru⟩ := vals1 r
 cases ru
 obtain ⟨its, rv, pl, z⟩ := I.list hp
 have hi := ints_of rv
 obtain ⟨xs, e⟩ := hi.allInts.items
 have hl := pl.isList
 have hns : ns = xs.toList.map (·.1) := by rw [<- hi.numsOf, <- nums_intItems, <- e]
 have hsz : 0 < xs.size := by
  have h3 := hn
  rw [hns] at h3
  simpa using h3
 rw [e] at hl
 refine max_intList (I.ok.hd hc) hl hsz fun v h' tk hv hk => ?_
 obtain ⟨t, rfl⟩ := intItems_at hv
 obtain ⟨h1, h2⟩ := argBest_gt (numAt xs) (xs.size - 1)
 refine ⟨.int _, H, I.kept hk, ⟨t, rfl⟩, q _ ?_ fun a ha => ?_⟩
 ·rw [hns, numAt_eq]
  exact getD_mem (by rw [List.length_map, Array.length_toList]; omega)
 ·rw [hns] at ha
  obtain ⟨j, hj, rfl⟩ := mem_getD ha
  rw [List.length_map, Array.length_toList] at hj
  rw [<- numAt_eq]
  exact h2 j (by omega)
end
end L2
set_option Elab.async false
set_option linter.all false
set_option maxRecDepth 100000
namespace EvN
open PySem PySem.SeqAt PyProof.Rows
open AutoSeq1 (wpAny_loadPart')
open MeetsSeq MeetsSeq2 MeetsSeq3 SeqRoads2
theorem ne_go (l b : Addr) (xs ys : Array Value) (n m : Nat) (dl db : Option Addr) (sl sb : Array (Option Value)) (hs : xs.size = ys.size) (e : Nat -> Bool) (k : Nat) :
  ∀ i : Nat, xs.size - i = k -> Meets (Builtin.«list.__eq__.loop» ⟨[.ref l, .ref b, rawInt i, rawInt 3], []⟩)
   (fun A R s => (s.heap.get? l = some { cls := .type "list", dict := dl, data := .seq xs n, slots := sl } /\ s.heap.get? b = some { cls := .type "list", dict := db, data := .seq ys m, slots := sb }) /\
    (∀ j (h1 : j < xs.size) (h2 : j < ys.size), EqAt A.in1 s xs[j] ys[j] (e j)) /\ R (.ok (.ret (.bool (!((List.range xs.size).drop i).all e)))) s) := by
 induction k with
 | zero =>
  intro i hk prog w A R s ⟨⟨gl, gb⟩, he, h⟩
  obtain ⟨hp, g, d, tk, os⟩ := s
  wp_walk using wpAny_loadPart' gl, wpAny_loadPart' gb
  rw [show xs[((i : Nat) : Int).toNat]? = none by simp; omega, show ys[((i : Nat) : Int).toNat]? = none by simp; omega]
  rw [show (List.range xs.size).drop i = [] by simp; omega] at h
  wp_walk using wpAny_loadPart' gl, wpAny_loadPart' gb
  refine (show R (.ok (.ret (.bool (xs.size != ys.size)))) _ from ?_)
  rw [show (xs.size != ys.size) = false by simp [hs]]
  exact h
 | succ k ih =>
  intro i hk prog w A R s ⟨⟨gl, gb⟩, he, h⟩
  obtain ⟨hp, g, d, tk, os⟩ := s
  wp_walk using wpAny_loadPart' gl, wpAny_loadPart' gb
  have z1 : i < xs.size := by omega
  have z2 : i < ys.size := by omega
  have q1 : xs[((i : Nat) : Int).toNat]? = some xs[i] := by simp [z1]
  have q2 : ys[((i : Nat) : Int).toNat]? = some ys[i] := by simp [z2]
  rw [show (List.range xs.size).drop i = i :: (List.range xs.size).drop (i + 1) by simp [List.drop_eq_getElem_cons, z1], List.all_cons] at h
  rw [q1, q2]
  refine wpAny_bind (he i z1 z2 prog w _ _ ?_)
  cases c : e i with
  | true =>
   rw [c] at h
   wp_walk
   rw [show ((i : Int) + 1) = ((i + 1 : Nat) : Int) by omega]
   refine ⟨plainId_quiet plain_eq_loop _, codeAny_builtin entry_eq_loop ?_⟩
   rw [Around.under_plainId plain_eq_loop _]
   exact ih (i + 1) (by omega) prog w A R _ ⟨⟨gl, gb⟩, he, by simpa using h⟩
  | false =>
   rw [c] at h
   wp_walk using wpAny_loadPart' gl, wpAny_loadPart' gb
   rw [q1, q2]
   wp_walk
   simpa using h
theorem ne_lists (l b : Addr) (xs ys : Array Value) (n m : Nat) (dl db : Option Addr) (sl sb : Array (Option Value)) (hs : xs.size = ys.size) (e : Nat -> Bool) :
  Meets (Builtin.«list.__ne__» ⟨[.ref l, .ref b], []⟩)
   (fun A R s => (s.heap.get? l = some { cls := .type "list", dict := dl, data := .seq xs n, slots := sl } /\ s.heap.get? b = some { cls := .type "list", dict := db, data := .seq ys m, slots := sb }) /\
    (∀ j (h1 : j < xs.size) (h2 : j < ys.size), EqAt A.in1 s xs[j] ys[j] (e j)) /\ R (.ok (.ret (.bool (!(List.range xs.size).all e)))) s) := by
 intro prog w A R s ⟨⟨gl, gb⟩, he, h⟩
 obtain ⟨hp, g, d, tk, os⟩ := s
 have f3 := AutoSeq1.sub_list_list
 have no : ¬ (xs.size != ys.size) = true := by simp [hs]
 wp_walk using wpAny_loadPart' gl, wpAny_loadPart' gb
 refine ⟨plainId_quiet plain_eq_loop _, codeAny_builtin entry_eq_loop ?_⟩
 rw [Around.under_plainId plain_eq_loop _]
 exact ne_go l b xs ys n m dl db sl sb hs e _ 0 rfl prog w A R _ ⟨⟨gl, gb⟩, he, by simpa using h⟩
theorem ne_sizes (l b : Addr) (xs ys : Array Value) (n m : Nat) (dl db : Option Addr) (sl sb : Array (Option Value)) (hs : (xs.size != ys.size) = true) :
  Meets (Builtin.«list.__ne__» ⟨[.ref l, .ref b], []⟩)
   (fun A R s => (s.heap.get? l = some { cls := .type "list", dict := dl, data := .seq xs n, slots := sl } /\ s.heap.get? b = some { cls := .type "list", dict := db, data := .seq ys m, slots := sb }) /\ R (.ok (.ret (.bool true))) s) :=
 .of_wp fun prog w A R s ⟨⟨gl, gb⟩, h⟩ => by
  obtain ⟨hp, g, d, tk, os⟩ := s
  have f3 := AutoSeq1.sub_list_list
  wp_walk using wpAny_loadPart' gl, wpAny_loadPart' gb
  exact ⟨_, rfl, h⟩
section
variable {prog : Program} {w : World} {A : Around} {E : Value -> Shared -> Prop} {s : Shared}
theorem ne_listAt {l b : Addr} {xs ys : Array Value} {e : Nat -> Bool} {Q : Value -> Shared -> Prop} (hl : s.heap.IsList l xs) (hb : s.heap.IsList b ys) (hs : xs.size = ys.size) (hu : A.units < cLine)
  (he : ∀ j (h1 : j < xs.size) (h2 : j < ys.size), EqAt A.in1 s xs[j] ys[j] (e j)) (h : Q (.bool (!(List.range xs.size).all e)) s) : wpAny (model prog w) A (compareOp .NotEq (.ref l) (.ref b)) Q E s := by
 obtain ⟨⟨c1, d1, t1, l1⟩, o1, k1, n1, z1⟩ := id hl
 obtain ⟨⟨c2, d2, t2, l2⟩, o2, k2, n2, z2⟩ := id hb
 simp only at k1 z1 k2 z2
 subst k1 z1 k2 z2
 exact richCompare_meets_room (op := .NotEq) ⟨_, o1, rfl⟩ ⟨_, o2, rfl⟩ F.slot_list_ne F.entry_list_ne (F.args_list_ne_2 _ _) (ne_lists l b xs ys n1 n2 d1 d2 l1 l2 hs e) ⟨⟨o1, o2⟩, he, show Value.bool (!(List.range xs.size).all e) ≠ Value.notImplemented /\ Q (.bool (!(List.range xs.size).all e)) s from ⟨(fun x => nomatch x), h⟩⟩ hu
theorem ne_sizesAt {l b : Addr} {xs ys : Array Value} {Q : Value -> Shared -> Prop} (hl : s.heap.IsList l xs) (hb : s.heap.IsList b ys) (hs : (xs.size != ys.size) = true) (hu : A.units < cLine) (h : Q (.bool true) s) : wpAny (model prog w) A (compareOp .NotEq (.ref l) (.ref b)) Q E s := by
 obtain ⟨⟨c1, d1, t1, l1⟩, o1, k1, n1, z1⟩ := id hl
 obtain ⟨⟨c2, d2, t2, l2⟩, o2, k2, n2, z2⟩ := id hb
 simp only at k1 z1 k2 z2
 subst k1 z1 k2 z2
 exact richCompare_meets_room (op := .NotEq) ⟨_, o1, rfl⟩ ⟨_, o2, rfl⟩ F.slot_list_ne F.entry_list_ne (F.args_list_ne_2 _ _) (ne_sizes l b xs ys n1 n2 d1 d2 l1 l2 hs) ⟨⟨o1, o2⟩, show Value.bool true ≠ Value.notImplemented /\ Q (.bool true) s from ⟨(fun x => nomatch x), h⟩⟩ hu
end
end EvN
set_option Elab.async false
set_option linter.all false
set_option maxRecDepth 100000
namespace L2
open PySem PySem.Spec PyProof.Rows PySem.W EvS EvD
abbrev Rp (D : Type) := Hp -> V -> D -> Prop
structure Cmp (X : Cx) (n : Nat) {D : Type} [DecidableEq D] (R : Rp D) : Prop where
 eq : ∀ {pins : List (Addr × Obj)} {σ : St} {H : Hp} {s : Shared} {A : Around} {x y : V} {u v : Value} {d e : D}, Inv X pins σ H s -> RelV x u -> RelV y v -> R H x d -> R H y e -> A.units + n < cLine -> SeqAt.EqAt A s u v (decide (d = e))
 one : ∀ {pins : List (Addr × Obj)} {σ : St} {H : Hp} {s : Shared} {x : V} {d e : D}, Inv X pins σ H s -> R H x d -> R H x e -> d = e
def rS : Rp Str := fun _ x d => x = .str d
def r2 (K : PySem.W.Frag) {D1 D2 : Type} (R1 : Rp D1) (R2 : Rp D2) : Rp (D1 × D2) := fun H x d => ∃ a u v, x = .ref a /\ SqT K H a [u, v] /\ R1 H u d.1 /\ R2 H v d.2
def rL (K : PySem.W.Frag) {D : Type} (R : Rp D) : Rp (List D) := fun H x ds => ∃ a xs, x = .ref a /\ SqL K H a xs /\ Paired (R H) xs ds
section
variable {X : Cx}
theorem cmpS : Cmp X 0 rS where
 eq := fun {pins σ H s A x y u v d e} I ru rv hx hy hu => by
  have hx : x = .str d := hx
  have hy : y = .str e := hy
  subst hx
  subst hy
  have q := eqAt_V (A := A) (s := s) ru rv rfl rfl
  have e2 : eqV (.str d) (.str e) = decide (d = e) := by
   show (d == e) = _
   by_cases h : d = e
   ·subst h; simp
   ·simp [h]
  rwa [e2] at q
 one := fun {pins σ H s x d e} I hx hy => by
  have hx : x = .str d := hx
  have hy : x = .str e := hy
  rw [hx] at hy
  exact V.str.inj hy
theorem isTuple_of {h : Heap} {a : Addr} {its : Array Value} (t : IsTup h a its) : h.IsTuple a its := t
theorem cmp2 {n m : Nat} {D1 D2 : Type} [DecidableEq D1] [DecidableEq D2] {R1 : Rp D1} {R2 : Rp D2} (c1 : Cmp X n R1) (c2 : Cmp X m R2) : Cmp X (max n m + 1) (r2 X.K R1 R2) where
 one := fun {pins σ H s x d e} I hx hy => by
  obtain ⟨a, u, v, rfl, t, q1, q2⟩ := hx
  obtain ⟨b, u', v', e0, t', q1', q2'⟩ := hy
  cases e0
  have e1 := I.tuple_inj t t'
  cases e1
  exact Prod.ext (c1.one I q1 q1') (c2.one I q2 q2')
 eq := fun {pins σ H s A x y u v d e} I ru rv hx hy hu => by
  have hx' := hx
  have hy' := hy
  obtain ⟨a, x1, x2, rfl, t, q1, q2⟩ := hx
  obtain ⟨b, y1, y2, rfl, t', q1', q2'⟩ := hy
  cases ru
  cases rv
  by_cases hab : a = b
  ·subst hab
   have e1 := I.tuple_inj t t'
   cases e1
   have : d = e := Prod.ext (c1.one I q1 q1') (c2.one I q2 q2')
   rw [decide_eq_true this]
   exact SeqAt.EqAt.same _
  ·obtain ⟨its, r, it, _⟩ := I.tuple t
   obtain ⟨its', r', it', _⟩ := I.tuple t'
   obtain ⟨u1, u2, rfl, r1, r2⟩ := vals2 r
   obtain ⟨w1, w2, rfl, r1', r2'⟩ := vals2 r'
   have key := SeqAt.EqAt.of_refs hab (SeqAt.RcAt.tuples (A := A) (s := s) (e := fun j => if j = 0 then decide (d.1 = e.1) else decide (d.2 = e.2)) (isTuple_of it) (isTuple_of it') (by omega) fun j h1 h2 => by
    match j, h1, h2 with
    | 0, _, _ => exact c1.eq I r1 r1' q1 q1' (by show A.units + 1 + n < cLine; omega)
    | 1, _, _ => exact c2.eq I r2 r2' q2 q2' (by show A.units + 1 + m < cLine; omega))
   have e3 : ((List.range (min [u1, u2].toArray.size [w1, w2].toArray.size)).all (fun j => if j = 0 then decide (d.1 = e.1) else decide (d.2 = e.2)) && [u1, u2].toArray.size == [w1, w2].toArray.size) = decide (d = e) := by
    show (decide (d.1 = e.1) && (decide (d.2 = e.2) && true) && true) = _
    by_cases h1 : d.1 = e.1
    ·by_cases h2 : d.2 = e.2
     ·have : d = e := Prod.ext h1 h2
      simp [this]
     ·have : ¬ d = e := fun z => h2 (by rw [z])
      simp [h1, h2, this]
    ·have : ¬ d = e := fun z => h1 (by rw [z])
     simp [h1, this]
   rw [e3] at key
   exact key
theorem paired_get {α β : Type} {F : α -> β -> Prop} : ∀ {l : List α} {m : List β}, Paired F l m -> ∀ (i : Nat) (h1 : i < l.length) (h2 : i < m.length), F l[i] m[i]
 | _, _, .cons h t, 0, _, _ => h
 | _, _, .cons h t, i + 1, h1, h2 => paired_get t i (by simpa using h1) (by simpa using h2)
theorem all_range_eq {D : Type} [DecidableEq D] : ∀ {ds es : List D}, ds.length = es.length -> ((List.range ds.length).all fun j => decide (ds[j]? = es[j]?)) = decide (ds = es) := fun {ds es} hl => by
 by_cases h : ds = es
 ·subst h
  simp
 ·rw [decide_eq_false h]
  have : ∃ i, i < ds.length /\ ds[i]? ≠ es[i]? := by
   refine Classical.byContradiction fun hn => h ?_
   apply List.ext_getElem?
   intro i
   by_cases hi : i < ds.length
   ·exact Classical.byContradiction fun q => hn ⟨i, hi, q⟩
   ·rw [List.getElem?_eq_none (by omega), List.getElem?_eq_none (by omega)]
  obtain ⟨i, hi, q⟩ := this
  rw [List.all_eq_false]
  exact ⟨i, by simpa using hi, by simpa using q⟩
theorem items_eq {D : Type} [DecidableEq D] {n : Nat} {R : Rp D} (c : Cmp X n R) {pins : List (Addr × Obj)} {σ : St} {H : Hp} {s : Shared} {A : Around} (I : Inv X pins σ H s) {xs ys : List V} {us vs : List Value} {ds es : List D} (ru : Vals xs us) (rv : Vals ys vs) (hx : Paired (R H) xs ds) (hy : Paired (R H) ys es) (hu : A.units + n < cLine) :
  ∀ j (h1 : j < us.toArray.size) (h2 : j < vs.toArray.size), SeqAt.EqAt A s us.toArray[j] vs.toArray[j] (decide (ds[j]? = es[j]?)) := fun j h1 h2 => by
 have l1 := ru.length
 have l2 := rv.length
 have l3 := Paired.length hx
 have l4 := Paired.length hy
 simp only [List.size_toArray] at h1 h2
 have q := c.eq (A := A) I (paired_get ru j (by omega) h1) (paired_get rv j (by omega) h2) (paired_get hx j (by omega) (by omega)) (paired_get hy j (by omega) (by omega)) hu
 have e : decide (ds[j]? = es[j]?) = decide (ds[j]'(by omega) = es[j]'(by omega)) := by
  rw [List.getElem?_eq_getElem (by omega), List.getElem?_eq_getElem (by omega)]
  by_cases z : ds[j]'(by omega) = es[j]'(by omega)
  ·simp [z]
  ·simp [z]
 rw [e]
 exact q
def rEqD {D : Type} [DecidableEq D] (R : Rp D) (neg : Bool) : V -> V -> Hp -> VK -> Prop := fun x y H Q => ∃ d e, R H x d /\ R H y e /\ Q (.bl (if neg then !decide (d = e) else decide (d = e))) H
theorem op_eqL {n : Nat} {D : Type} [DecidableEq D] {R : Rp D} (c : Cmp X n R) (hu : X.A.units + n + 1 < cLine) : OpR X (compareOp .Eq) (rEqD (rL X.K R) false) := by
 intro pins s σ H x y v u Q I rx ry h
 obtain ⟨d, e, ⟨a, xs, rfl, t, q⟩, ⟨b, ys, rfl, t', q'⟩, hq⟩ := h
 cases rx
 cases ry
 obtain ⟨us, r, pl, _⟩ := I.list t
 obtain ⟨vs, r', pl', _⟩ := I.list t'
 have l1 := r.length
 have l2 := r'.length
 have l3 := Paired.length q
 have l4 := Paired.length q'
 by_cases hl : d.length = e.length
 ·refine SeqAt.eq_listAt pl.isList pl'.isList (by simp only [List.size_toArray]; omega) (by omega) (items_eq c I r r' q q' (A := X.A.in1) (by show X.A.units + 1 + n < cLine; omega)) ⟨.bl _, H, I, rfl, ?_⟩
  rw [show us.toArray.size = d.length by simp only [List.size_toArray]; omega, all_range_eq hl]
  exact hq
 ·refine SeqAt.eq_list_lengthsAt pl.isList pl'.isList (by simp only [List.size_toArray, bne_iff_ne]; omega) (by omega) ⟨.bl _, H, I, rfl, ?_⟩
  have hq : Q (.bl (decide (d = e))) H := hq
  rwa [decide_eq_false (fun z => hl (by rw [z]))] at hq
theorem op_neL {n : Nat} {D : Type} [DecidableEq D] {R : Rp D} (c : Cmp X n R) (hu : X.A.units + n + 1 < cLine) : OpR X (compareOp .NotEq) (rEqD (rL X.K R) true) := by
 intro pins s σ H x y v u Q I rx ry h
 obtain ⟨d, e, ⟨a, xs, rfl, t, q⟩, ⟨b, ys, rfl, t', q'⟩, hq⟩ := h
 cases rx
 cases ry
 obtain ⟨us, r, pl, _⟩ := I.list t
 obtain ⟨vs, r', pl', _⟩ := I.list t'
 have l1 := r.length
 have l2 := r'.length
 have l3 := Paired.length q
 have l4 := Paired.length q'
 have hq : Q (.bl (!decide (d = e))) H := hq
 by_cases hl : d.length = e.length
 ·refine EvN.ne_listAt pl.isList pl'.isList (by simp only [List.size_toArray]; omega) (by omega) (items_eq c I r r' q q' (A := X.A.in1) (by show X.A.units + 1 + n < cLine; omega)) ⟨.bl _, H, I, rfl, ?_⟩
  rw [show us.toArray.size = d.length by simp only [List.size_toArray]; omega, all_range_eq hl]
  exact hq
 ·refine EvN.ne_sizesAt pl.isList pl'.isList (by simp only [List.size_toArray, bne_iff_ne]; omega) (by omega) ⟨.bl _, H, I, rfl, ?_⟩
  rwa [decide_eq_false (fun z => hl (by rw [z]))] at hq
def rInD (K : PySem.W.Frag) {D : Type} [DecidableEq D] (R : Rp D) (neg : Bool) : V -> V -> Hp -> VK -> Prop := fun x y H Q => ∃ d es, R H x d /\ rL K R H y es /\ Q (.bl (if neg then !decide (d ∈ es) else decide (d ∈ es))) H
theorem any_of {D : Type} [DecidableEq D] {n : Nat} {R : Rp D} (c : Cmp X n R) {pins : List (Addr × Obj)} {σ : St} {H : Hp} {s : Shared} {A : Around} (I : Inv X pins σ H s) {x : V} {u : Value} {d : D} (ru : RelV x u) (hx : R H x d) (hu : A.units + n < cLine) : ∀ {ys : List V} {vs : List Value} {es : List D}, Vals ys vs -> Paired (R H) ys es ->
  ∃ f : Value -> Bool, (∀ w ∈ vs, SeqAt.EqAt A s w u (f w)) /\ vs.any f = decide (d ∈ es) := fun {ys vs es} rv hy => by
 let f : Value -> Bool := fun w => @decide (∃ y e, RelV y w /\ R H y e /\ e = d) (Classical.propDecidable _)
 have sound : ∀ y w e, RelV y w -> R H y e -> f w = decide (e = d) := fun y w e h1 h2 => by
  by_cases z : e = d
  ·rw [decide_eq_true z]
   exact @decide_eq_true _ (Classical.propDecidable _) ⟨y, e, h1, h2, z⟩
  ·rw [decide_eq_false z]
   refine @decide_eq_false _ (Classical.propDecidable _) fun ⟨y', e', g1, g2, g3⟩ => z ?_
   have : y' = y := RelV.inj g1 h1
   subst this
   rw [<- g3]
   exact c.one I h2 g2
 refine ⟨f, ?_, ?_⟩
 ·induction rv generalizing es with
  | nil => exact fun w hw => nomatch hw
  | cons h t ih =>
   cases hy with
   | cons g t' =>
    intro w hw
    rcases List.mem_cons.mp hw with rfl | hw
    ·rw [sound _ _ _ h g]
     exact c.eq I h ru g hx hu
    ·exact ih t' w hw
 ·induction rv generalizing es with
  | nil =>
   cases hy
   simp
  | cons h t ih =>
   cases hy with
   | @cons _ e _ es g t' =>
    rw [List.any_cons, ih t', sound _ _ _ h g]
    by_cases z : e = d
    ·subst z
     simp
    ·by_cases z2 : d ∈ es
     ·simp [z2]
     ·have : ¬ d ∈ e :: es := fun q => by
       rcases List.mem_cons.mp q with q | q
       ·exact z q.symm
       ·exact z2 q
      rw [decide_eq_false z, decide_eq_false z2, decide_eq_false this]
      rfl
theorem op_inD {n : Nat} {D : Type} [DecidableEq D] {R : Rp D} (c : Cmp X n R) (hu : X.A.units + n + 1 < cLine) : OpR X (compareOp .In) (rInD X.K R false) := by
 intro pins s σ H x y v u Q I rx ry h
 obtain ⟨d, es, hx, ⟨a, ys, rfl, t, q⟩, hq⟩ := h
 cases ry
 obtain ⟨us, r, pl, _⟩ := I.list t
 obtain ⟨f, h1, h2⟩ := any_of c I (A := X.A.in1) rx hx (by show X.A.units + 1 + n < cLine; omega) r q
 refine SeqAt.in_listAt f pl.isList (fun w hw => h1 w (by simpa using hw)) ⟨.bl _, H, I, rfl, ?_⟩
 rw [show us.toArray.any f = us.any f by simp, h2]
 exact hq
end
end L2
set_option Elab.async false
set_option linter.all false
set_option maxRecDepth 100000
namespace L2
open PySem PySem.Spec PyProof.Rows PySem.W EvS EvD
section
variable {X : Cx}
def rIsi (K : PySem.W.Frag) : List V -> Hp -> VK -> Prop := fun xs H Q => ∃ x T t b, xs = [x, .ty T] /\ TyOf K H x t /\ PySem.W.kitOne K t (.type T) = some b /\ Q (.bl b) H
theorem call_isi : CallR X (.builtin "isinstance") (rIsi X.K) := by
 intro pins s σ H xs us Q I r h
 obtain ⟨x, T, t, b, rfl, ty, e, q⟩ := h
 obtain ⟨u, w', rfl, ru, rw'⟩ := vals2 r
 cases (show w' = Value.type T from rw')
 exact isinst_ok I ru ty e fun tk => ⟨.bl b, H, I.tok tk, rfl, q⟩
theorem op_le_str : OpR X (compareOp .LtE) (fun x y H Q => ∃ i j, x = .str i /\ y = .str j /\ Q (.bl (!decide (j.cps.toList < i.cps.toList))) H) := by
 intro pins s σ H x y v u Q I rx ry h
 obtain ⟨i, j, rfl, rfl, q⟩ := h
 obtain ⟨t, rfl⟩ := rx
 obtain ⟨t', rfl⟩ := ry
 exact PySem.P.le_str ⟨.bl _, H, I, rfl, q⟩
def tView (mk : Addr -> Addr -> HO) (td : TE) : TE := fun σ H Q => td σ H fun x H1 => ∃ d kvs, x = .ref d /\ H1 d = some (.dK kvs) /\ ∀ v, H1 v = none -> Q (.ref v) (upd H1 v (mk v d))
theorem view_ok {pins : List (Addr × Obj)} {σ : St} {H : Hp} {s : Shared} {d : Addr} {cls : String} (I : Inv X pins σ H s) (φ : Heap -> Prop) (hφ : φ (s.heap.push { cls := .type cls, data := .fields #[.ref d] })) (hs : ∀ h1 h2 : Heap, φ h1 -> (∀ o, h1.get? s.heap.objs.size = some o -> h2.get? s.heap.objs.size = some o) -> φ h2) :
  Inv X pins σ (upd H s.heap.objs.size (.ext φ)) { s with heap := s.heap.push { cls := .type cls, data := .fields #[.ref d] } } :=
 I.laid (t' := s.toks) (fun _ _ q => Heap.get?_push_of_some _ q) (Nat.le_refl _) ⟨hφ, ⟨_, Heap.get?_push_size _ rfl⟩, hs⟩
theorem pe_items {o : Expr} {td : TE} {apos cpos : Pos} (ho : PE X o td) (hbase : attributeBase o "items" X.env (eval o X.env) = eval o X.env := by rfl) (hline : (apos.endLine == cpos.line) = true := by rfl) : PE X (.Call (.Attribute o "items" apos) [] [] cpos) (tView itemsV td) := by
 intro pins s σ H Q I h
 refine wpAny_Call_method0_late hbase hline (thn (ho pins s σ H _ I h) fun v s1 ⟨x, H1, I1, r1, d, kvs, e, hd, q⟩ => ?_)
 subst e
 cases r1
 obtain ⟨t1, t2, t3⟩ := isD_at I1 (.inl ⟨kvs, .inl hd⟩)
 obtain ⟨_, _, vs, rel, dd⟩ := dk_of I1.hok hd
 refine ⟨"dict", "dict.items", PySem.F.plainAttrs_dict, PySem.F.slot_dict_items, PySem.F.type_dict_items, t1, t2, Calls.callWith_builtin rfl (PySem.evalArgs_none ?_)⟩
 refine call_meetsIn PySem.F.slot_dict_items t1 PySem.F.entry_dict_items (PySem.F.args_dict_items_1 _) (meets_dict_items (mixKind X.prog X.w) d t3) ⟨⟨vs, dd⟩, ?_⟩
 exact ⟨.ref _, _, view_ok I1 _ ⟨_, Heap.get?_push_size _ rfl, rfl, rfl⟩ fun h1 h2 ⟨o, e, r⟩ k => ⟨o, k o e, r⟩, rfl, q _ I1.fresh⟩
theorem pe_values {o : Expr} {td : TE} {apos cpos : Pos} (ho : PE X o td) (hbase : attributeBase o "values" X.env (eval o X.env) = eval o X.env := by rfl) (hline : (apos.endLine == cpos.line) = true := by rfl) : PE X (.Call (.Attribute o "values" apos) [] [] cpos) (tView valuesV td) := by
 intro pins s σ H Q I h
 refine wpAny_Call_method0_late hbase hline (thn (ho pins s σ H _ I h) fun v s1 ⟨x, H1, I1, r1, d, kvs, e, hd, q⟩ => ?_)
 subst e
 cases r1
 obtain ⟨t1, t2, t3⟩ := isD_at I1 (.inl ⟨kvs, .inl hd⟩)
 obtain ⟨_, _, vs, rel, dd⟩ := dk_of I1.hok hd
 refine ⟨"dict", "dict.values", PySem.F.plainAttrs_dict, PySem.F.slot_dict_values, PySem.F.type_dict_values, t1, t2, Calls.callWith_builtin rfl (PySem.evalArgs_none ?_)⟩
 refine call_meetsIn PySem.F.slot_dict_values t1 PySem.F.entry_dict_values (PySem.F.args_dict_values_1 _) (meets_dict_values (mixKind X.prog X.w) d t3) ⟨⟨vs, dd⟩, ?_⟩
 exact ⟨.ref _, _, view_ok I1 _ ⟨_, Heap.get?_push_size _ rfl, rfl, rfl⟩ fun h1 h2 ⟨o, e, r⟩ k => ⟨o, k o e, r⟩, rfl, q _ I1.fresh⟩
end
section
variable {X : Cx} {pins : List (Addr × Obj)} {σ : St} {H : Hp} {s : Shared} {d : Addr} {kvs : List (Key × V)}
theorem Inv.freeze (I : Inv X pins σ H s) (h : H d = some (.dK kvs)) : ∃ o, s.heap.get? d = some o /\ Inv X pins σ (upd H d (.frz o (.dK kvs))) s := by
 obtain ⟨z, hd, vs, rel, dd⟩ := dk_of I.hok h
 obtain ⟨o, es, ep, ho, r⟩ := id dd
 have other : ∀ {b u}, H b = some u -> u ≠ .dK kvs -> upd H d (.frz o (.dK kvs)) b = some u := fun {b u} e ne => by rw [upd_ne (ne_of e h ne)]; exact e
 refine ⟨o, ho, I.un (h' := s.heap) (t' := s.toks) ⟨fun b u q _ _ _ => q, fun b u q _ _ _ => ⟨u.slots, q⟩, fun b u q n _ => ?_, fun b u q _ => ⟨u, q⟩, fun b xs q => other q (by simp), fun b u v q => other q (by simp), fun b ps q => ⟨#[], by rw [Array.append_empty]; exact other q (by simp)⟩⟩ fun b u q => ?_⟩
 ·by_cases e : b = d
  ·subst e; rw [h] at n; cases n
  ·rw [upd_ne e]; exact n
 ·by_cases e : b = d
  ·subst e
   rw [upd_same] at q
   cases q
   exact ⟨ho, z, hd, vs, rel, dd⟩
  ·rw [upd_ne e] at q
   exact (I.hok b u q).stay (fun c v _ z => z) (fun c z => other z (by simp)) fun c xs z => other z (by simp)
theorem Inv.thaw {o : Obj} (I : Inv X pins σ H s) (h : H d = some (.frz o (.dK kvs))) (h0 : ∀ o u, X.H₀ d ≠ some (.frz o u)) : Inv X pins σ (upd H d (.dK kvs)) s := by
 have other : ∀ {b u}, H b = some u -> (∀ o v, u ≠ .frz o v) -> upd H d (.dK kvs) b = some u := fun {b u} e ne => by rw [upd_ne (ne_of e h (ne _ _))]; exact e
 have none' : ∀ {b}, H b = none -> upd H d (.dK kvs) b = none := fun {b} e => by
  rw [upd_ne (fun z => by subst z; rw [h] at e; cases e)]; exact e
 refine ⟨I.ok, I.os, I.bare, ⟨I.base.keep, I.base.slot, fun b u q n hx => none' (I.base.free b u q n hx), I.base.there, fun b xs q => other (I.base.tups b xs q) (by simp), fun b u v q => ?_, fun b ps q => ?_⟩, I.loc, I.cell, none' I.free, fun x c e => none' (I.freeC x c e), fun p hp => ?_, fun b u q => ?_, I.len⟩
 ·have := I.base.frzs b u v q
  rw [upd_ne (fun z => by subst z; exact h0 _ _ q)]
  exact this
 ·obtain ⟨more, e⟩ := I.base.tbls b ps q
  exact ⟨more, other e (by simp)⟩
 ·obtain ⟨a1, a2, a3⟩ := I.pin p hp
  exact ⟨a1, none' a2, a3⟩
 ·by_cases e : b = d
  ·subst e
   rw [upd_same] at q
   cases q
   obtain ⟨ho, z, hd, vs, rel, dd⟩ := I.hok b _ h
   exact ⟨z, hd, vs, rel, dd⟩
  ·rw [upd_ne e] at q
   exact (I.hok b u q).stay (fun c v _ z => z) (fun c z => other z (by simp)) fun c xs z => other z (by simp)
end
def tThaw (t : TE) : TE := fun σ H Q => ∃ d kvs, H d = some (.dK kvs) /\ t σ H fun v H1 => ∃ o, H1 d = some (.frz o (.dK kvs)) /\ Q v (upd H1 d (.dK kvs))
theorem pe_thaw {X : Cx} {e : Expr} {t : TE} (h : PE X e t) : PE X e (tThaw t) := by
 intro pins s σ H Q I q
 obtain ⟨d, kvs, hd, q⟩ := q
 refine thn (h pins s σ H _ I q) fun u s' ⟨v, H1, I1, r, o, hf, q1⟩ => ⟨v, _, I1.thaw hf (fun o u z => ?_), r, q1⟩
 have := I.base.frzs _ _ _ z
 rw [hd] at this
 cases this
def Itv (d : Addr) (o : Obj) (kvs : List (Key × V)) : It := ⟨fun i H => H d = some (.frz o (.dK kvs)) /\ i < kvs.length, fun i H x H' => H' = H /\ ∃ k, kvs[i]? = some (k, x), fun i H => H d = some (.frz o (.dK kvs)) /\ kvs.length <= i⟩
theorem dictAt_frz {X : Cx} {pins : List (Addr × Obj)} {σ : St} {H : Hp} {s : Shared} {d : Addr} {kvs : List (Key × V)} {o : Obj} {es : Array DictEntry} {ep : Nat} (I : Inv X pins σ H s) (h : H d = some (.frz o (.dK kvs))) (ho : o.data = .dict es ep) : ∃ vs, KV kvs vs /\ s.heap.DictAt (mixKind X.prog X.w) d vs ep := by
 obtain ⟨e, z, hd, vs, rel, o', es', ep', e', c', d', r⟩ := I.hok d _ h
 rw [e] at e'
 cases e'
 rw [ho] at d'
 cases d'
 exact ⟨vs, rel, o, es, e, c', ho, r⟩
theorem kv_get {κ : Type} {kvs : List (κ × V)} {vs : List (κ × Value)} (r : KV kvs vs) : ∀ (i : Nat) {k : κ} {x : V}, kvs[i]? = some (k, x) -> ∃ u, vs[i]? = some (k, u) /\ RelV x u := by
 induction r with
 | nil => intro i k x e; simp at e
 | @cons p q _ _ h _ ih =>
  intro i k x e
  cases i with
  | zero =>
   have e : p = (k, x) := by simpa using e
   subst e
   refine ⟨q.2, ?_, h.2⟩
   rw [List.getElem?_cons_zero]
   have h1 : k = q.1 := h.1
   rw [h1]
  | succ i => exact ih i (by simpa using e)
theorem turn_vals {P : Program} {w : World} {K : PySem.W.Frag} {tg : Expr} (d it : Addr) (o : Obj) (kvs : List (Key × V)) {es : Array DictEntry} {ep : Nat} (ho : o.data = .dict es ep) : Turn P w K tg (Itv d o kvs) [it] it (fun i h => h.IsValIter it d i kvs.length ep) where
 mem := by simp
 obj := fun i h st b hb => by
  obtain rfl : b = it := by simpa using hb
  obtain ⟨o, e, c, d⟩ := st
  exact ⟨o, e, fun v z => by rw [d] at z; cases z⟩
 keep := fun i h h' st k => st.at fun o e => k it (by simp) o e
 item := by
  intro X hP hw hK hc i pins s σ H E I hf st hg
  subst hP hw hK
  obtain ⟨hd, hi⟩ := hg
  obtain ⟨vs, rel, dat⟩ := dictAt_frz I hd ho
  obtain ⟨⟨k, x⟩, hx⟩ : ∃ p, kvs[i]? = some p := ⟨kvs[i], by simp [hi]⟩
  obtain ⟨u, hu, ru⟩ := kv_get rel i hx
  obtain ⟨f0, f1, f2, f3, f4, f5⟩ := hf it (by simp)
  rw [rel.length] at st
  refine wpAny_pyNext_values_item st dat hu fun h' st' sb => ?_
  have I1 : Inv X pins σ H { s with heap := h' } := I.turned (t' := s.toks) (fun b o hb e => (sb.2 b hb).trans e) f0 f1 f3 f4 f5
  obtain ⟨o', e, c, dd⟩ := id st'
  refine ⟨u, rfl, go_of (s := { s with heap := h' }) e c dd (by decide) ⟨x, H, I1, ru, ⟨rfl, k, hx⟩, ?_, fun b hb => (hf b hb).1⟩⟩
  show h'.IsValIter it d (i + 1) kvs.length ep
  rw [rel.length]
  exact st'
 done := by
  intro X hP hw hK hc i pins s σ H E I hf st hg
  subst hP hw hK
  obtain ⟨hd, hi⟩ := hg
  obtain ⟨vs, rel, dat⟩ := dictAt_frz I hd ho
  obtain ⟨f0, f1, f2, f3, f4, f5⟩ := hf it (by simp)
  rw [rel.length] at st hi
  exact wpAny_pyNext_values_end (I.ok.hd hc) st dat (by simp; omega) fun h' eb => ⟨rfl, I.turned (t' := s.toks) (fun b o hb e => eb b o hb e) f0 f1 f3 f4 f5⟩
 self := fun _ _ _ _ _ st h => wpAny_pyIter_valiter st h
def iVals (tv : TE) : TI := fun σ H R => tv σ H fun x H1 => ∃ v d kvs, x = .ref v /\ H1 v = some (valuesV v d) /\ H1 d = some (.dK kvs) /\ ∀ o, R (Itv d o kvs) (upd H1 d (.frz o (.dK kvs)))
theorem pi_vals {X : Cx} {tg e : Expr} {tv : TE} (he : PE X e tv) : PI X tg e (iVals tv) := by
 intro pins s σ H R I h
 refine thn (he pins s σ H _ I h) fun u s1 ⟨x, H1, I1, r1, v, d, kvs, ex, hv, hd, q⟩ => ?_
 subst ex
 cases r1
 obtain ⟨iv, _, _⟩ := I1.hok v _ hv
 obtain ⟨o, ho, I2⟩ := I1.freeze hd
 obtain ⟨z, _, vs, rel, o', es, ep, ho', c', dt, r⟩ := dk_of I1.hok hd
 rw [ho] at ho'
 cases ho'
 have hne : v ≠ d := ne_of hv hd (by intro z; cases z)
 refine wpAny_pyIter_values (knd := mixKind X.prog X.w) (kvs := vs) (ep := ep) iv ⟨o, es, ho, c', dt, r⟩ ?_
 refine ⟨s1.heap.objs.size, [s1.heap.objs.size], _, _, _, rfl, I2.kept (t' := s1.toks) fun b o e => Heap.get?_push_of_some _ e, turn_vals d _ o kvs dt, ?_, fun b hb => ?_, q o⟩
 ·rw [rel.length]
  exact ⟨_, Heap.get?_push_size _ rfl, rfl, rfl⟩
 ·obtain rfl : b = s1.heap.objs.size := by simpa using hb
  exact I2.fpOk (Nat.le_refl _) (I2.hok.fresh (Nat.le_refl _))
def Its (x : Str) : It := ⟨fun i _ => i < x.cps.size, fun i H v H' => H' = H /\ ∃ c, x.cps[i]? = some c /\ v = .str ⟨#[c]⟩, fun i _ => x.cps.size <= i⟩
theorem turn_ascii {P : Program} {w : World} {K : PySem.W.Frag} {tg : Expr} (it : Addr) (x : Str) (t : Tok) : Turn P w K tg (Its x) [it] it (fun i h => i <= x.cps.size /\ h.IsStrIter it "str_ascii_iterator" x t i) where
 mem := by simp
 obj := fun i h st b hb => by
  obtain rfl : b = it := by simpa using hb
  obtain ⟨o, e, c, d⟩ := st.2
  exact ⟨o, e, fun v z => by rw [d] at z; cases z⟩
 keep := fun i h h' st k => ⟨st.1, let ⟨o, ho, r⟩ := st.2; ⟨o, k it (by simp) o ho, r⟩⟩
 item := by
  intro X hP hw hK hc i pins s σ H E I hf st hg
  subst hP hw hK
  have hg : i < x.cps.size := hg
  obtain ⟨f0, f1, f2, f3, f4, f5⟩ := hf it (by simp)
  refine wpAny_pyNext_ascii_item st.2 (c := x.cps[i]) (by simp [hg]) fun h' st' sb => ?_
  have I1 : Inv X pins σ H { s with heap := h', toks := s.toks + 1 } := I.turned (t' := s.toks + 1) (fun b o hb e => (sb.2 b hb).trans e) f0 f1 f3 f4 f5
  obtain ⟨o', e, c, dd⟩ := id st'
  exact ⟨_, rfl, go_of (s := { s with heap := h', toks := s.toks + 1 }) e c dd (by decide) ⟨.str ⟨#[x.cps[i]]⟩, H, I1, ⟨_, rfl⟩, ⟨rfl, _, by simp [hg], rfl⟩, ⟨hg, st'⟩, fun b hb => (hf b hb).1⟩⟩
 done := by
  intro X hP hw hK hc i pins s σ H E I hf st hg
  subst hP hw hK
  have hg : x.cps.size <= i := hg
  obtain ⟨f0, f1, f2, f3, f4, f5⟩ := hf it (by simp)
  exact wpAny_pyNext_ascii_end (I.ok.hd hc) st.2 (by simp [hg]) fun h' eb => ⟨rfl, I.turned (t' := s.toks) (fun b o hb e => eb b o hb e) f0 f1 f3 f4 f5⟩
 self := fun _ _ _ _ _ st h => wpAny_pyIter_striter_ascii st.2 h
theorem turn_wide {P : Program} {w : World} {K : PySem.W.Frag} {tg : Expr} (it : Addr) (x : Str) (t : Tok) : Turn P w K tg (Its x) [it] it (fun i h => i <= x.cps.size /\ h.IsStrIter it "str_iterator" x t i) where
 mem := by simp
 obj := fun i h st b hb => by
  obtain rfl : b = it := by simpa using hb
  obtain ⟨o, e, c, d⟩ := st.2
  exact ⟨o, e, fun v z => by rw [d] at z; cases z⟩
 keep := fun i h h' st k => ⟨st.1, let ⟨o, ho, r⟩ := st.2; ⟨o, k it (by simp) o ho, r⟩⟩
 item := by
  intro X hP hw hK hc i pins s σ H E I hf st hg
  subst hP hw hK
  have hg : i < x.cps.size := hg
  obtain ⟨f0, f1, f2, f3, f4, f5⟩ := hf it (by simp)
  refine wpAny_pyNext_wide_item st.2 (c := x.cps[i]) (by simp [hg]) fun h' st' sb => ?_
  have I1 : Inv X pins σ H { s with heap := h', toks := s.toks + 1 } := I.turned (t' := s.toks + 1) (fun b o hb e => (sb.2 b hb).trans e) f0 f1 f3 f4 f5
  obtain ⟨o', e, c, dd⟩ := id st'
  exact ⟨_, rfl, go_of (s := { s with heap := h', toks := s.toks + 1 }) e c dd (by decide) ⟨.str ⟨#[x.cps[i]]⟩, H, I1, ⟨_, rfl⟩, ⟨rfl, _, by simp [hg], rfl⟩, ⟨hg, st'⟩, fun b hb => (hf b hb).1⟩⟩
 done := by
  intro X hP hw hK hc i pins s σ H E I hf st hg
  subst hP hw hK
  have hg : x.cps.size <= i := hg
  obtain ⟨f0, f1, f2, f3, f4, f5⟩ := hf it (by simp)
  exact wpAny_pyNext_wide_end (I.ok.hd hc) st.2 (by simp [hg]) fun h' eb => ⟨rfl, I.turned (t' := s.toks) (fun b o hb e => eb b o hb e) f0 f1 f3 f4 f5⟩
 self := fun _ _ _ _ _ st h => wpAny_pyIter_striter_wide st.2 h
def iStr (tl : TE) : TI := fun σ H R => tl σ H fun v H1 => ∃ x, v = .str x /\ R (Its x) H1
theorem pi_str {X : Cx} {tg l : Expr} {tl : TE} (hl : PE X l tl) : PI X tg l (iStr tl) := by
 intro pins s σ H R I h
 refine thn (hl pins s σ H _ I h) fun v s1 ⟨y, H1, I1, r1, x, e, q⟩ => ?_
 subst e
 obtain ⟨t, rfl⟩ := r1
 have fp : ∀ b ∈ [s1.heap.objs.size], FpOk X pins H1 b := fun b hb => by
  obtain rfl : b = s1.heap.objs.size := by simpa using hb
  exact I1.fpOk (Nat.le_refl _) (I1.hok.fresh (Nat.le_refl _))
 cases ha : x.cps.all (· < 128)
 ·refine wpAny_pyIter_wide ha ?_
  exact ⟨s1.heap.objs.size, [s1.heap.objs.size], _, _, H1, rfl, I1.kept (t' := s1.toks) fun b o e => Heap.get?_push_of_some _ e, turn_wide _ x t, ⟨Nat.zero_le _, _, Heap.get?_push_size _ rfl, rfl, rfl⟩, fp, q⟩
 ·refine wpAny_pyIter_ascii ha ?_
  exact ⟨s1.heap.objs.size, [s1.heap.objs.size], _, _, H1, rfl, I1.kept (t' := s1.toks) fun b o e => Heap.get?_push_of_some _ e, turn_ascii _ x t, ⟨Nat.zero_le _, _, Heap.get?_push_size _ rfl, rfl, rfl⟩, fp, q⟩
end L2
namespace L2
open PySem PySem.Spec PyProof.Rows PySem.W EvS EvD
theorem opK {X : Cx} {f : Value -> Value -> Sem Value} {K : PySem.W.Frag} (r : PySem.W.Frag -> R2) (h : OpR X f (r X.K)) (hK : X.K = K := by rfl) : OpR X f (r K) := by
 subst hK
 exact h
theorem callK {X : Cx} {f : Value} {K : PySem.W.Frag} (r : PySem.W.Frag -> List V -> Hp -> VK -> Prop) (h : CallR X f (r X.K)) (hK : X.K = K := by rfl) : CallR X f (r K) := by
 subst hK
 exact h
theorem ixK {X : Cx} {K : PySem.W.Frag} (r : PySem.W.Frag -> R2) (h : IxR X (r X.K)) (hK : X.K = K := by rfl) : IxR X (r K) := by
 subst hK
 exact h
def rLen (K : PySem.W.Frag) : List V -> Hp -> VK -> Prop := fun xs H Q => ∃ p ys, xs = [.ref p] /\ (SqL K H p ys ∨ SqT K H p ys) /\ Q (.int ys.length) H
theorem cLen {X : Cx} {K : PySem.W.Frag} (hK : X.K = K := by rfl) : CallR X (.builtin "len") (rLen K) := callK rLen call_len_seq hK
theorem pg_tupC {X : Cx} {N : List Str} {scope : Scope} {fp : List Addr} {s : Shared} {H : Hp} {es : List Expr} {k : Nat} {pos : Pos} {t : TGs} {n : Nat} (h : PGs (cxComp X N scope fp s H) es t) (hc : X.calm = true := by rfl)
  (hn : (assignEach es (cxComp X N scope fp s H).env).length = n := by rfl) (hst : (assignEach es (cxComp X N scope fp s H).env).findIdx? (·.1) = none := by rfl) : PG (cxComp X N scope fp s H) (.Tuple es k pos) (gTup X.K n t) := pg_tup (X := cxComp X N scope fp s H) hc h hn hst
end L2
set_option Elab.async false
set_option linter.all false
set_option maxRecDepth 100000
namespace Ev
open PySem L2
def top (i : Nat) : Stmt := PySem.Challenge.pw_evenpieces_k86_the_shortest_way_apart.main.body.getD i (.Pass ⟨0, 0, 0, 0⟩)
abbrev sIsW : Stmt := top 10
abbrev sWhole : Stmt := top 11
abbrev sName : Stmt := top 12
abbrev sLesser : Stmt := top 13
abbrev sPair : Stmt := top 14
abbrev sSorted : Stmt := top 15
abbrev sAnew : Stmt := top 16
abbrev sHand : Stmt := top 23
abbrev sStr : Stmt := top 24
abbrev sTies : Stmt := top 25
abbrev sNear : Stmt := top 26
abbrev sWeb : Stmt := top 28
def ltS (a b : Str) : Bool := decide (a.cps.toList < b.cps.toList)
def ord2 (a b : Str) : Str × Str := if ltS a b = true then (a, b) else (b, a)
section
variable {P : Program} {w : World} {K : PySem.W.Frag} {mg : Str -> Option Value} {base : Heap}
theorem scLesser : FnScope ["one", "other"] ["one", "other"] (defScope sLesser) := ⟨rfl, rfl, rfl, by decide +kernel, rfl, by decide +kernel, by decide +kernel⟩
def spLesser : Sp := fun vs H Q _ => ∃ a b, vs = [.str a, .str b] /\ ∀ t, H t = none -> Q (.ref t) (upd H t (.tup [.str (ord2 a b).1, .str (ord2 a b).2]))
theorem ok_lesser {f : Addr} {fd : FuncData} (F : Fun K "lesser_first" "lesser_first" sLesser f fd) : FnOk P w K mg base CX0 1 f fd ["one", "other"] spLesser := by
 refine F.ok scLesser (fun vs H Q E h => ?_) (fun cdv A outer s H vs Q E hr h => ?_)
 ·obtain ⟨a, b, rfl, _⟩ := h
  rfl
 ·obtain ⟨a, b, rfl, k⟩ := h
  refine ⟨_, pss_one (ps_ret (pe_ifExp (pt_cmpR op_lt_str (pv 0) (pv 1) (nomark _)) (pe_tup (pa_cons (pv 0) (pa_cons (pv 1) pa_nil))) (pe_tup (pa_cons (pv 1) (pa_cons (pv 0) pa_nil))))), ?_⟩
  refine ⟨_, rfl, _, rfl, a, b, rfl, rfl, _, rfl, ?_⟩
  refine ite2 (fun c => ?_) (fun c => ?_)
  ·refine ⟨_, rfl, _, rfl, by show 2 <= sizeLine; decide, fun t ht => ?_⟩
   have := k t ht
   rwa [show ord2 a b = (a, b) from if_pos c] at this
  ·refine ⟨_, rfl, _, rfl, by show 2 <= sizeLine; decide, fun t ht => ?_⟩
   have := k t ht
   rwa [show ord2 a b = (b, a) from if_neg c] at this
theorem scWhole : FnScope ["thing", "least", "most"] ["thing", "least", "most"] (defScope sWhole) := ⟨rfl, rfl, rfl, by decide +kernel, rfl, by decide +kernel, by decide +kernel⟩
def spWhole : Sp := fun vs H Q _ => ∃ i a b : Int, vs = [.int i, .int a, .int b] /\ Q (.bl (decide (a <= i) && decide (i <= b))) H
structure Bi (mg : Str -> Option Value) : Prop where
 isi : mg "isinstance" = none
 int : mg "int" = none
 bool : mg "bool" = none
 str : mg "str" = none
 tuple : mg "tuple" = none
 list : mg "list" = none
 dict : mg "dict" = none
 len : mg "len" = none
 all : mg "all" = none
 sorted : mg "sorted" = none
 max : mg "max" = none
 range : mg "range" = none
 any : mg "any" = none
 enum : mg "enumerate" = none
 min : mg "min" = none
 abs : mg "abs" = none
structure Cal (P : Program) (w : World) (K : PySem.W.Frag) (mg : Str -> Option Value) (base : Heap) (k : Nat) (x : Str) (ps : List Str) (sp : Sp) : Prop where
 ex : ∃ f fd, FnOk P w K mg base CX0 k f fd ps sp /\ mg x = some (.ref f) /\ PySem.W.keepIn K (.ref f) = true /\ Binds K fd ps []
theorem pe_fn {X : Cx} {k : Nat} {x : Str} {ps : List Str} {sp : Sp} {p pos : Pos} {e : Expr} {es : List Expr} {t : TA} (c : Cal X.prog X.w X.K X.mg X.base k x ps sp) (hr : Room k X.A) (ha : PA X (e :: es) t) (hg : Gl X x := by rfl) (hdb : (x == ("__debug__" : Str)) = false := by decide)
  (he : starEach (e :: es) X.env = (false, eval e X.env) :: starEach es X.env := by rfl) (hpl : (backTo pos (starEach es X.env)).any (·.1) = false := by rfl) : PE X (.Call (.Name x p) (e :: es) [] pos) (tCall sp [] E0 t) := by
 obtain ⟨f, fd, F, m, kp, b⟩ := c.ex
 exact pe_call F hr hg m kp b .nil pass0 ha hdb he hpl
theorem scIsW : FnScope ["thing"] ["thing"] (defScope sIsW) := ⟨rfl, rfl, rfl, by decide +kernel, rfl, by decide +kernel, by decide +kernel⟩
def spIsW : Sp := fun vs H Q _ => ∃ i : Int, vs = [.int i] /\ Q (.bl true) H
theorem ok_isW {f : Addr} {fd : FuncData} (F : Fun K "is_whole" "is_whole" sIsW f fd) (B : Bi mg) : FnOk P w K mg base CX0 1 f fd ["thing"] spIsW := by
 refine F.ok scIsW (fun vs H Q E h => ?_) (fun cdv A outer s H vs Q E hr h => ?_)
 ·obtain ⟨i, rfl, _⟩ := h
  rfl
 ·obtain ⟨i, rfl, k⟩ := h
  refine ⟨_, pss_one (ps_ret (pe_and (pe_callB call_isi (by rfl) B.isi PyProof.Rows.Boot.«isinstance» (pa_cons (pv 0) (pa_cons (pe_bltn (v := .ty "int") (by rfl) B.int PyProof.Rows.Boot.«int» rfl) pa_nil))) (pe_one (pe_not (pe_callB call_isi (by rfl) B.isi PyProof.Rows.Boot.«isinstance» (pa_cons (pv 0) (pa_cons (pe_bltn (v := .ty "bool") (by rfl) B.bool PyProof.Rows.Boot.«bool» rfl) pa_nil))))))), ?_⟩
  exact ⟨_, rfl, _, _, _, _, rfl, .int i, rfl, _, rfl, iteT ⟨_, rfl, _, _, _, _, rfl, .int i, rfl, _, rfl, k⟩⟩
theorem ok_whole {f : Addr} {fd : FuncData} (F : Fun K "is_whole_within" "is_whole_within" sWhole f fd) (cI : Cal P w K mg base 1 "is_whole" ["thing"] spIsW) : FnOk P w K mg base CX0 2 f fd ["thing", "least", "most"] spWhole := by
 refine F.ok scWhole (fun vs H Q E h => ?_) (fun cdv A outer s H vs Q E hr h => ?_)
 ·obtain ⟨i, a, b, rfl, _⟩ := h
  rfl
 ·obtain ⟨i, a, b, rfl, k⟩ := h
  refine ⟨_, pss_one (ps_ret (pe_and (pe_fn cI hr (pa_cons (pv 0) pa_nil)) (pe_one (pe_chain op_le op_le (pv 1) (pv 0) (pv 2))))), ?_⟩
  refine ⟨_, rfl, i, rfl, _, rfl, iteT ?_⟩
  refine ⟨_, rfl, _, rfl, _, _, rfl, rfl, _, rfl, ?_⟩
  refine ite2 (fun c => ?_) (fun c => ?_)
  ·refine ⟨_, rfl, _, _, rfl, rfl, ?_⟩
   rw [c] at k
   exact k
  ·rw [show decide (a <= i) = false by simpa using c] at k
   exact k
def okc (c : Nat) : Bool := decide (97 <= c) && decide (c <= 122)
def nameB (x : Str) : Bool := decide (1 <= x.length) && decide (x.length <= 8) && x.cps.toList.all okc
theorem scName : FnScope ["thing"] ["thing"] (defScope sName) := ⟨rfl, rfl, rfl, by decide +kernel, rfl, by decide +kernel, by decide +kernel⟩
def spName : Sp := fun vs H Q _ => ∃ x : Str, vs = [.str x] /\ x.length <= 100000 /\ ∀ H', Same H H' -> Q (.bl (nameB x)) H'
theorem sign_le {c : Nat} : (!decide ((⟨#[c]⟩ : Str).cps.toList < ("a" : Str).cps.toList)) = decide (97 <= c) := by
 have e : ("a" : Str).cps.toList = [97] := by decide +kernel
 rw [e]
 show (!decide ([c] < [97])) = decide (97 <= c)
 by_cases h : 97 <= c
 ·have : ¬ [c] < [97] := by simp [List.cons_lt_cons_iff]; omega
  simp [this, h]
 ·have : [c] < [97] := by simp [List.cons_lt_cons_iff]; omega
  simp [this, h]
theorem sign_ge {c : Nat} : (!decide (("z" : Str).cps.toList < (⟨#[c]⟩ : Str).cps.toList)) = decide (c <= 122) := by
 have e : ("z" : Str).cps.toList = [122] := by decide +kernel
 rw [e]
 show (!decide ([122] < [c])) = decide (c <= 122)
 by_cases h : c <= 122
 ·have : ¬ [122] < [c] := by simp [List.cons_lt_cons_iff]; omega
  simp [this, h]
 ·have : [122] < [c] := by simp [List.cons_lt_cons_iff]; omega
  simp [this, h]
theorem ok_name {f : Addr} {fd : FuncData} (F : Fun K "is_name" "is_name" sName f fd) (B : Bi mg) {t8 : Tok} (m8 : mg "MOST_LETTERS" = some (.int 8 t8)) : FnOk P w K mg base CX0 1 f fd ["thing"] spName := by
 refine F.ok scName (fun vs H Q E h => ?_) (fun cdv A outer s H vs Q E hr h => ?_)
 ·obtain ⟨x, rfl, _⟩ := h
  rfl
 ·obtain ⟨x, rfl, hz, k⟩ := h
  have sz := sizeLine_eq
  refine ⟨_, pss_cons (ps_if (pw_or (pt_not (pt_val (pe_callB call_isi (by rfl) B.isi PyProof.Rows.Boot.«isinstance» (pa_cons (pv 0) (pa_cons (pe_bltn (v := .ty "str") (by rfl) B.str PyProof.Rows.Boot.«str» rfl) pa_nil)))))
    (pw_or1 (pt_not (pt_chain op_le op_le pe_int (pe_callB call_len_str (by rfl) B.len PySem.boot_len (pa_cons (pv 0) pa_nil)) (pe_glob (v := .int 8) (by rfl) m8 ⟨t8, rfl⟩))))).pt (pss_one (ps_ret pe_bl)) pss_nil)
   (pss_one (ps_ret (pe_callB (call_all rfl) (by rfl) B.all PyProof.Rows.Boot.«all» (pa_cons
    (pe_comp ["letter"] 1 [] (pi_str (pv 0)) (fun fp s H => pg_name (i := 0) (show (["letter"] : List Str).Nodup by decide +kernel) rfl (Or.inl rfl)) (fun fp s H => pts_nil) (fun fp s H => pe_chain op_le_str op_le_str pe_str (pv 0) pe_str)) pa_nil)))), ?_⟩
  refine ⟨_, rfl, _, _, _, _, rfl, .str x, rfl, _, rfl, ?_⟩
  refine iteF ?_
  refine ⟨_, rfl, x, rfl, by omega, _, _, rfl, rfl, _, rfl, ?_⟩
  have fin : (decide (1 <= x.length) && decide (x.length <= 8)) = false -> ∀ H', Same H H' -> Q (.bl false) H' := fun e H' sm => by
   have := k H' sm
   rwa [show nameB x = false by unfold nameB; rw [e]; rfl] at this
  refine ite2 (fun c => ?_) (fun c => ?_)
  ·have c1 : 1 <= x.length := by
    have : (1 : Int) <= (x.length : Int) := by simpa using c
    omega
   refine ⟨_, _, rfl, rfl, _, rfl, ?_⟩
   refine ite2 (fun c2 => ?_) (fun c2 => ?_)
   ·-- too long
    have c3 : ¬ x.length <= 8 := by
     have : ¬ ((x.length : Int) <= 8) := by simpa using c2
     omega
    exact fin (by rw [decide_eq_false c3, Bool.and_false]) H (Same.refl H)
   ·have c3 : x.length <= 8 := by
     have : (x.length : Int) <= 8 := by simpa using c2
     omega
    refine ⟨_, rfl, x, rfl, fun D hD => ?_⟩
    refine comp_it (own := 1) (fv := []) rfl gok1 x.cps.size (fun i out H' => H' = upd H D (.lst out) /\ out = ((x.cps.toList.take i).map okc).map V.bl) ⟨rfl, by simp⟩ (fun out H' ⟨e1, e2⟩ => ?_) (fun i out H' hi ⟨e1, e2⟩ => ?_)
    ·refine ⟨Nat.le_refl _, D, x.cps.toList.map okc, rfl, .of ?_, ?_⟩
     ·rw [e1, upd_same, e2, List.take_of_length_le (by simp)]
     ·have := k H' (by rw [e1]; exact Same.new hD)
      rwa [show nameB x = (x.cps.toList.map okc).all id by unfold nameB; rw [decide_eq_true c1, decide_eq_true c3, List.all_map]; rfl] at this
    ·refine ⟨hi, fun v H2 y => ?_⟩
     obtain ⟨eH, c, hc, rfl⟩ := y
     subst eH
     refine ⟨_, rfl, rfl, fun Nx hN => yesT ?_⟩
     have lo : out.length < sizeLine := by
      rw [e2]
      have hs : x.length = x.cps.size := rfl
      simp only [List.length_map, List.length_take, Array.length_toList]
      omega
     have nx : Nx (upd H2 D (.lst (out ++ [V.bl (okc c)]))) := hN (out ++ [V.bl (okc c)]) _ ⟨by rw [e1, upd_upd], by
      rw [e2, List.take_add_one]
      simp [hc]⟩
     have atD : H2 D = some (.lst out) := by rw [e1, upd_same]
     refine ⟨_, rfl, _, _, rfl, rfl, _, rfl, ?_⟩
     rw [sign_le]
     refine ite2 (fun c2 => ?_) (fun c2 => ?_)
     ·refine ⟨_, _, rfl, rfl, out, atD, lo, ?_⟩
      rw [sign_ge]
      rwa [show okc c = decide (c <= 122) by unfold okc; rw [c2]; rfl] at nx
     ·refine ⟨out, atD, lo, ?_⟩
      rwa [show okc c = false by unfold okc; rw [show decide (97 <= c) = false by simpa using c2]; rfl] at nx
  ·have c1 : ¬ 1 <= x.length := by
    have : ¬ ((1 : Int) <= (x.length : Int)) := by simpa using c
    omega
   exact ⟨_, rfl, iteT (fin (by rw [decide_eq_false c1]; rfl) H (Same.refl H))⟩
end
end Ev
set_option Elab.async false
set_option linter.all false
set_option maxRecDepth 100000
namespace Ev
open PySem L2
def kT (t : Str × Str) : List Key := [.inr t.1, .inr t.2]
def goodT (t : Str × Str) : Prop := nameB t.1 = true /\ nameB t.2 = true /\ t.1 ≠ t.2
theorem nameB_len {x : Str} (h : nameB x = true) : x.length <= 8 := by
 unfold nameB at h
 simp only [Bool.and_eq_true, decide_eq_true_eq] at h
 exact h.1.2
theorem hpT {H : Hp} {p : Addr} {t : Str × Str} (h : H p = some (.tup ((kT t).map kV))) : H p = some (.tup [.str t.1, .str t.2]) := h
section
variable {P : Program} {w : World} {K : PySem.W.Frag} {mg : Str -> Option Value} {base : Heap}
theorem scPair : FnScope ["thing"] ["thing"] (defScope sPair) := ⟨rfl, rfl, rfl, by decide +kernel, rfl, by decide +kernel, by decide +kernel⟩
def spPair : Sp := fun vs H Q _ => ∃ (p : Addr) (a b : Str), vs = [.ref p] /\ H p = some (.tup [.str a, .str b]) /\ a.length <= 100000 /\ b.length <= 100000 /\ ∀ H', Same H H' -> Q (.bl (nameB a && nameB b && !decide (a = b))) H'
theorem ok_pair {f : Addr} {fd : FuncData} (F : Fun K "is_pair_of_names" "is_pair_of_names" sPair f fd) (B : Bi mg) (cN : Cal P w K mg base 1 "is_name" ["thing"] spName) : FnOk P w K mg base CX0 2 f fd ["thing"] spPair := by
 refine F.ok scPair (fun vs H Q E h => ?_) (fun cdv A outer s H vs Q E hr h => ?_)
 ·obtain ⟨p, a, b, rfl, _⟩ := h
  rfl
 ·obtain ⟨p, a, b, rfl, hp, la, lb, k⟩ := h
  refine ⟨_, pss_cons (ps_if (pw_or (pt_not (pt_val (pe_callB call_isi (by rfl) B.isi PyProof.Rows.Boot.«isinstance» (pa_cons (pv 0) (pa_cons (pe_bltn (v := .ty "tuple") (by rfl) B.tuple PyProof.Rows.Boot.«tuple» rfl) pa_nil)))))
    (pw_or1 (pt_cmpR op_ne (pe_callB call_len_seq (by rfl) B.len PySem.boot_len (pa_cons (pv 0) pa_nil)) pe_int (nomark _)))).pt (pss_one (ps_ret pe_bl)) pss_nil)
   (pss_one (ps_ret (pe_and (pe_fn cN hr (pa_cons (pe_ix ix_tup (pv 0) pe_int (fun _ _ => rfl)) pa_nil)) (pe_and (pe_fn cN hr (pa_cons (pe_ix ix_tup (pv 0) pe_int (fun _ _ => rfl)) pa_nil))
    (pe_one (pe_cmpR op_ne (pe_ix ix_tup (pv 0) pe_int (fun _ _ => rfl)) (pe_ix ix_tup (pv 0) pe_int (fun _ _ => rfl)) (nomark _))))))), ?_⟩
  refine ⟨_, rfl, _, _, _, _, rfl, .tup hp, rfl, _, rfl, iteF ?_⟩
  refine ⟨_, rfl, p, _, rfl, .inr (.of hp), rfl, _, rfl, ?_⟩
  refine iteNS (show V.int ((2 : Nat) : Int) = V.int 2 from rfl) ?_
  refine ⟨_, rfl, p, _, _, _, rfl, rfl, .of hp, rfl, a, rfl, la, fun H1 s1 => ⟨_, rfl, ?_⟩⟩
  have hp1 := s1 _ _ hp
  refine ite2 (fun c => ?_) (fun c => ?_)
  ·refine ⟨_, rfl, p, _, _, _, rfl, rfl, .of hp1, rfl, b, rfl, lb, fun H2 s2 => ⟨_, rfl, ?_⟩⟩
   have hp2 := s2 _ _ hp1
   have kk := k H2 (s1.trans s2)
   refine ite2 (fun c2 => ?_) (fun c2 => ?_)
   ·refine ⟨_, rfl, p, _, _, _, rfl, rfl, .of hp2, rfl, _, rfl, p, _, _, _, rfl, rfl, .of hp2, rfl, rfl, ?_⟩
    rw [c, c2] at kk
    have e : decide (V.str a = V.str b) = decide (a = b) := by
     by_cases z : a = b
     ·simp [z]
     ·simp [z]
    show Q (.bl (!decide (V.str a = V.str b))) H2
    rw [e]
    exact kk
   ·rw [c, show nameB b = false by simpa using c2] at kk
    exact kk
  ·have kk := k H1 s1
   rw [show nameB a = false by simpa using c] at kk
   exact kk
theorem scSorted : FnScope ["ties", "found", "pair", "tie"] ["ties"] (defScope sSorted) := ⟨rfl, rfl, rfl, by decide +kernel, rfl, by decide +kernel, by decide +kernel⟩
def spSorted (K : PySem.W.Frag) : Sp := fun vs H Q _ => ∃ (l : Addr) (ys : List V) (ts : List (Str × Str)), vs = [.ref l] /\ H l = some (.lst ys) /\ TupsAt K H ys (ts.map kT) /\ (∀ t ∈ ts, goodT t) /\ (ts.map fun t => kT (ord2 t.1 t.2)).Nodup /\ ts.length < 64 /\
 ∀ l' zs H', Same H H' -> H l' = none -> H' l' = some (.lst zs) -> TupsAt K H' zs (sortKs (ts.map fun t => kT (ord2 t.1 t.2))) -> Q (.ref l') H'
theorem paired_map {α β γ : Type} {F : α -> γ -> Prop} {g : β -> γ} {ys : List α} {ts : List β} (t : Paired F ys (ts.map g)) {i : Nat} {y : α} (h : ys[i]? = some y) : ∃ x, ts[i]? = some x /\ F y (g x) := by
 have hi : i < ys.length := (List.getElem?_eq_some_iff.mp h).1
 have hl := Paired.length t
 rw [List.length_map] at hl
 have := paired_get t i hi (by rw [List.length_map]; omega)
 rw [List.getElem_map] at this
 refine ⟨ts[i], List.getElem?_eq_getElem (by omega), ?_⟩
 rw [(List.getElem?_eq_some_iff.mp h).2] at this
 exact this
theorem valV_none_of {κ : Type} [DecidableEq κ] {kvs : List (κ × V)} {k : κ} (h : k ∉ kvs.map (·.1)) : valV kvs k = none := by
 cases e : valV kvs k with
 | none => rfl
 | some v => exact absurd (valV_in e) h
theorem take_succ_map {α β : Type} (g : α -> β) {ts : List α} {i : Nat} {x : α} (h : ts[i]? = some x) : (ts.take (i + 1)).map g = (ts.take i).map g ++ [g x] := by
 rw [List.take_add_one, h, List.map_append]
 rfl
theorem nodup_take {α β : Type} {g : α -> β} {ts : List α} {i : Nat} {x : α} (h : (ts.map g).Nodup) (hx : ts[i]? = some x) : g x ∉ (ts.take i).map g := by
 intro m
 have hi : i < ts.length := (List.getElem?_eq_some_iff.mp hx).1
 obtain ⟨y, hy, e⟩ := List.mem_map.mp m
 obtain ⟨j, hj, e2⟩ := List.getElem_of_mem hy
 rw [List.length_take] at hj
 rw [List.getElem_take] at e2
 rw [List.nodup_iff_pairwise_ne, List.pairwise_map, List.pairwise_iff_getElem] at h
 refine h j i (by omega) hi (by omega) ?_
 rw [e2, e, (List.getElem?_eq_some_iff.mp hx).2]
theorem ok_sorted {f : Addr} {fd : FuncData} (F : Fun K "sorted_ties" "sorted_ties" sSorted f fd) (B : Bi mg) (cP : Cal P w K mg base 2 "is_pair_of_names" ["thing"] spPair) (cL : Cal P w K mg base 1 "lesser_first" ["one", "other"] spLesser) : FnOk P w K mg base CX0 3 f fd ["ties"] (spSorted K) := by
 refine F.ok scSorted (fun vs H Q E h => ?_) (fun cdv A outer s H vs Q E hr h => ?_)
 ·obtain ⟨l, ys, ts, rfl, _⟩ := h
  rfl
 ·obtain ⟨l, ys, ts, rfl, hl, tu, good, nd, h64, k⟩ := h
  have hu := hu_of hr
  have hr1 : Room 1 _ := hr.mono (by decide)
  have sz := sizeLine_eq
  refine ⟨_, pss_cons (ps_if (pt_not (pt_val (pe_callB call_isi (by rfl) B.isi PyProof.Rows.Boot.«isinstance» (pa_cons (pv 0) (pa_cons (pe_bltn (v := .ty "list") (by rfl) B.list PyProof.Rows.Boot.«list» rfl) pa_nil))))) pss_never pss_nil)
   (pss_cons (ps_set (i := 1) scSorted.nd rfl (Or.inl rfl) pe_dnewT)
   (pss_cons (ps_for PassesOwn.never rfl (pi_list (pv 0)) (pg_name (i := 2) scSorted.nd rfl (Or.inl rfl))
    (pss_cons (ps_if (pt_not (pt_val (pe_fn cP hr (pa_cons (pv 2) pa_nil)))) pss_never pss_nil)
    (pss_cons (ps_set (i := 3) scSorted.nd rfl (Or.inl rfl) (pe_fn cL hr1 (pa_cons (pe_ix ix_tup (pv 2) pe_int (fun _ _ => rfl)) (pa_cons (pe_ix ix_tup (pv 2) pe_int (fun _ _ => rfl)) pa_nil))))
    (pss_cons (ps_if (pt_cmp (pc_din hu (pv 3) (pv 1))) pss_never pss_nil)
    (pss_one (ps_dput hu (pv 1) (pv 3) pe_bl rfl))))))
   (pss_one (ps_ret (pe_callB (call_sortDT rfl) (by rfl) B.sorted PyProof.Rows.Boot.«sorted» (pa_cons (pv 1) pa_nil)))))), ?_⟩
  refine ⟨_, rfl, _, _, _, _, rfl, .lst hl, rfl, _, rfl, iteF ?_⟩
  intro d hd
  have s0 : Same H (upd H d (.dT [])) := Same.new hd
  refine ⟨_, rfl, l, rfl, ⟨_, .of (s0 _ _ hl)⟩, for_list (K := K) (a := l) (xs := ys) (fun i σ H2 => ∃ (v3 v4 : Option V), σ = [some (.ref l), some (.ref d), v3, v4] /\ Same H H2 /\ H2 d = some (.dT ((ts.take i).map fun t => (kT (ord2 t.1 t.2), V.bl true)))) ⟨none, none, rfl, s0, upd_same⟩ (fun i σ H2 _ ⟨_, _, _, s2, _⟩ => .of (s2 _ _ hl)) ?_ ?_⟩
  ·rintro i y σ H2 hy ⟨v3, v4, rfl, s2, hd2⟩
   obtain ⟨t, ht, a, rfl, ha⟩ := paired_map tu hy
   obtain ⟨g1, g2, g3⟩ := good t (List.mem_of_getElem? ht)
   have ha2 := s2 _ _ (hpT ha)
   refine ⟨_, rfl, a, t.1, t.2, rfl, ha2, by have := nameB_len g1; omega, by have := nameB_len g2; omega, fun H3 s3 => ⟨_, rfl, ?_⟩⟩
   have ha3 := s3 _ _ ha2
   have hd3 := s3 _ _ hd2
   rw [g1, g2, decide_eq_false g3]
   refine iteF ?_
   refine ⟨_, rfl, a, _, _, _, rfl, rfl, .of ha3, rfl, _, rfl, a, _, _, _, rfl, rfl, .of ha3, rfl, t.1, t.2, rfl, fun b hb => ?_⟩
   have s4 : Same H3 (upd H3 b (.tup [.str (ord2 t.1 t.2).1, .str (ord2 t.1 t.2).2])) := Same.new hb
   have hd4 := s4 _ _ hd3
   have hb4 : upd H3 b (.tup [.str (ord2 t.1 t.2).1, .str (ord2 t.1 t.2).2]) b = some (.tup ((kT (ord2 t.1 t.2)).map kV)) := upd_same
   have nov : valV ((ts.take i).map fun t => (kT (ord2 t.1 t.2), V.bl true)) (kT (ord2 t.1 t.2)) = none := valV_none_of (by
    rw [List.map_map]
    exact nodup_take (g := fun t => kT (ord2 t.1 t.2)) nd ht)
   refine ⟨_, rfl, _, rfl, d, _, rfl, .t (k := kT (ord2 t.1 t.2)) hd4 hb4, _, rfl, ?_⟩
   rw [nov]
   refine iteF ?_
   refine ⟨_, rfl, _, rfl, d, _, rfl, .t (k := kT (ord2 t.1 t.2)) hd4 hb4 (by rw [List.length_map, List.length_take]; omega), ?_⟩
   refine ⟨_, _, rfl, fun c o e => ?_, ?_⟩
   ·rw [upd_ne (ne_of_none e hd)]
    exact s4 _ _ (s3 _ _ (s2 _ _ e))
   ·rw [upd_same, putK_new _ nov, take_succ_map _ ht]
  ·rintro σ H2 ⟨v3, v4, rfl, s2, hd2⟩
   have le := Paired.length tu
   rw [List.length_map] at le
   rw [le, List.take_length] at hd2
   refine ⟨_, rfl, d, _, [true, true], rfl, hd2, ⟨by decide, fun k hk => ?_⟩, by rw [List.length_map]; exact h64, fun l' zs hn tz => ?_⟩
   ·rw [List.map_map] at hk
    obtain ⟨t, _, rfl⟩ := List.mem_map.mp hk
    rfl
   ·rw [List.map_map] at tz
    exact k l' zs _ (s2.trans (Same.new hn)) (s2.free hn) upd_same (tz.same (Same.new hn))
theorem scAnew : FnScope ["ties"] ["ties"] (defScope sAnew) := ⟨rfl, rfl, rfl, by decide +kernel, rfl, by decide +kernel, by decide +kernel⟩
def spAnew (K : PySem.W.Frag) : Sp := fun vs H Q _ => ∃ (l : Addr) (ys : List V) (ts : List (Str × Str)), vs = [.ref l] /\ H l = some (.lst ys) /\ TupsAt K H ys (ts.map kT) /\ ts.length <= 1000 /\
 ∀ l' zs H', Same H H' -> H l' = none -> H' l' = some (.lst zs) -> TupsAt K H' zs (ts.map kT) -> Q (.ref l') H'
theorem tups_snoc {K : PySem.W.Frag} {H : Hp} {ys : List V} {ks : List (List Key)} {a : Addr} {k : List Key} (t : TupsAt K H ys ks) (h : H a = some (.tup (k.map kV))) : TupsAt K H (ys ++ [.ref a]) (ks ++ [k]) := Paired.snoc t ⟨a, rfl, h⟩
theorem same_but {H H1 : Hp} {D : Addr} {o : HO} (h : Same H H1) (hD : H D = none) : Same H (upd H1 D o) := fun b u e => by rw [upd_ne (ne_of_none e hD)]; exact h b u e
theorem tups_but {K : PySem.W.Frag} {H : Hp} {ys : List V} {ks : List (List Key)} {D : Addr} {o : HO} {xs : List V} (t : TupsAt K H ys ks) (hD : H D = some (.lst xs)) : TupsAt K (upd H D o) ys ks := Paired.mapP t fun y k ⟨a, z, q⟩ => ⟨a, z, by rw [upd_ne (ne_of q hD (by intro z; cases z))]; exact q⟩
theorem ok_anew {f : Addr} {fd : FuncData} (F : Fun K "ties_anew" "ties_anew" sAnew f fd) : FnOk P w K mg base CX0 1 f fd ["ties"] (spAnew K) := by
 refine F.ok scAnew (fun vs H Q E h => ?_) (fun cdv A outer s H vs Q E hr h => ?_)
 ·obtain ⟨l, ys, ts, rfl, _⟩ := h
  rfl
 ·obtain ⟨l, ys, ts, rfl, hl, tu, hz, k⟩ := h
  have sz := sizeLine_eq
  refine ⟨_, pss_one (ps_ret (pe_comp ["one", "other"] 2 [] (pi_list (pv 0)) (fun fp s H => pg_tupC (n := 2) (pgs_cons (pg_name (i := 0) (show (["one", "other"] : List Str).Nodup by decide +kernel) rfl (Or.inl rfl)) (pgs_cons (pg_name (i := 1) (show (["one", "other"] : List Str).Nodup by decide +kernel) rfl (Or.inl rfl)) pgs_nil)))
   (fun fp s H => pts_nil) (fun fp s H => pe_tup (pa_cons (pv 0) (pa_cons (pv 1) pa_nil))))), ?_⟩
  refine ⟨_, rfl, l, rfl, ⟨_, .of hl⟩, fun D hD => ?_⟩
  have le := Paired.length tu
  rw [List.length_map] at le
  refine comp_list (own := 2) (fv := []) (xs := ys) rfl gok2 (fun i out H' => Same H H' /\ H' D = some (.lst out) /\ TupsAt K H' out ((ts.take i).map kT)) ⟨Same.new hD, upd_same, .nil⟩ (fun i out H' _ ⟨sm, _, _⟩ => .of (sm _ _ hl)) (fun out H' ⟨sm, hd, tz⟩ => ?_) (fun i x out H' hx ⟨sm, hd, tz⟩ => ?_)
  ·rw [le, List.take_length] at tz
   exact k D out H' sm hD hd tz
  ·obtain ⟨t, ht, a, rfl, ha⟩ := paired_map tu hx
   refine ⟨_, ⟨a, _, _, rfl, .of (sm _ _ (hpT ha)), rfl⟩, rfl, fun Nx hN => yesT ?_⟩
   refine ⟨_, rfl, _, rfl, by show 2 <= sizeLine; decide, fun p hp => ⟨out, (Same.new hp) _ _ hd, ?_, ?_⟩⟩
   ·have := Paired.length tz
    rw [List.length_map, List.length_take] at this
    omega
   ·have hp2 : upd H' p (.tup [.str t.1, .str t.2]) p = some (.tup ((kT t).map kV)) := upd_same
    refine hN (out ++ [.ref p]) _ ⟨same_but (sm.trans (Same.new hp)) hD, upd_same, ?_⟩
    rw [take_succ_map _ ht]
    exact tups_but (tups_snoc (tz.same (Same.new hp)) hp2) ((Same.new hp) _ _ hd)
end
end Ev
set_option Elab.async false
set_option linter.all false
set_option maxRecDepth 100000
namespace Ev
open PySem L2
def kH (h : Str × Int) : List Key := [.inr h.1, .inl h.2]
def goodH (h : Str × Int) : Prop := nameB h.1 = true /\ 1 <= h.2 /\ h.2 <= 1000
def kvOf : List Key -> Key × V
 | [k, v] => (k, kV v)
 | _ => (.inl 0, .non)
def sortH (hs : List (Str × Int)) : List (Key × V) := (sortKs (hs.map kH)).map kvOf
theorem hpH {H : Hp} {p : Addr} {t : Str × Int} (h : H p = some (.tup ((kH t).map kV))) : H p = some (.tup [.str t.1, .int t.2]) := h
theorem mergeK_app : ∀ (more kvs : List (Key × V)), (kvs.map (·.1) ++ more.map (·.1)).Nodup -> mergeK kvs more = kvs ++ more
 | [], kvs, _ => by
  show kvs = kvs ++ []
  rw [List.append_nil]
 | p :: more, kvs, h => by
  show mergeK (putK kvs p.1 p.2) more = kvs ++ p :: more
  have hn : valV kvs p.1 = none := valV_none_of fun m => by
   rw [List.map_cons, List.nodup_append] at h
   exact h.2.2 p.1 m p.1 List.mem_cons_self rfl
  rw [putK_new _ hn, mergeK_app more (kvs ++ [(p.1, p.2)])]
  ·simp
  ·simpa using h
theorem mergeK_nil {more : List (Key × V)} (h : (more.map (·.1)).Nodup) : mergeK [] more = more := by
 rw [mergeK_app more [] (by simpa using h)]
 rfl
theorem sortH_keys (hs : List (Str × Int)) : ((sortH hs).map (·.1)).Perm (hs.map fun h => Sum.inr h.1) := by
 unfold sortH
 rw [List.map_map]
 have p := (sortKs_perm (hs.map kH)).map fun k => (kvOf k).1
 rw [List.map_map] at p
 exact p
theorem sortH_nodup {hs : List (Str × Int)} (h : (hs.map (·.1)).Nodup) : ((sortH hs).map (·.1)).Nodup := by
 refine (sortH_keys hs).nodup_iff.mpr ?_
 have : (hs.map fun h => (Sum.inr h.1 : Key)) = (hs.map (·.1)).map Sum.inr := by rw [List.map_map]; rfl
 rw [this, List.nodup_iff_pairwise_ne, List.pairwise_map]
 exact h.imp fun n e => n (Sum.inr.inj e)
theorem roomU {k : Nat} {A : Around} (hr : Room k A) (n : Nat) (h : n + 1 <= 64 := by decide) : A.units + n + 1 < cLine := by
 have := hr.units
 omega
section
variable {P : Program} {w : World} {K : PySem.W.Frag} {mg : Str -> Option Value} {base : Heap}
theorem scHand : FnScope ["thing"] ["thing"] (defScope sHand) := ⟨rfl, rfl, rfl, by decide +kernel, rfl, by decide +kernel, by decide +kernel⟩
def spHand : Sp := fun vs H Q _ => ∃ (p : Addr) (a : Str) (n : Int), vs = [.ref p] /\ H p = some (.tup [.str a, .int n]) /\ a.length <= 100000 /\ ∀ H', Same H H' -> Q (.bl (nameB a && (decide (1 <= n) && decide (n <= 1000)))) H'
theorem ok_hand {f : Addr} {fd : FuncData} (F : Fun K "is_hand_with_strength" "is_hand_with_strength" sHand f fd) (B : Bi mg) (cN : Cal P w K mg base 1 "is_name" ["thing"] spName) (cW : Cal P w K mg base 2 "is_whole_within" ["thing", "least", "most"] spWhole) {tk : Tok} (mS : mg "MOST_STRENGTH" = some (.int 1000 tk)) :
  FnOk P w K mg base CX0 3 f fd ["thing"] spHand := by
 refine F.ok scHand (fun vs H Q E h => ?_) (fun cdv A outer s H vs Q E hr h => ?_)
 ·obtain ⟨p, a, b, rfl, _⟩ := h
  rfl
 ·obtain ⟨p, a, n, rfl, hp, la, k⟩ := h
  have hr1 : Room 1 _ := hr.mono (by decide)
  refine ⟨_, pss_cons (ps_if (pw_or (pt_not (pt_val (pe_callB call_isi (by rfl) B.isi PyProof.Rows.Boot.«isinstance» (pa_cons (pv 0) (pa_cons (pe_bltn (v := .ty "tuple") (by rfl) B.tuple PyProof.Rows.Boot.«tuple» rfl) pa_nil)))))
    (pw_or1 (pt_cmpR op_ne (pe_callB call_len_seq (by rfl) B.len PySem.boot_len (pa_cons (pv 0) pa_nil)) pe_int (nomark _)))).pt (pss_one (ps_ret pe_bl)) pss_nil)
   (pss_one (ps_ret (pe_and (pe_fn cN hr1 (pa_cons (pe_ix ix_tup (pv 0) pe_int (fun _ _ => rfl)) pa_nil)) (pe_one (pe_fn cW hr (pa_cons (pe_ix ix_tup (pv 0) pe_int (fun _ _ => rfl)) (pa_cons pe_int (pa_cons (pe_glob (v := .int 1000) (by rfl) mS ⟨tk, rfl⟩) pa_nil)))))))), ?_⟩
  refine ⟨_, rfl, _, _, _, _, rfl, .tup hp, rfl, _, rfl, iteF ?_⟩
  refine ⟨_, rfl, p, _, rfl, .inr (.of hp), rfl, _, rfl, ?_⟩
  refine iteNS (show V.int ((2 : Nat) : Int) = V.int 2 from rfl) ?_
  refine ⟨_, rfl, p, _, _, _, rfl, rfl, .of hp, rfl, a, rfl, la, fun H1 s1 => ⟨_, rfl, ?_⟩⟩
  have hp1 := s1 _ _ hp
  have kk := k H1 s1
  refine ite2 (fun c => ?_) (fun c => ?_)
  ·refine ⟨_, rfl, p, _, _, _, rfl, rfl, .of hp1, rfl, n, 1, 1000, rfl, ?_⟩
   rw [c] at kk
   exact kk
  ·rw [show nameB a = false by simpa using c] at kk
   exact kk
theorem scStr : FnScope ["hands", "found", "hand"] ["hands"] (defScope sStr) := ⟨rfl, rfl, rfl, by decide +kernel, rfl, by decide +kernel, by decide +kernel⟩
def spStr (K : PySem.W.Frag) : Sp := fun vs H Q _ => ∃ (l : Addr) (ys : List V) (hs : List (Str × Int)), vs = [.ref l] /\ H l = some (.lst ys) /\ TupsAt K H ys (hs.map kH) /\ (∀ h ∈ hs, goodH h) /\ (hs.map (·.1)).Nodup /\ 1 <= hs.length /\ hs.length <= 8 /\
 ∀ d H', Same H H' -> H d = none -> H' d = some (.dK (sortH hs)) -> Q (.ref d) H'
theorem ok_str {f : Addr} {fd : FuncData} (F : Fun K "checked_strengths" "checked_strengths" sStr f fd) (B : Bi mg) (cH : Cal P w K mg base 3 "is_hand_with_strength" ["thing"] spHand) {tk : Tok} (mH : mg "MOST_HANDS" = some (.int 8 tk)) : FnOk P w K mg base CX0 4 f fd ["hands"] (spStr K) := by
 refine F.ok scStr (fun vs H Q E h => ?_) (fun cdv A outer s H vs Q E hr h => ?_)
 ·obtain ⟨l, ys, hs, rfl, _⟩ := h
  rfl
 ·obtain ⟨l, ys, hs, rfl, hl, tu, good, nd, h1, h8, k⟩ := h
  have hu := hu_of hr
  have sz := sizeLine_eq
  have le := Paired.length tu
  rw [List.length_map] at le
  refine ⟨_, pss_cons (ps_if (pw_or (pt_not (pt_val (pe_callB call_isi (by rfl) B.isi PyProof.Rows.Boot.«isinstance» (pa_cons (pv 0) (pa_cons (pe_bltn (v := .ty "list") (by rfl) B.list PyProof.Rows.Boot.«list» rfl) pa_nil)))))
    (pw_or1 (pt_not (pt_chain op_le op_le pe_int (pe_callB call_len_seq (by rfl) B.len PySem.boot_len (pa_cons (pv 0) pa_nil)) (pe_glob (v := .int 8) (by rfl) mH ⟨tk, rfl⟩))))).pt pss_never pss_nil)
   (pss_cons (ps_set (i := 1) scStr.nd rfl (Or.inl rfl) pe_dnewK)
   (pss_cons (ps_for PassesOwn.never rfl (pi_list (pv 0)) (pg_name (i := 2) scStr.nd rfl (Or.inl rfl))
    (pss_cons (ps_if (pt_not (pt_val (pe_fn cH hr (pa_cons (pv 2) pa_nil)))) pss_never pss_nil)
    (pss_cons (ps_if (pt_cmp (pc_din hu (pe_ix ix_tup (pv 2) pe_int (fun _ _ => rfl)) (pv 1))) pss_never pss_nil)
    (pss_one (ps_dput hu (pv 1) (pe_ix ix_tup (pv 2) pe_int (fun _ _ => rfl)) (pe_ix ix_tup (pv 2) pe_int (fun _ _ => rfl)) rfl)))))
   (pss_one (ps_ret (pe_callTy (call_dictOf rfl) (by rfl) B.dict PyProof.Rows.Boot.«dict» (pa_cons (pe_callB (call_sortI rfl) (by rfl) B.sorted PyProof.Rows.Boot.«sorted» (pa_cons (pe_items (pv 1)) pa_nil)) pa_nil)))))), ?_⟩
  refine ⟨_, rfl, _, _, _, _, rfl, .lst hl, rfl, _, rfl, iteF ?_⟩
  refine ⟨_, rfl, l, _, rfl, .inl (.of hl), _, _, rfl, rfl, _, rfl, ?_⟩
  rw [decide_eq_true (show (1 : Int) <= (ys.length : Int) by omega)]
  refine iteT ⟨_, _, rfl, rfl, _, rfl, ?_⟩
  rw [decide_eq_true (show (ys.length : Int) <= 8 by omega)]
  refine iteF ?_
  intro d hd
  have s0 : Same H (upd H d (.dK [])) := Same.new hd
  refine ⟨_, rfl, l, rfl, ⟨_, .of (s0 _ _ hl)⟩, for_list (K := K) (a := l) (xs := ys) (fun i σ H2 => ∃ (v2 : Option V), σ = [some (.ref l), some (.ref d), v2] /\ Same H H2 /\ H2 d = some (.dK ((hs.take i).map fun h => (Sum.inr h.1, V.int h.2)))) ⟨none, rfl, s0, upd_same⟩ (fun i σ H2 _ ⟨_, _, s2, _⟩ => .of (s2 _ _ hl)) ?_ ?_⟩
  ·rintro i y σ H2 hy ⟨v2, rfl, s2, hd2⟩
   obtain ⟨t, ht, a, rfl, ha⟩ := paired_map tu hy
   obtain ⟨g1, g2, g3⟩ := good t (List.mem_of_getElem? ht)
   have ha2 := s2 _ _ (hpH ha)
   refine ⟨_, rfl, a, t.1, t.2, rfl, ha2, by have := nameB_len g1; omega, fun H3 s3 => ⟨_, rfl, ?_⟩⟩
   have ha3 := s3 _ _ ha2
   have hd3 := s3 _ _ hd2
   rw [g1, decide_eq_true g2, decide_eq_true g3]
   refine iteF ?_
   have nov : valV ((hs.take i).map fun h => ((Sum.inr h.1 : Key), V.int h.2)) (Sum.inr t.1) = none := valV_none_of (by
    rw [List.map_map]
    have q := nodup_take (g := fun h : Str × Int => h.1) nd ht
    intro m
    obtain ⟨h, hh, e⟩ := List.mem_map.mp m
    exact q (List.mem_map.mpr ⟨h, hh, Sum.inr.inj e⟩))
   refine ⟨_, rfl, a, _, _, _, rfl, rfl, .of ha3, rfl, _, rfl, d, _, rfl, .k (k := Sum.inr t.1) hd3, _, rfl, ?_⟩
   rw [nov]
   refine iteF ?_
   refine ⟨_, rfl, a, _, _, _, rfl, rfl, .of ha3, rfl, _, rfl, _, rfl, a, _, _, _, rfl, rfl, .of ha3, rfl, d, _, rfl, .k (k := Sum.inr t.1) hd3 (by rw [List.length_map, List.length_take]; omega), ?_⟩
   refine ⟨_, rfl, fun c o e => ?_, ?_⟩
   ·rw [upd_ne (ne_of_none e hd)]
    exact s3 _ _ (s2 _ _ e)
   ·rw [upd_same, putK_new _ nov, take_succ_map _ ht]
  ·rintro σ H2 ⟨v2, rfl, s2, hd2⟩
   rw [le, List.take_length] at hd2
   refine ⟨_, rfl, d, _, rfl, hd2, fun v hv => ?_⟩
   have s3 : Same H2 (upd H2 v (itemsV v d)) := Same.new hv
   refine ⟨v, d, _, hs.map fun h => (Sum.inr h.1, Sum.inl h.2), [true, false], rfl, upd_same, s3 _ _ hd2, by rw [List.map_map]; rfl, ⟨by decide, fun q hq => ?_⟩, by rw [List.length_map]; omega, fun l' H4 zs s4 hn tz => ?_⟩
   ·rw [List.map_map] at hq
    obtain ⟨h, _, rfl⟩ := List.mem_map.mp hq
    rfl
   ·have ez : ((hs.map fun h => ((Sum.inr h.1 : Key), (Sum.inl h.2 : Key))).map fun k => [k.1, k.2]) = hs.map kH := by rw [List.map_map]; rfl
    rw [ez] at tz
    have pz : PairsAt K (upd H4 l' (.lst zs)) zs (sortH hs) := by
     have shape : ∀ k ∈ sortKs (hs.map kH), ∃ a b, k = [a, b] := fun k hk => by
      obtain ⟨h, _, e⟩ := List.mem_map.mp ((sortKs_perm _).mem_iff.mp hk)
      exact ⟨_, _, e.symm⟩
     have gen : ∀ (ks : List (List Key)) (zs : List V), (∀ k ∈ ks, ∃ a b, k = [a, b]) -> TupsAt K (upd H4 l' (.lst zs)) zs ks -> PairsAt K (upd H4 l' (.lst zs)) zs (ks.map kvOf) := fun ks => by
      intro zs
      generalize upd H4 l' (.lst zs) = HH
      intro sh t
      induction t with
      | nil => exact .nil
      | cons h t ih =>
       obtain ⟨a, b, rfl⟩ := sh _ List.mem_cons_self
       exact .cons h (ih fun k hk => sh k (List.mem_cons_of_mem _ hk))
     exact gen _ _ shape (tz.same (Same.new hn))
    refine ⟨l', zs, _, rfl, upd_same, pz, ?_, fun d' hd' => ?_⟩
    ·have := (sortH_keys hs).length_eq
     simp only [List.length_map] at this
     omega
    ·rw [mergeK_nil (sortH_nodup nd)]
     have sAll : Same H (upd H4 l' (.lst zs)) := (s2.trans (s3.trans s4)).trans (Same.new hn)
     exact k d' _ (sAll.trans (Same.new hd')) (sAll.free hd') upd_same
theorem scTies : FnScope ["ties", "strengths", "found", "one", "other"] ["ties", "strengths"] (defScope sTies) := ⟨rfl, rfl, rfl, by decide +kernel, rfl, by decide +kernel, by decide +kernel⟩
def spTies (K : PySem.W.Frag) : Sp := fun vs H Q _ => ∃ (l d : Addr) (ys : List V) (ts : List (Str × Str)) (kvs : List (Key × V)), vs = [.ref l, .ref d] /\ H l = some (.lst ys) /\ TupsAt K H ys (ts.map kT) /\ (∀ t ∈ ts, goodT t) /\ (ts.map fun t => kT (ord2 t.1 t.2)).Nodup /\ ts.length < 64 /\
 H d = some (.dK kvs) /\ (∀ t ∈ ts, (valV kvs (Sum.inr t.1)).isSome = true /\ (valV kvs (Sum.inr t.2)).isSome = true) /\
 ∀ l' zs H', Same H H' -> H l' = none -> H' l' = some (.lst zs) -> TupsAt K H' zs (sortKs (ts.map fun t => kT (ord2 t.1 t.2))) -> Q (.ref l') H'
theorem ord2_or (a b : Str) : ord2 a b = (a, b) ∨ ord2 a b = (b, a) := by
 unfold ord2
 split
 ·exact .inl rfl
 ·exact .inr rfl
theorem ok_ties {f : Addr} {fd : FuncData} (F : Fun K "checked_ties" "checked_ties" sTies f fd) (B : Bi mg) (cS : Cal P w K mg base 3 "sorted_ties" ["ties"] (spSorted K)) : FnOk P w K mg base CX0 4 f fd ["ties", "strengths"] (spTies K) := by
 refine F.ok scTies (fun vs H Q E h => ?_) (fun cdv A outer s H vs Q E hr h => ?_)
 ·obtain ⟨l, d, ys, ts, kvs, rfl, _⟩ := h
  rfl
 ·obtain ⟨l, d, ys, ts, kvs, rfl, hl, tu, good, nd, h64, hd, there, k⟩ := h
  have hu := hu_of hr
  refine ⟨_, pss_cons (ps_set (i := 2) scTies.nd rfl (Or.inl rfl) (pe_fn cS hr (pa_cons (pv 0) pa_nil)))
   (pss_cons (ps_if (pt_cmp (pc_isN (pv 2))) pss_never pss_nil)
   (pss_cons (ps_for PassesOwn.never rfl (pi_list (pv 2)) (pg_tup rfl (pgs_cons (pg_name (i := 3) scTies.nd rfl (Or.inl rfl)) (pgs_cons (pg_name (i := 4) scTies.nd rfl (Or.inl rfl)) pgs_nil)))
    (pss_one (ps_if (pw_or (pt_cmp (pc_dnotin hu (pv 3) (pv 1))) (pw_or1 (pt_cmp (pc_dnotin hu (pv 4) (pv 1))))).pt pss_never pss_nil)))
   (pss_one (ps_ret (pv 2))))), ?_⟩
  refine ⟨_, rfl, l, ys, ts, rfl, hl, tu, good, nd, h64, fun l' zs H1 s1 hf hl1 tz => ?_⟩
  refine ⟨_, rfl, _, rfl, iteF ?_⟩
  refine ⟨_, rfl, l', rfl, ⟨_, .of hl1⟩, for_list (K := K) (a := l') (xs := zs) (fun i σ H2 => ∃ (v3 v4 : Option V), σ = [some (.ref l), some (.ref d), some (.ref l'), v3, v4] /\ H2 = H1) ⟨none, none, rfl, rfl⟩ (fun i σ H2 _ ⟨_, _, _, e⟩ => by subst e; exact .of hl1) ?_ ?_⟩
  ·rintro i y σ H2 hy ⟨v3, v4, rfl, rfl⟩
   have ez := Paired.length tz
   have hi : i < zs.length := (List.getElem?_eq_some_iff.mp hy).1
   obtain ⟨a, e, ha⟩ := paired_get tz i hi (by omega)
   rw [(List.getElem?_eq_some_iff.mp hy).2] at e
   subst e
   obtain ⟨t, ht, e⟩ := List.mem_map.mp ((sortKs_perm _).mem_iff.mp (List.getElem_mem (show i < (sortKs (ts.map fun t => kT (ord2 t.1 t.2))).length by omega)))
   rw [<- e] at ha
   obtain ⟨t1, t2⟩ := there t ht
   have both : (valV kvs (Sum.inr (ord2 t.1 t.2).1)).isSome = true /\ (valV kvs (Sum.inr (ord2 t.1 t.2).2)).isSome = true := by
    rcases ord2_or t.1 t.2 with q | q
    ·rw [q]; exact ⟨t1, t2⟩
    ·rw [q]; exact ⟨t2, t1⟩
   have hd1 := s1 _ _ hd
   refine ⟨a, _, rfl, .of (hpT ha), rfl, _, _, rfl, _, _, rfl, rfl, ?_⟩
   refine ⟨_, rfl, _, rfl, d, _, rfl, .k (k := Sum.inr (ord2 t.1 t.2).1) hd1, _, rfl, ?_⟩
   rw [both.1]
   refine iteF ?_
   refine ⟨_, rfl, _, rfl, d, _, rfl, .k (k := Sum.inr (ord2 t.1 t.2).2) hd1, _, rfl, ?_⟩
   rw [both.2]
   refine iteF ?_
   exact ⟨_, _, rfl, rfl⟩
  ·rintro σ H2 ⟨v3, v4, rfl, rfl⟩
   exact ⟨_, rfl, k l' zs _ s1 hf hl1 tz⟩
def near (ns : List Str) (ts : List (Str × Str)) (n : Str) : List Str := ns.filter fun o => decide (ord2 n o ∈ ts)
theorem scNear : FnScope ["names", "ties", "found", "hand"] ["names", "ties"] (defScope sNear) := ⟨rfl, rfl, rfl, by decide +kernel, rfl, by decide +kernel, by decide +kernel⟩
def nearKV (ns : List Str) (as : List Addr) : List (Key × V) := (ns.zip as).map fun p => (Sum.inr p.1, V.ref p.2)
def spNear (K : PySem.W.Frag) : Sp := fun vs H Q _ => ∃ (l1 l2 : Addr) (ns : List Str) (zs : List V) (ts : List (Str × Str)), vs = [.ref l1, .ref l2] /\ H l1 = some (.lst (ns.map V.str)) /\ H l2 = some (.lst zs) /\ TupsAt K H zs (ts.map kT) /\ ns.Nodup /\ ns.length <= 1000 /\ l1 ≠ l2 /\
 ∀ d as H', Same H H' -> H d = none -> as.length = ns.length -> H' d = some (.dK (nearKV ns as)) -> (∀ (i : Nat) n a, ns[i]? = some n -> as[i]? = some a -> H a = none /\ H' a = some (.lst ((near ns ts n).map V.str))) -> Q (.ref d) H'
theorem reps_of {K : PySem.W.Frag} {H : Hp} : ∀ {ts : List (Str × Str)} {zs : List V}, TupsAt K H zs (ts.map kT) -> Paired (r2 K rS rS H) zs ts
 | [], _, .nil => .nil
 | t :: ts, _, .cons ⟨a, e, h⟩ r => .cons ⟨a, _, _, e, .of (hpT h), rfl, rfl⟩ (reps_of r)
theorem map_get_str {ns : List Str} {i : Nat} {x : V} (h : (ns.map V.str)[i]? = some x) : ∃ n, ns[i]? = some n /\ x = .str n := by
 rw [List.getElem?_map] at h
 cases e : ns[i]? with
 | none => rw [e] at h; cases h
 | some n => rw [e] at h; exact ⟨n, rfl, (Option.some.inj h).symm⟩
theorem filter_snoc {α : Type} (p : α -> Bool) {l : List α} {i : Nat} {x : α} (h : l[i]? = some x) : (l.take (i + 1)).filter p = (l.take i).filter p ++ (if p x then [x] else []) := PySem.take_succ_filter p l i x h
theorem ok_near {f : Addr} {fd : FuncData} (F : Fun K "neighbours_of_all" "neighbours_of_all" sNear f fd) (cL : Cal P w K mg base 1 "lesser_first" ["one", "other"] spLesser) : FnOk P w K mg base CX0 2 f fd ["names", "ties"] (spNear K) := by
 refine F.ok scNear (fun vs H Q E h => ?_) (fun cdv A outer s H vs Q E hr h => ?_)
 ·obtain ⟨l1, l2, ns, zs, ts, rfl, _⟩ := h
  rfl
 ·obtain ⟨l1, l2, ns, zs, ts, rfl, hl1, hl2, tz, nd, h8, hne, k⟩ := h
  have hu := hu_of hr
  have hu3 := hr.units
  have sz := sizeLine_eq
  refine ⟨_, pss_cons (ps_set (i := 2) scNear.nd rfl (Or.inl rfl) pe_dnewK)
   (pss_cons (ps_for PassesOwn.never rfl (pi_list (pv 0)) (pg_name (i := 3) scNear.nd rfl (Or.inr rfl))
    (pss_one (ps_dput hu (pv 2) (pv 3) (pe_comp ["other", "hand", "ties"] 1 [3, 1] (pi_list (pv 0)) (fun fp s H => pg_name (i := 0) (show (["other", "hand", "ties"] : List Str).Nodup by decide +kernel) rfl (Or.inl rfl))
     (fun fp s H => pts_one (pt_cmpR (opK (K := K) (fun K => rInD K (r2 K rS rS) false) (op_inD (cmp2 cmpS cmpS) (roomU hr _))) (pe_fn cL hr (pa_cons (pv 1) (pa_cons (pv 0) pa_nil))) (pv 2) (by with_unfolding_all rfl))) (fun fp s H => pv 0)) rfl)))
   (pss_one (ps_ret (pv 2)))), ?_⟩
  intro d hd
  have s0 : Same H (upd H d (.dK [])) := Same.new hd
  refine ⟨_, rfl, l1, rfl, ⟨_, .of (s0 _ _ hl1)⟩, for_list (K := K) (a := l1) (xs := ns.map V.str) (fun i σ H2 => ∃ (v3 : Option V) (as : List Addr), σ = [some (.ref l1), some (.ref l2), some (.ref d), v3] /\ Same H H2 /\ as.length = i /\ H2 d = some (.dK (nearKV (ns.take i) as)) /\
   ∀ (j : Nat) n a, ns[j]? = some n -> as[j]? = some a -> H a = none /\ a ≠ d /\ H2 a = some (.lst ((near ns ts n).map V.str))) ⟨none, [], rfl, s0, rfl, upd_same, fun j n a _ e => by simp at e⟩ (fun i σ H2 _ ⟨_, _, _, s2, _⟩ => .of (s2 _ _ hl1)) ?_ ?_⟩
  ·rintro i y σ H2 hy ⟨v3, as, rfl, s2, la, hd2, lists⟩
   obtain ⟨n, hn, rfl⟩ := map_get_str hy
   have hi : i < ns.length := (List.getElem?_eq_some_iff.mp hn).1
   have lk : (nearKV (ns.take i) as).length = i := by
    unfold nearKV
    rw [List.length_map, List.length_zip, List.length_take]
    omega
   refine ⟨_, rfl, l1, rfl, ⟨_, .of (s2 _ _ hl1)⟩, fun D hD => ?_⟩
   refine comp_list (own := 1) (fv := [some (.str n), some (.ref l2)]) (xs := ns.map V.str) rfl gok1 (fun j out H' => Same H2 H' /\ H' D = some (.lst out) /\ out = ((ns.take j).filter fun o => decide (ord2 n o ∈ ts)).map V.str) ⟨Same.new hD, upd_same, rfl⟩ (fun j out H' _ ⟨sm, _, _⟩ => .of (sm _ _ (s2 _ _ hl1))) (fun out H' ⟨sm, hD', eo⟩ => ?_) (fun j x out H' hx ⟨sm, hD', eo⟩ => ?_)
   ·rw [List.length_map, List.take_length] at eo
    have nov : valV (nearKV (ns.take i) as) (Sum.inr n) = none := valV_none_of fun m => by
     unfold nearKV at m
     rw [List.map_map] at m
     obtain ⟨p, hp, e⟩ := List.mem_map.mp m
     have e : p.1 = n := Sum.inr.inj e
     have q := nodup_take (g := id) (by rw [List.map_id]; exact nd) hn
     rw [List.map_id] at q
     exact q (e ▸ (List.of_mem_zip hp).1)
    have neD : D ≠ d := fun z => by subst z; rw [hD] at hd2; cases hd2
    refine ⟨_, rfl, _, rfl, d, _, rfl, .k (k := Sum.inr n) (sm _ _ hd2) (by omega), ?_⟩
    refine ⟨_, as ++ [D], rfl, fun c o e => ?_, by rw [List.length_append, la]; rfl, ?_, fun j n' a hn' ha => ?_⟩
    ·rw [upd_ne (ne_of_none e hd)]
     exact sm _ _ (s2 _ _ e)
    ·rw [upd_same, putK_new _ nov]
     congr 2
     unfold nearKV
     rw [List.take_add_one, hn, List.zip_append (by rw [List.length_take]; omega), List.map_append]
     rfl
    ·by_cases hj : j < as.length
     ·rw [List.getElem?_append_left hj] at ha
      obtain ⟨q1, q2, q3⟩ := lists j n' a hn' ha
      refine ⟨q1, q2, ?_⟩
      rw [upd_ne q2]
      exact sm _ _ q3
     ·have hj2 : j = i := by
       have := (List.getElem?_eq_some_iff.mp ha).1
       rw [List.length_append] at this
       simp only [List.length_singleton] at this
       omega
      subst hj2
      rw [List.getElem?_append_right (by omega), la, Nat.sub_self] at ha
      have ha : D = a := by simpa using ha
      subst ha
      rw [hn] at hn'
      cases hn'
      refine ⟨s2.free hD, neD, ?_⟩
      rw [upd_ne neD, hD', eo]
      rfl
   ·obtain ⟨o, ho, rfl⟩ := map_get_str hx
    refine ⟨_, rfl, rfl, fun Nx hN => ?_⟩
    refine ⟨_, rfl, _, rfl, n, o, rfl, fun t ht => ?_⟩
    have s3 : Same H' (upd H' t (.tup [.str (ord2 n o).1, .str (ord2 n o).2])) := Same.new ht
    have tz' := ((tz.same s2).same sm).same s3
    have lo : out.length < sizeLine := by
     rw [eo, List.length_map]
     have := List.length_filter_le (fun o => decide (ord2 n o ∈ ts)) (ns.take j)
     rw [List.length_take] at this
     omega
    refine ⟨_, rfl, ord2 n o, ts, ⟨t, _, _, rfl, .of upd_same, rfl, rfl⟩, ⟨l2, zs, rfl, .of (s3 _ _ (sm _ _ (s2 _ _ hl2))), reps_of tz'⟩, _, rfl, ?_⟩
    refine ite2 (fun c => ?_) (fun c => ?_)
    ·refine ⟨_, rfl, out, s3 _ _ hD', lo, hN _ _ ⟨same_but (sm.trans s3) hD, upd_same, ?_⟩⟩
     have c : decide (ord2 n o ∈ ts) = true := by simpa using c
     rw [filter_snoc _ ho, if_pos c, List.map_append, eo]
     rfl
    ·refine hN _ _ ⟨sm.trans s3, s3 _ _ hD', ?_⟩
     have c : ¬ decide (ord2 n o ∈ ts) = true := by simpa using c
     rw [filter_snoc _ ho, if_neg c, List.append_nil, eo]
  ·rintro σ H2 ⟨v3, as, rfl, s2, la, hd2, lists⟩
   rw [List.length_map] at la hd2
   rw [List.take_length] at hd2
   exact ⟨_, rfl, k d as _ s2 hd la hd2 fun j n a h1 h2 => ⟨(lists j n a h1 h2).1, (lists j n a h1 h2).2.2⟩⟩
end
end Ev
set_option Elab.async false
set_option linter.all false
set_option maxRecDepth 100000
namespace Ev
open PySem L2
abbrev sInit : Stmt := inClass sWeb 0
abbrev sHas : Stmt := inClass sWeb 1
abbrev sHands : Stmt := inClass sWeb 2
abbrev sStrength : Stmt := inClass sWeb 3
abbrev sTiesM : Stmt := inClass sWeb 6
abbrev sMost : Stmt := inClass sWeb 7
def fstK : List Key -> Str
 | .inr a :: _ => a
 | _ => ⟨#[]⟩
def twoK : List Key -> Str × Str
 | [.inr a, .inr b] => (a, b)
 | _ => (⟨#[]⟩, ⟨#[]⟩)
def nmsOf (hs : List (Str × Int)) : List Str := (sortKs (hs.map kH)).map fstK
def tsOf (ts : List (Str × Str)) : List (Str × Str) := (sortKs (ts.map fun t => kT (ord2 t.1 t.2))).map twoK
theorem tsOf_keys (ts : List (Str × Str)) : (tsOf ts).map kT = sortKs (ts.map fun t => kT (ord2 t.1 t.2)) := by
 unfold tsOf
 rw [List.map_map]
 have all : ∀ k ∈ sortKs (ts.map fun t => kT (ord2 t.1 t.2)), ∃ t : Str × Str, k = kT t := fun k hk => by
  obtain ⟨t, _, e⟩ := List.mem_map.mp ((sortKs_perm _).mem_iff.mp hk)
  exact ⟨_, e.symm⟩
 generalize sortKs (ts.map fun t => kT (ord2 t.1 t.2)) = l at all
 induction l with
 | nil => rfl
 | cons k l ih =>
  obtain ⟨t, rfl⟩ := all k List.mem_cons_self
  rw [List.map_cons, ih fun k hk => all k (List.mem_cons_of_mem _ hk)]
  rfl
theorem sortH_form (hs : List (Str × Int)) : ∀ k ∈ sortKs (hs.map kH), ∃ h : Str × Int, h ∈ hs /\ k = kH h := fun k hk => by
 obtain ⟨t, ht, e⟩ := List.mem_map.mp ((sortKs_perm _).mem_iff.mp hk)
 exact ⟨t, ht, e.symm⟩
theorem nms_vals (hs : List (Str × Int)) : ((sortH hs).map fun kv => kV kv.1) = (nmsOf hs).map V.str := by
 unfold sortH nmsOf
 rw [List.map_map, List.map_map]
 refine List.map_congr_left fun k hk => ?_
 obtain ⟨h, _, rfl⟩ := sortH_form hs k hk
 rfl
theorem nms_keys (hs : List (Str × Int)) : (sortH hs).map (·.1) = (nmsOf hs).map Sum.inr := by
 unfold sortH nmsOf
 rw [List.map_map, List.map_map]
 refine List.map_congr_left fun k hk => ?_
 obtain ⟨h, _, rfl⟩ := sortH_form hs k hk
 rfl
theorem nms_perm (hs : List (Str × Int)) : (nmsOf hs).Perm (hs.map (·.1)) := by
 unfold nmsOf
 have p := (sortKs_perm (hs.map kH)).map fstK
 rw [List.map_map] at p
 exact p
theorem valV_some {κ : Type} [DecidableEq κ] {kvs : List (κ × V)} {k : κ} (h : k ∈ kvs.map (·.1)) : (valV kvs k).isSome = true := by
 rw [<- valV_any]
 obtain ⟨p, hp, e⟩ := List.mem_map.mp h
 exact List.any_eq_true.mpr ⟨p, hp, decide_eq_true e⟩
theorem nms_mem {hs : List (Str × Int)} {n : Str} : (valV (sortH hs) (Sum.inr n)).isSome = decide (n ∈ hs.map (·.1)) := by
 by_cases h : n ∈ hs.map (·.1)
 ·rw [decide_eq_true h]
  refine valV_some ?_
  rw [nms_keys]
  exact List.mem_map.mpr ⟨n, (nms_perm hs).mem_iff.mpr h, rfl⟩
 ·rw [decide_eq_false h, valV_none_of]
  ·rfl
  ·rw [nms_keys]
   intro m
   obtain ⟨x, hx, e⟩ := List.mem_map.mp m
   cases e
   exact h ((nms_perm hs).mem_iff.mp hx)
theorem n12 : ¬ (("strength_by_hand" : Str) = "sorted_pairs") := by decide +kernel
theorem n13 : ¬ (("strength_by_hand" : Str) = "neighbours_by_hand") := by decide +kernel
theorem n23 : ¬ (("sorted_pairs" : Str) = "neighbours_by_hand") := by decide +kernel
def flds (d1 l2 d3 : Addr) : List (Str × V) := putF "neighbours_by_hand" (.ref d3) (putF "sorted_pairs" (.ref l2) (putF "strength_by_hand" (.ref d1) []))
theorem flds_s (d1 l2 d3 : Addr) : (flds d1 l2 d3).lookup ("strength_by_hand" : Str) = some (.ref d1) := by
 unfold flds
 rw [lookup_putF, if_neg n13, lookup_putF, if_neg n12, lookup_putF, if_pos rfl]
theorem flds_p (d1 l2 d3 : Addr) : (flds d1 l2 d3).lookup ("sorted_pairs" : Str) = some (.ref l2) := by
 unfold flds
 rw [lookup_putF, if_neg n23, lookup_putF, if_pos rfl]
theorem flds_n (d1 l2 d3 : Addr) : (flds d1 l2 d3).lookup ("neighbours_by_hand" : Str) = some (.ref d3) := by
 unfold flds
 rw [lookup_putF, if_pos rfl]
theorem flds_no (d1 l2 d3 : Addr) {m : Str} (h1 : ¬ m = "strength_by_hand") (h2 : ¬ m = "sorted_pairs") (h3 : ¬ m = "neighbours_by_hand") : (flds d1 l2 d3).lookup m = none := by
 unfold flds
 rw [lookup_putF, if_neg h3, lookup_putF, if_neg h2, lookup_putF, if_neg h1]
 all_goals rfl
structure WebAt (K : PySem.W.Frag) (C : Addr) (H : Hp) (p : Addr) (hs : List (Str × Int)) (ts : List (Str × Str)) (fp : List Addr) : Prop where
 ex : ∃ (dx d1 l2 d3 : Addr) (zs : List V) (as : List Addr), fp = p :: d1 :: l2 :: d3 :: as /\ H p = some (.ins C dx (flds d1 l2 d3)) /\ H d1 = some (.dK (sortH hs)) /\ H l2 = some (.lst zs) /\ TupsAt K H zs ((tsOf ts).map kT) /\ H d3 = some (.dK (nearKV (nmsOf hs) as)) /\ as.length = (nmsOf hs).length /\
  ∀ (i : Nat) n a, (nmsOf hs)[i]? = some n -> as[i]? = some a -> H a = some (.lst ((near (nmsOf hs) (tsOf ts) n).map V.str))
theorem WebAt.keep {K : PySem.W.Frag} {C : Addr} {H H' : Hp} {p : Addr} {hs : List (Str × Int)} {ts : List (Str × Str)} {fp : List Addr} (W : WebAt K C H p hs ts fp) (k : ∀ b ∈ fp, ∀ o, H b = some o -> H' b = some o) (kt : ∀ b xs, H b = some (.tup xs) -> H' b = some (.tup xs)) : WebAt K C H' p hs ts fp := by
 obtain ⟨dx, d1, l2, d3, zs, as, rfl, h1, h2, h3, h4, h5, h6, h7⟩ := W.ex
 refine ⟨dx, d1, l2, d3, zs, as, rfl, k _ (by simp) _ h1, k _ (by simp) _ h2, k _ (by simp) _ h3, Paired.mapP h4 fun y q ⟨a, e, z⟩ => ⟨a, e, kt _ _ z⟩, k _ (by simp) _ h5, h6, fun i n a e1 e2 => k _ ?_ _ (h7 i n a e1 e2)⟩
 have := List.mem_of_getElem? e2
 simp [this]
theorem WebAt.same {K : PySem.W.Frag} {C : Addr} {H H' : Hp} {p : Addr} {hs : List (Str × Int)} {ts : List (Str × Str)} {fp : List Addr} (W : WebAt K C H p hs ts fp) (s : Same H H') : WebAt K C H' p hs ts fp := W.keep (fun b _ o e => s b o e) fun b xs e => s b _ e
structure Good (hs : List (Str × Int)) (ts : List (Str × Str)) : Prop where
 hok : ∀ h ∈ hs, goodH h
 hnd : (hs.map (·.1)).Nodup
 h1 : 1 <= hs.length
 h8 : hs.length <= 8
 tok : ∀ t ∈ ts, goodT t
 tnd : (ts.map fun t => kT (ord2 t.1 t.2)).Nodup
 t64 : ts.length < 64
 tin : ∀ t ∈ ts, t.1 ∈ hs.map (·.1) /\ t.2 ∈ hs.map (·.1)
theorem Good.nnd {hs : List (Str × Int)} {ts : List (Str × Str)} (G : Good hs ts) : (nmsOf hs).Nodup := (nms_perm hs).nodup_iff.mpr G.hnd
theorem Good.nlen {hs : List (Str × Int)} {ts : List (Str × Str)} (G : Good hs ts) : (nmsOf hs).length = hs.length := by
 rw [(nms_perm hs).length_eq, List.length_map]
theorem tsOf_len (ts : List (Str × Str)) : (tsOf ts).length = ts.length := by
 unfold tsOf
 rw [List.length_map, (sortKs_perm _).length_eq, List.length_map]
structure Txt (K : PySem.W.Frag) (mg : Str -> Option Value) (C : Addr) : Prop where
 cl : Cls K C
 nS : NoAttr K C "strength_by_hand"
 nP : NoAttr K C "sorted_pairs"
 nN : NoAttr K C "neighbours_by_hand"
section
variable {P : Program} {w : World} {K : PySem.W.Frag} {mg : Str -> Option Value} {base : Heap}
theorem scInit : FnScope ["self", "hands", "ties", "strengths", "checked"] ["self", "hands", "ties"] (defScope sInit) := ⟨rfl, rfl, rfl, by decide +kernel, rfl, by decide +kernel, by decide +kernel⟩
def spInit (K : PySem.W.Frag) (C : Addr) : Sp := fun vs H Q _ => ∃ (p dx lh lt : Addr) (ys zs : List V) (hs : List (Str × Int)) (ts : List (Str × Str)), vs = [.ref p, .ref lh, .ref lt] /\ H p = some (.ins C dx []) /\ H lh = some (.lst ys) /\ TupsAt K H ys (hs.map kH) /\ H lt = some (.lst zs) /\ TupsAt K H zs (ts.map kT) /\ Good hs ts /\
 ∀ fp H', (∀ b o, H b = some o -> b ≠ p -> H' b = some o) -> WebAt K C H' p hs ts fp -> (∀ b ∈ fp, b = p ∨ H b = none) -> Q .non H'
theorem ok_init {f C : Addr} {fd : FuncData} (F : Fun K "__init__" "Web.__init__" sInit f fd) (T : Txt K mg C) (B : Bi mg) (cS : Cal P w K mg base 4 "checked_strengths" ["hands"] (spStr K)) (cT : Cal P w K mg base 4 "checked_ties" ["ties", "strengths"] (spTies K)) (cN : Cal P w K mg base 2 "neighbours_of_all" ["names", "ties"] (spNear K)) :
  FnOk P w K mg base CX0 5 f fd ["self", "hands", "ties"] (spInit K C) := by
 refine F.ok scInit (fun vs H Q E h => ?_) (fun cdv A outer s H vs Q E hr h => ?_)
 ·obtain ⟨p, dx, lh, lt, ys, zs, hs, ts, rfl, _⟩ := h
  rfl
 ·obtain ⟨p, dx, lh, lt, ys, zs, hs, ts, rfl, hp, hlh, th, hlt, tt, G, k⟩ := h
  have hr3 : Room 3 _ := hr.mono (by decide)
  have hr2 : Room 2 _ := hr.mono (by decide)
  refine ⟨_, pss_cons (ps_set (i := 3) scInit.nd rfl (Or.inl rfl) (pe_fn cS hr (pa_cons (pv 1) pa_nil)))
   (pss_cons (ps_set (i := 4) scInit.nd rfl (Or.inl rfl) (pe_fn cT hr (pa_cons (pv 2) (pa_cons (pv 3) pa_nil))))
   (pss_cons (ps_fld (pv 0) (pv 3) rfl) (pss_cons (ps_fld (pv 0) (pv 4) rfl)
   (pss_one (ps_fld (pv 0) (pe_fn cN hr2 (pa_cons (pe_callTy (call_listD rfl) (by rfl) B.list PyProof.Rows.Boot.«list» (pa_cons (pv 3) pa_nil)) (pa_cons (pv 4) pa_nil))) rfl))))), ?_⟩
  refine ⟨_, rfl, lh, ys, hs, rfl, hlh, th, G.hok, G.hnd, G.h1, G.h8, fun d1 H1 s1 f1 hd1 => ?_⟩
  refine ⟨_, rfl, _, rfl, lt, d1, zs, ts, _, rfl, s1 _ _ hlt, tt.same s1, G.tok, G.tnd, G.t64, hd1, fun t ht => ?_, fun l2 zs2 H2 s2 f2 hl2 tz => ?_⟩
  ·rw [nms_mem, nms_mem]
   exact ⟨decide_eq_true (G.tin t ht).1, decide_eq_true (G.tin t ht).2⟩
  have hd12 := s2 _ _ hd1
  have hp2 := s2 _ _ (s1 _ _ hp)
  have p1 : p ≠ d1 := ne_of hp2 hd12 (by intro z; cases z)
  have p2 : p ≠ l2 := ne_of hp2 hl2 (by intro z; cases z)
  refine ⟨_, rfl, _, rfl, p, C, dx, [], rfl, hp2, T.cl, T.nS, by show 0 < 1000; decide, ?_⟩
  refine ⟨_, rfl, _, rfl, p, C, dx, _, rfl, upd_same, T.cl, T.nP, by show 1 < 1000; decide, ?_⟩
  let H3 : Hp := upd (upd H2 p (.ins C dx (putF "strength_by_hand" (.ref d1) []))) p (.ins C dx (putF "sorted_pairs" (.ref l2) (putF "strength_by_hand" (.ref d1) [])))
  have h3 : ∀ {b o}, H2 b = some o -> b ≠ p -> H3 b = some o := fun e ne => by
   show upd (upd H2 p _) p _ _ = _
   rw [upd_ne ne, upd_ne ne]
   exact e
  have h3p : H3 p = some (.ins C dx (putF "sorted_pairs" (.ref l2) (putF "strength_by_hand" (.ref d1) []))) := upd_same
  have none3 : ∀ {b}, H3 b = none -> H2 b = none := fun {b} e => by
   by_cases z : b = p
   ·subst z; rw [h3p] at e; cases e
   ·have e : upd (upd H2 p _) p _ b = none := e
    rw [upd_ne z, upd_ne z] at e
    exact e
  have tz3 : TupsAt K H3 zs2 ((tsOf ts).map kT) := by
   rw [tsOf_keys]
   exact Paired.mapP tz fun y q ⟨a, e, z⟩ => ⟨a, e, h3 z (ne_of z hp2 (by intro z; cases z))⟩
  refine ⟨_, rfl, d1, _, rfl, .inl (h3 hd12 p1.symm), fun l1 hl1 => ?_⟩
  rw [nms_vals]
  have s4 : Same H3 (upd H3 l1 (.lst ((nmsOf hs).map V.str))) := Same.new hl1
  have ne12 : l1 ≠ l2 := (ne_of_none (H := H3) (h3 hl2 p2.symm) hl1).symm
  refine ⟨_, rfl, l1, l2, nmsOf hs, zs2, tsOf ts, rfl, upd_same, s4 _ _ (h3 hl2 p2.symm), tz3.same s4, G.nnd, by rw [G.nlen]; have := G.h8; omega, ne12, fun d3 as H5 s5 f5 la hd3 lists => ?_⟩
  have hp5 := s5 _ _ (s4 _ _ h3p)
  refine ⟨_, rfl, p, C, dx, _, rfl, hp5, T.cl, T.nN, by show 2 < 1000; decide, ?_⟩
  have up : ∀ {b o}, H2 b = some o -> b ≠ p -> upd H5 p (.ins C dx (flds d1 l2 d3)) b = some o := fun e ne => by
   rw [upd_ne ne]
   exact s5 _ _ (s4 _ _ (h3 e ne))
  have fr5 : ∀ {b}, upd H3 l1 (.lst ((nmsOf hs).map V.str)) b = none -> H b = none := fun e => s1.free (s2.free (none3 (s4.free e)))
  have hd3p : d3 ≠ p := (ne_of_none (s4 _ _ h3p) f5).symm
  refine k (p :: d1 :: l2 :: d3 :: as) _ (fun b o e ne => up (s2 _ _ (s1 _ _ e)) ne) ⟨dx, d1, l2, d3, zs2, as, rfl, upd_same, up hd12 p1.symm, up hl2 p2.symm, ?_, ?_, la, fun i n a e1 e2 => ?_⟩ fun b hb => ?_
  ·exact Paired.mapP (tz3.same (s4.trans s5)) fun y q ⟨a, e, z⟩ => ⟨a, e, by rw [upd_ne (ne_of z hp5 (by intro z; cases z))]; exact z⟩
  ·rw [upd_ne hd3p]
   exact hd3
  ·obtain ⟨q1, q2⟩ := lists i n a e1 e2
   rw [upd_ne (ne_of q2 hp5 (by intro z; cases z))]
   exact q2
  ·simp only [List.mem_cons] at hb
   rcases hb with rfl | rfl | rfl | rfl | hb
   ·exact .inl rfl
   ·exact .inr f1
   ·exact .inr (s1.free f2)
   ·exact .inr (fr5 f5)
   ·obtain ⟨i, hi, e⟩ := List.getElem_of_mem hb
    have e1 : as[i]? = some b := by rw [List.getElem?_eq_getElem hi, e]
    have hn : i < (nmsOf hs).length := by omega
    exact .inr (fr5 (lists i _ b (List.getElem?_eq_getElem hn) e1).1)
end
end Ev
set_option Elab.async false
set_option linter.all false
set_option maxRecDepth 100000
namespace Ev
open PySem L2
structure CalM (P : Program) (w : World) (K : PySem.W.Frag) (mg : Str -> Option Value) (base : Heap) (C : Addr) (k : Nat) (m : Str) (ps : List Str) (sp : Sp) : Prop where
 ex : ∃ f fd, FnOk P w K mg base CX0 k f fd ps sp /\ Meth K C m f /\ Binds K fd ps []
theorem pe_mt {X : Cx} {C : Addr} {k : Nat} {m : Str} {ps : List Str} {sp : Sp} {pos apos : Pos} {o e : Expr} {es : List Expr} {ta : TE} {t : TA} {pl : Sem Bool} (c : CalM X.prog X.w X.K X.mg X.base C k m ps sp) (cl : Cls X.K C) (hr : Room k X.A) (he : PE X o ta) (ha : PA X (e :: es) t)
  (hst : starEach (e :: es) X.env = (false, eval e X.env) :: starEach es X.env := by rfl) (hpl : (backTo pos (starEach es X.env)).any (·.1) = false := by rfl)
  (ht : eval (.Call (.Attribute o m apos) (e :: es) [] pos) X.env = (do
   let ov <- eval o X.env
   standAt apos.atName
   let (f, first) <- holding [ov] (getMethod ov m pl)
   callWith pos f first (backTo pos (starEach (e :: es) X.env)) (backToKw pos (keywordEach [] X.env))) := by rfl) :
  PE X (.Call (.Attribute o m apos) (e :: es) [] pos) (tMeth C m sp [] E0 ta t) := by
 obtain ⟨f, fd, F, hm, b⟩ := c.ex
 exact pe_meth he cl hm F hr b .nil pass0 ha hst hpl ht
theorem pe_mt0 {X : Cx} {C : Addr} {k : Nat} {m : Str} {ps : List Str} {sp : Sp} {pos apos : Pos} {o : Expr} {ta : TE} {pl : Sem Bool} (c : CalM X.prog X.w X.K X.mg X.base C k m ps sp) (cl : Cls X.K C) (hr : Room k X.A) (he : PE X o ta)
  (ht : eval (.Call (.Attribute o m apos) [] [] pos) X.env = (do
   let ov <- eval o X.env
   standAt apos.atName
   let (f, first) <- holding [ov] (getMethod ov m pl)
   callWith pos f first (backTo pos (starEach [] X.env)) (backToKw pos (keywordEach [] X.env))) := by rfl) :
  PE X (.Call (.Attribute o m apos) [] [] pos) (tMeth C m sp [] E0 ta tNil) := by
 obtain ⟨f, fd, F, hm, b⟩ := c.ex
 exact pe_meth0 he cl hm F hr b .nil pass0 ht
theorem valV_sortH {hs : List (Str × Int)} (nd : (hs.map (·.1)).Nodup) {x : Str} {n : Int} (h : (x, n) ∈ hs) : valV (sortH hs) (Sum.inr x) = some (.int n) := by
 have m : ((Sum.inr x : Key), V.int n) ∈ sortH hs := by
  unfold sortH
  refine List.mem_map.mpr ⟨kH (x, n), (sortKs_perm _).mem_iff.mpr (List.mem_map.mpr ⟨_, h, rfl⟩), rfl⟩
 have nk := sortH_nodup nd
 generalize sortH hs = kvs at m nk
 induction kvs with
 | nil => cases m
 | cons p r ih =>
  obtain ⟨n1, n2⟩ := List.nodup_cons.mp nk
  rcases List.mem_cons.mp m with e | m
  ·rw [<- e]
   exact valV_pos rfl
  ·rw [valV_neg (fun e : p.1 = Sum.inr x => n1 (List.mem_map.mpr ⟨_, m, e.symm⟩))]
   exact ih m n2
section
variable {P : Program} {w : World} {K : PySem.W.Frag} {mg : Str -> Option Value} {base : Heap}
theorem scHas : FnScope ["self", "thing"] ["self", "thing"] (defScope sHas) := ⟨rfl, rfl, rfl, by decide +kernel, rfl, by decide +kernel, by decide +kernel⟩
def spHas (K : PySem.W.Frag) (C : Addr) : Sp := fun vs H Q _ => ∃ (p : Addr) (x : Str) (hs : List (Str × Int)) (ts : List (Str × Str)) (fp : List Addr), vs = [.ref p, .str x] /\ WebAt K C H p hs ts fp /\ Q (.bl (decide (x ∈ hs.map (·.1)))) H
theorem ok_has {f C : Addr} {fd : FuncData} (F : Fun K "has_hand" "Web.has_hand" sHas f fd) (T : Txt K mg C) (B : Bi mg) : FnOk P w K mg base CX0 1 f fd ["self", "thing"] (spHas K C) := by
 refine F.ok scHas (fun vs H Q E h => ?_) (fun cdv A outer s H vs Q E hr h => ?_)
 ·obtain ⟨p, x, hs, ts, fp, rfl, _⟩ := h
  rfl
 ·obtain ⟨p, x, hs, ts, fp, rfl, W, k⟩ := h
  have hu := hu_of hr
  obtain ⟨dx, d1, l2, d3, zs, as, rfl, h1, h2, h3, h4, h5, h6, h7⟩ := W.ex
  refine ⟨_, pss_one (ps_ret (pe_and (pe_callB call_isi (by rfl) B.isi PyProof.Rows.Boot.«isinstance» (pa_cons (pv 1) (pa_cons (pe_bltn (v := .ty "str") (by rfl) B.str PyProof.Rows.Boot.«str» rfl) pa_nil))) (pe_one (pe_cmp (pc_din hu (pv 1) (pe_fld (pv 0) rfl)))))), ?_⟩
  refine ⟨_, rfl, _, _, _, _, rfl, .str x, rfl, _, rfl, iteT ?_⟩
  refine ⟨_, rfl, _, rfl, p, C, dx, _, _, rfl, h1, T.cl, T.nS, flds_s _ _ _, d1, _, rfl, .k (k := Sum.inr x) h2, ?_⟩
  rw [nms_mem]
  exact k
theorem scHands : FnScope ["self"] ["self"] (defScope sHands) := ⟨rfl, rfl, rfl, by decide +kernel, rfl, by decide +kernel, by decide +kernel⟩
def spHands (K : PySem.W.Frag) (C : Addr) : Sp := fun vs H Q _ => ∃ (p : Addr) (hs : List (Str × Int)) (ts : List (Str × Str)) (fp : List Addr), vs = [.ref p] /\ WebAt K C H p hs ts fp /\ ∀ l, H l = none -> Q (.ref l) (upd H l (.lst ((nmsOf hs).map V.str)))
theorem ok_hands {f C : Addr} {fd : FuncData} (F : Fun K "hands" "Web.hands" sHands f fd) (T : Txt K mg C) (B : Bi mg) : FnOk P w K mg base CX0 1 f fd ["self"] (spHands K C) := by
 refine F.ok scHands (fun vs H Q E h => ?_) (fun cdv A outer s H vs Q E hr h => ?_)
 ·obtain ⟨p, hs, ts, fp, rfl, _⟩ := h
  rfl
 ·obtain ⟨p, hs, ts, fp, rfl, W, k⟩ := h
  obtain ⟨dx, d1, l2, d3, zs, as, rfl, h1, h2, h3, h4, h5, h6, h7⟩ := W.ex
  refine ⟨_, pss_one (ps_ret (pe_callTy (call_listD rfl) (by rfl) B.list PyProof.Rows.Boot.«list» (pa_cons (pe_fld (pv 0) rfl) pa_nil))), ?_⟩
  refine ⟨_, rfl, p, C, dx, _, _, rfl, h1, T.cl, T.nS, flds_s _ _ _, d1, _, rfl, .inl h2, fun l hl => ?_⟩
  rw [nms_vals]
  exact k l hl
theorem scStrength : FnScope ["self", "hand"] ["self", "hand"] (defScope sStrength) := ⟨rfl, rfl, rfl, by decide +kernel, rfl, by decide +kernel, by decide +kernel⟩
def spStrength (K : PySem.W.Frag) (C : Addr) : Sp := fun vs H Q _ => ∃ (p : Addr) (x : Str) (n : Int) (hs : List (Str × Int)) (ts : List (Str × Str)) (fp : List Addr), vs = [.ref p, .str x] /\ WebAt K C H p hs ts fp /\ (hs.map (·.1)).Nodup /\ (x, n) ∈ hs /\ Q (.int n) H
theorem ok_strength {f C : Addr} {fd : FuncData} (F : Fun K "strength" "Web.strength" sStrength f fd) (T : Txt K mg C) (cH : CalM P w K mg base C 1 "has_hand" ["self", "thing"] (spHas K C)) : FnOk P w K mg base CX0 2 f fd ["self", "hand"] (spStrength K C) := by
 refine F.ok scStrength (fun vs H Q E h => ?_) (fun cdv A outer s H vs Q E hr h => ?_)
 ·obtain ⟨p, x, n, hs, ts, fp, rfl, _⟩ := h
  rfl
 ·obtain ⟨p, x, n, hs, ts, fp, rfl, W, nd, hx, k⟩ := h
  have hu := hu_of hr
  obtain ⟨dx, d1, l2, d3, zs, as, rfl, h1, h2, h3, h4, h5, h6, h7⟩ := id W.ex
  refine ⟨_, pss_cons (ps_if (pt_not (pt_val (pe_mt cH T.cl hr (pv 0) (pa_cons (pv 1) pa_nil)))) pss_never pss_nil) (pss_one (ps_ret (pe_dget hu (pe_fld (pv 0) rfl) (pv 1) (fun _ _ => rfl)))), ?_⟩
  refine ⟨_, rfl, p, dx, _, rfl, h1, flds_no _ _ _ (by decide +kernel) (by decide +kernel) (by decide +kernel), _, rfl, p, x, hs, ts, _, rfl, W, _, rfl, ?_⟩
  rw [decide_eq_true (List.mem_map.mpr ⟨_, hx, rfl⟩)]
  refine iteF ?_
  refine ⟨_, rfl, p, C, dx, _, _, rfl, h1, T.cl, T.nS, flds_s _ _ _, _, rfl, d1, _, rfl, ?_, k⟩
  rw [<- valV_sortH nd hx]
  exact .k (k := Sum.inr x) h2
theorem scTiesM : FnScope ["self"] ["self"] (defScope sTiesM) := ⟨rfl, rfl, rfl, by decide +kernel, rfl, by decide +kernel, by decide +kernel⟩
def spTiesM (K : PySem.W.Frag) (C : Addr) : Sp := fun vs H Q _ => ∃ (p : Addr) (hs : List (Str × Int)) (ts : List (Str × Str)) (fp : List Addr), vs = [.ref p] /\ WebAt K C H p hs ts fp /\ ts.length < 64 /\ ∀ l zs H', Same H H' -> H l = none -> H' l = some (.lst zs) -> TupsAt K H' zs ((tsOf ts).map kT) -> Q (.ref l) H'
theorem ok_tiesM {f C : Addr} {fd : FuncData} (F : Fun K "ties" "Web.ties" sTiesM f fd) (T : Txt K mg C) (cA : Cal P w K mg base 1 "ties_anew" ["ties"] (spAnew K)) : FnOk P w K mg base CX0 2 f fd ["self"] (spTiesM K C) := by
 refine F.ok scTiesM (fun vs H Q E h => ?_) (fun cdv A outer s H vs Q E hr h => ?_)
 ·obtain ⟨p, hs, ts, fp, rfl, _⟩ := h
  rfl
 ·obtain ⟨p, hs, ts, fp, rfl, W, h64, k⟩ := h
  obtain ⟨dx, d1, l2, d3, zs, as, rfl, h1, h2, h3, h4, h5, h6, h7⟩ := W.ex
  refine ⟨_, pss_one (ps_ret (pe_fn cA hr (pa_cons (pe_fld (pv 0) rfl) pa_nil))), ?_⟩
  exact ⟨_, rfl, p, C, dx, _, _, rfl, h1, T.cl, T.nP, flds_p _ _ _, l2, zs, tsOf ts, rfl, h3, h4, by rw [tsOf_len]; omega, k⟩
theorem scMost : FnScope ["self"] ["self"] (defScope sMost) := ⟨rfl, rfl, rfl, by decide +kernel, rfl, by decide +kernel, by decide +kernel⟩
def lens (hs : List (Str × Int)) (ts : List (Str × Str)) : List Int := (nmsOf hs).map fun n => ((near (nmsOf hs) (tsOf ts) n).length : Int)
def spMost (K : PySem.W.Frag) (C : Addr) : Sp := fun vs H Q _ => ∃ (p : Addr) (hs : List (Str × Int)) (ts : List (Str × Str)) (fp : List Addr), vs = [.ref p] /\ WebAt K C H p hs ts fp /\ 0 < (nmsOf hs).length /\ (nmsOf hs).length <= 1000 /\ ∀ m H', Same H H' -> m ∈ lens hs ts -> (∀ a ∈ lens hs ts, a <= m) -> Q (.int m) H'
theorem ok_most {f C : Addr} {fd : FuncData} (F : Fun K "most_neighbours" "Web.most_neighbours" sMost f fd) (T : Txt K mg C) (B : Bi mg) : FnOk P w K mg base CX0 1 f fd ["self"] (spMost K C) := by
 refine F.ok scMost (fun vs H Q E h => ?_) (fun cdv A outer s H vs Q E hr h => ?_)
 ·obtain ⟨p, hs, ts, fp, rfl, _⟩ := h
  rfl
 ·obtain ⟨p, hs, ts, fp, rfl, W, h0, h8, k⟩ := h
  have sz := sizeLine_eq
  obtain ⟨dx, d1, l2, d3, zs, as, rfl, h1, h2, h3, h4, h5, h6, h7⟩ := W.ex
  refine ⟨_, pss_one (ps_ret (pe_callB (call_max rfl) (by rfl) B.max PyProof.Rows.Boot.«max» (pa_cons (pe_thaw (pe_comp ["row"] 1 [] (pi_vals (pe_values (pe_fld (pv 0) rfl))) (fun fp s H => pg_name (i := 0) (show (["row"] : List Str).Nodup by decide +kernel) rfl (Or.inl rfl)) (fun fp s H => pts_nil)
   (fun fp s H => pe_callB (cLen (K := K)) (by rfl) B.len PySem.boot_len (pa_cons (pv 0) pa_nil)))) pa_nil))), ?_⟩
  refine ⟨d3, _, h5, _, rfl, p, C, dx, _, _, rfl, h1, T.cl, T.nN, flds_n _ _ _, d3, _, rfl, h5, fun v hv => ?_⟩
  have s1 : Same H (upd H v (valuesV v d3)) := Same.new hv
  refine ⟨v, d3, _, rfl, upd_same, s1 _ _ h5, fun o D hD => ?_⟩
  have lk : (nearKV (nmsOf hs) as).length = (nmsOf hs).length := by
   unfold nearKV
   rw [List.length_map, List.length_zip]
   omega
  have base' : ∀ {b u}, H b = some u -> u ≠ .dK (nearKV (nmsOf hs) as) -> upd (upd H v (valuesV v d3)) d3 (.frz o (.dK (nearKV (nmsOf hs) as))) b = some u := fun e ne => by
   rw [upd_ne (ne_of e h5 ne)]
   exact s1 _ _ e
  refine comp_it (own := 1) (fv := []) rfl gok1 (nmsOf hs).length (fun i out H' => Same (upd (upd H v (valuesV v d3)) d3 (.frz o (.dK (nearKV (nmsOf hs) as)))) H' /\ H' D = some (.lst out) /\ out = ((lens hs ts).take i).map V.int) ⟨Same.new hD, upd_same, rfl⟩ (fun out H' ⟨sm, hD', eo⟩ => ?_) (fun i out H' hi ⟨sm, hD', eo⟩ => ?_)
  ·have hf := sm _ _ (show upd (upd H v (valuesV v d3)) d3 (.frz o (.dK (nearKV (nmsOf hs) as))) d3 = some _ from upd_same)
   have Dd : D ≠ d3 := ne_of hD' hf (by intro z; cases z)
   have ll : (lens hs ts).length = (nmsOf hs).length := by unfold lens; rw [List.length_map]
   rw [<- ll, List.take_length] at eo
   refine ⟨⟨hf, by omega⟩, o, hf, D, lens hs ts, rfl, .of ?_, by omega, fun m hm hle => k m _ (fun b u e => ?_) hm hle⟩
   ·rw [upd_ne Dd, hD', eo]
   ·by_cases z : b = d3
    ·subst z
     rw [upd_same, <- h5]
     exact e
    ·rw [upd_ne z]
     exact sm _ _ (by rw [upd_ne z]; exact s1 _ _ e)
  ·have hf := sm _ _ (show upd (upd H v (valuesV v d3)) d3 (.frz o (.dK (nearKV (nmsOf hs) as))) d3 = some _ from upd_same)
   refine ⟨⟨hf, by omega⟩, fun x H2 y => ?_⟩
   obtain ⟨eH, kk, hk⟩ := y
   subst eH
   have hn : (nmsOf hs)[i]? = some (nmsOf hs)[i] := List.getElem?_eq_getElem hi
   have ha : as[i]? = some (as[i]'(by omega)) := List.getElem?_eq_getElem (by omega)
   have ex : x = .ref (as[i]'(by omega)) := by
    unfold nearKV at hk
    rw [List.getElem?_map, List.getElem?_eq_getElem (by rw [List.length_zip]; omega), List.getElem_zip] at hk
    exact (Prod.mk.inj (Option.some.inj hk)).2.symm
   subst ex
   have hrow := h7 i _ _ hn ha
   refine ⟨_, rfl, rfl, fun Nx hN => yesT ?_⟩
   refine ⟨_, rfl, _, _, rfl, .inl (.of (sm _ _ (base' hrow (by intro z; cases z)))), out, hD', ?_, hN _ _ ⟨same_but sm hD, upd_same, ?_⟩⟩
   ·rw [eo, List.length_map, List.length_take]
    unfold lens
    rw [List.length_map]
    omega
   ·rw [take_succ_map _ (show (lens hs ts)[i]? = some (((near (nmsOf hs) (tsOf ts) (nmsOf hs)[i]).length : Nat) : Int) by unfold lens; rw [List.getElem?_map, hn]; rfl), eo, List.length_map]
end
end Ev
set_option Elab.async false
set_option linter.all false
set_option maxRecDepth 100000
namespace L2
open PySem PySem.Spec PyProof.Rows PySem.W
def Ite (K : PySem.W.Frag) (a : Addr) : It :=
 ⟨fun i H => ∃ xs x, SqL K H a xs /\ xs[i]? = some x, fun i H y H' => ∃ t x, y = .ref t /\ H t = none /\ (∀ xs, SqL K H a xs -> xs[i]? = some x) /\ H' = upd H t (.tup [.int i, x]), fun i H => ∃ xs, SqL K H a xs /\ xs.length = i⟩
theorem Inv.turnedN {X : Cx} {pins : List (Addr × Obj)} {σ : St} {H : Hp} {s : Shared} {h' : Heap} {t' : Nat} {fp : List Addr} {T : Addr} {xs : List V} {its : List Value} (I : Inv X pins σ H s) (k : ∀ b o, b ∉ fp -> s.heap.get? b = some o -> h'.get? b = some o) (hf : ∀ b ∈ fp, FpOk X pins H b)
  (hT : s.heap.objs.size <= T) (hz : xs.length <= sizeLine) (r : Vals xs its) (ht : IsTup h' T its.toArray /\ ∃ o, h'.get? T = some o /\ o.dict = none) : Inv X pins σ (upd H T (.tup xs)) { s with heap := h', toks := t' } := by
 have fT : H T = none := I.hok.fresh hT
 have nf : ∀ b u, H b = some u -> b ∉ fp := fun b u e hb => by rw [(hf b hb).1] at e; cases e
 have old : ∀ {b u}, H b = some u -> upd H T (.tup xs) b = some u := fun e => by rw [upd_ne (ne_of_none e fT)]; exact e
 refine I.step (g' := s.gens) (d' := s.drawn) (ch := fp) (fun b hb => ?_) (fun b o _ _ hc e _ => k b o hc e) (fun b o _ _ hc e _ => ⟨o.slots, k b o hc e⟩) (fun b o _ e n => ?_)
  (fun b o hc e => ⟨o, k b o hc e⟩) (fun b ys e => old e) (fun b o u e => old e) (fun b ps e => ⟨#[], by rw [Array.append_empty]; exact old e⟩) (fun m hm => ?_) (fun b u e => ?_) I.bare
 ·obtain ⟨f0, f1, f2, f3, f4, f5⟩ := hf b hb
  exact ⟨f3, f1, f4, f5⟩
 ·rw [upd_ne (fun z => by subst z; exact absurd (Heap.lt_size e) (Nat.not_lt.mpr hT))]
  exact n
 ·obtain ⟨o, es, ep, ho, r⟩ := hm
  exact ⟨o, es, ep, k _ o (fun hb => (hf _ hb).2.1 rfl) ho, r⟩
 ·by_cases z : b = T
  ·subst z
   rw [upd_same] at e
   cases e
   exact ⟨hz, its, r, ht⟩
  ·rw [upd_ne z] at e
   refine (I.hok b u e).stay (fun c v hc q => k c v ?_ q) (fun _ q => old q) fun _ _ q => old q
   rcases hc with z | z
   ·rw [z]; exact nf b u e
   ·exact nf c _ z
theorem Inv.turnedF {X : Cx} {pins : List (Addr × Obj)} {σ : St} {H : Hp} {s : Shared} {h' : Heap} {t' : Nat} {fp : List Addr} (I : Inv X pins σ H s) (k : ∀ b o, b ∉ fp -> s.heap.get? b = some o -> h'.get? b = some o) (hf : ∀ b ∈ fp, FpOk X pins H b) : Inv X pins σ H { s with heap := h', toks := t' } := by
 have nf : ∀ b u, H b = some u -> b ∉ fp := fun b u e hb => by rw [(hf b hb).1] at e; cases e
 refine I.step (g' := s.gens) (d' := s.drawn) (ch := fp) (fun b hb => ?_) (fun b o _ _ hc e _ => k b o hc e) (fun b o _ _ hc e _ => ⟨o.slots, k b o hc e⟩) (fun b o _ e n => n)
  (fun b o hc e => ⟨o, k b o hc e⟩) (fun b ys e => e) (fun b o u e => e) (fun b ps e => ⟨#[], by rw [Array.append_empty]; exact e⟩) (fun m hm => ?_) (fun b u e => ?_) I.bare
 ·obtain ⟨f0, f1, f2, f3, f4, f5⟩ := hf b hb
  exact ⟨f3, f1, f4, f5⟩
 ·obtain ⟨o, es, ep, ho, r⟩ := hm
  exact ⟨o, es, ep, k _ o (fun hb => (hf _ hb).2.1 rfl) ho, r⟩
 ·refine (I.hok b u e).stay (fun c v hc q => k c v ?_ q) (fun _ q => q) fun _ _ q => q
  rcases hc with z | z
  ·rw [z]; exact nf b u e
  ·exact nf c _ z
theorem turn_enum {P : Program} {w : World} {K : PySem.W.Frag} {elts : List Expr} {k : Nat} {pos : Pos} (a e it : Addr) (h1 : e ≠ it) (h2 : a ≠ e) (h3 : a ≠ it) : Turn P w K (.Tuple elts k pos) (Ite K a) [e, it] e (fun i h => (∃ old, IsEnum h e it i old) /\ h.IsListIter it a i) where
 mem := by simp
 obj := fun i h st b hb => by
  obtain ⟨⟨old, q⟩, o, e2, c, d⟩ := st
  rcases List.mem_cons.mp hb with rfl | hb
  ·exact ⟨_, q, fun v z => by cases z⟩
  ·obtain rfl : b = it := by simpa using hb
   exact ⟨o, e2, fun v z => by rw [d] at z; cases z⟩
 keep := fun i h h' st kk => by
  obtain ⟨⟨old, q⟩, st2⟩ := st
  exact ⟨⟨old, kk e (by simp) _ q⟩, st2.at fun o q2 => kk it (by simp) o q2⟩
 item := by
  intro X hP hw hK hc i pins s σ H E I hf st hg
  subst hP hw hK
  obtain ⟨xs, x, hq, hx⟩ := hg
  obtain ⟨its, rv, p, hz⟩ := I.list hq
  obtain ⟨u, hu, ru⟩ := rv.get hx
  have W := WalksT.enumerate (prog := X.prog) (w := X.w) (A := X.A) (I.ok.hd hc) e it a h1 h2 h3 its.toArray
  have hi : i < its.toArray.size := by
   simp only [List.size_toArray]
   exact (List.getElem?_eq_some_iff.mp hu).1
  obtain ⟨old, he⟩ := st.1
  have hit := st.2
  refine wpAny_pyNext_enum_item he hit p.isList (x := u) (by rw [List.getElem?_toArray]; exact hu) h1 fun h' ho hit' hTo hsz hk => ?_
  have helt : e < s.heap.objs.size := Heap.lt_size he
  have hilt : it < s.heap.objs.size := by obtain ⟨_, x, _⟩ := hit; exact Heap.lt_size x
  have mid : (∃ x, IsEnumOut h' e it ((i : Int) + 1) x s.heap.objs.size) /\ h'.IsListIter it a (i + 1) /\ h'.IsList a its.toArray /\ s.heap.objs.size ≠ e /\ s.heap.objs.size ≠ it := ⟨⟨_, ho⟩, hit', p.isList.at fun o x => hk a o h2 h3 x, Nat.ne_of_gt helt, Nat.ne_of_gt hilt⟩
  have kk : ∀ b o, b ∉ [e, it] -> s.heap.get? b = some o -> h'.get? b = some o := fun b o hb x => hk b o (fun e' => hb (by simp [e'])) (fun e' => hb (by simp [e'])) x
  have isT : h'.IsTuple s.heap.objs.size #[.int i s.toks, u] := ⟨_, hTo, rfl, _, rfl⟩
  obtain ⟨T, eT⟩ : ∃ T, T = s.heap.objs.size := ⟨_, rfl⟩
  obtain ⟨t, et⟩ : ∃ t, t = s.toks := ⟨_, rfl⟩
  obtain ⟨tk, htk⟩ : ∃ tk, tk = s.toks + 1 := ⟨_, rfl⟩
  rw [<- eT] at isT mid hTo ⊢
  have hT : s.heap.objs.size <= T := Nat.le_of_eq eT.symm
  rw [<- et] at isT hTo
  rw [<- htk]
  refine ⟨_, rfl, W.go elts k pos i T { s with heap := h', toks := tk } _ _ mid fun h2' st' kk2 => ?_⟩
  have nT : T ∉ [e, it] := W.apart i T h' mid
  have isT2 : h2'.IsTuple T #[.int i t, u] := by
   obtain ⟨o, q, r⟩ := isT
   exact ⟨o, kk2 T o nT q, r⟩
  have I1 : Inv X pins σ (upd H T (.tup [.int i, x])) { s with heap := h2', toks := tk } := I.turnedN (t' := tk) (fp := [e, it]) (its := [.int i t, u]) (fun b o hb q => kk2 b o hb (kk b o hb q)) hf hT (by show 2 <= sizeLine; decide) (.cons ⟨t, rfl⟩ (.cons ru .nil)) ⟨isT2, _, kk2 T _ nT hTo, rfl⟩
  refine ⟨.ref T, _, I1, rfl, ⟨T, x, rfl, I.hok.fresh hT, fun ys hy => by rw [I.list_inj hy hq]; exact hx, rfl⟩, ⟨?_, st'.2.1⟩, fun b hb => ?_⟩
  ·obtain ⟨old, q⟩ := st'.1
   exact ⟨old, by simpa using q⟩
  ·rw [upd_ne (fun z : b = T => nT (by rw [<- z]; exact hb))]
   exact (hf b hb).1
 done := by
  intro X hP hw hK hc i pins s σ H E I hf st hg
  subst hP hw hK
  obtain ⟨xs, hq, hx⟩ := hg
  obtain ⟨its, rv, p, hz⟩ := I.list hq
  have W := WalksT.enumerate (prog := X.prog) (w := X.w) (A := X.A) (I.ok.hd hc) e it a h1 h2 h3 its.toArray
  have hn : its.toArray.size = i := by
   have := rv.length
   simp only [List.size_toArray]
   omega
  refine W.done s _ _ (by rw [hn]; exact ⟨st.1, st.2, p.isList⟩) fun h' tk kk => ⟨rfl, I.turnedF (t' := tk) (fp := [e, it]) kk hf⟩
 self := fun A i s Q E st h => by
  obtain ⟨old, q⟩ := st.1
  exact wpAny_pyIter_enum q h
def iEnum (K : PySem.W.Frag) (ta : TA) : TI := fun σ H R => ta σ H fun vs H1 => ∃ a, vs = [.ref a] /\ (∃ xs, SqL K H1 a xs) /\ R (Ite K a) H1
theorem pi_enum {X : Cx} {elts : List Expr} {kk : Nat} {p2 : Pos} {a : Expr} {ta : TA} {p pos : Pos} (hg : Gl X "enumerate") (hm : X.mg "enumerate" = none) (ha : PA X [a] ta) (hs : starEach [a] X.env = [(false, eval a X.env)] := by rfl) : PI X (.Tuple elts kk p2) (.Call (.Name "enumerate" p) [a] [] pos) (iEnum X.K ta) := by
 intro pins s σ H R I h
 refine Call_ (ld_blt I hg hm boot_enumerate (PyProof.Rows.callWith_type1 (thn (ha pos pins s σ H _ I h) fun us s1 ⟨vs, H1, I1, r1, q1⟩ => ?_) hs rfl))
 obtain ⟨l, e, ⟨xs, hq⟩, q⟩ := q1
 subst e
 cases r1 with
 | cons r rr =>
  cases rr
  cases r
  obtain ⟨its, rv, pl, hz⟩ := I1.list hq
  have ll : l < s1.heap.objs.size := by obtain ⟨_, e, _⟩ := pl.isList; exact Heap.lt_size e
  refine call_enumerate_list pl.isList fun h' he hi hn kp => ?_
  refine wpAny_pyIter_enum he ?_
  refine ⟨s1.heap.objs.size + 1, [s1.heap.objs.size + 1, s1.heap.objs.size], _, _, H1, rfl, I1.kept (t' := s1.toks) kp, turn_enum l _ _ (Nat.succ_ne_self _) (Nat.ne_of_lt (Nat.lt_succ_of_lt ll)) (Nat.ne_of_lt ll), ⟨⟨_, he⟩, hi⟩, fun b hb => ?_, q⟩
  have e : s1.heap.objs.size <= b := by
   rcases List.mem_cons.mp hb with rfl | hb
   ·exact Nat.le_succ _
   ·obtain rfl : b = s1.heap.objs.size := by simpa using hb
    exact Nat.le_refl _
  exact I1.fpOk e (I1.hok.fresh e)
theorem for_enum {K : PySem.W.Frag} {a : Addr} {xs : List V} {g : TG} {tb : TS} {D : Ends} {σ : St} {H : Hp} (Pv : Nat -> St -> Hp -> Prop) (h0 : Pv 0 σ H) (hl : ∀ i σ H, i <= xs.length -> Pv i σ H -> SqL K H a xs)
  (hs : ∀ i x σ H, xs[i]? = some x -> Pv i σ H -> ∀ t, H t = none -> g (.ref t) σ (upd H t (.tup [.int i, x])) fun σ2 H2 => tb { D with nx := Pv (i + 1), ct := Pv (i + 1), bk := D.nx } σ2 H2) (hd : ∀ σ H, Pv xs.length σ H -> D.nx σ H) :
  ∃ W : Nat -> Nat -> St -> Hp -> Prop, (∃ m, W 0 m σ H) /\ ∀ i m σ H, W i m σ H ->
   ((Ite K a).stop i H /\ D.nx σ H) ∨ ((Ite K a).go i H /\ ∃ N : St -> Hp -> Prop, (∀ σ' H', N σ' H' -> ∃ m', m' < m /\ W (i + 1) m' σ' H') /\ ∀ x H', (Ite K a).yld i H x H' -> g x σ H' fun σ2 H2 => tb { D with nx := N, ct := N, bk := D.nx } σ2 H2) := by
 refine ⟨fun i m σ H => m = xs.length - i /\ i <= xs.length /\ Pv i σ H, ⟨xs.length, by simp, Nat.zero_le _, h0⟩, ?_⟩
 rintro i m σ H ⟨rfl, hi, p⟩
 have q := hl i σ H hi p
 by_cases hlt : i < xs.length
 ·refine .inr ⟨⟨xs, xs[i], q, by simp [hlt]⟩, Pv (i + 1), fun σ' H' p' => ⟨xs.length - (i + 1), by omega, rfl, hlt, p'⟩, fun x H' y => ?_⟩
  obtain ⟨t, x, rfl, ht, y, rfl⟩ := y
  exact hs i x σ H (y xs q) p t ht
 ·have e : i = xs.length := by omega
  subst e
  exact .inl ⟨⟨xs, q, rfl⟩, hd σ H p⟩
end L2
set_option Elab.async false
set_option linter.all false
set_option maxRecDepth 100000
namespace L2
open PySem PySem.Spec PyProof.Rows
section
variable {P : Program} {w : World} {H H' : Hp} {B h0 h h1 : Heap} {l : List Env}
end
section
variable {X : Cx} {pins : List (Addr × Obj)} {σ : St} {H H' : Hp} {s s1 : Shared} {B h : Heap} {a : Addr} {cls a0 : Value} {E : XK}
end
section
variable {P : Program} {w : World} {K : PySem.W.Frag} {mg : Str -> Option Value} {base : Heap} {N : List Str} {qual : Str} {scope : Scope} {f : Addr} {cd : Value} {A : Around} {outer : List Env} {s : Shared} {H : Hp} {E : XK}
end
section
variable {X : Cx} {x : Str} {C : Addr} {bm : List Value} {B newId initId : String} {np cpos pos : Pos} {e₀ : Expr} {t : TA} {E : XK}
end
section
variable {P : Program} {w : World} {K : PySem.W.Frag} {mg : Str -> Option Value} {base : Heap}
end
end L2
set_option Elab.async false
set_option linter.all false
set_option maxRecDepth 100000
namespace L2
open PySem PySem.Spec PySem.Calls PyProof.Rows PySem.W Builtin Builtin.ObjectAttr Builtin.Getset_descriptor
structure ExcK (K : PySem.W.Frag) (C : Addr) : Prop where
 cl : (clsIn K C).isSome = true
 ga : findIn K (.ref C) "__getattribute__" = some (some (.builtin "BaseException.__getattribute__"))
 ha : findIn K (.ref C) "__getattr__" = some none
 ca : findIn K (.ref C) "__class__" = some (some (.builtin "object.__class__"))
 gt : specialIn K (.builtin "object.__class__") "__get__" = some (some (.builtin "getset_descriptor.__get__"))
 tk : takesIn K (.builtin "object.__class__") = some true
 mo : mroIn K C (.type "object") = some true
 mb : mroIn K C (.type "BaseException") = some true
section
variable {prog : Program} {w : World} {A : Around} {E : Value -> Shared -> Prop} {s : Shared} {K : PySem.W.Frag} {x C : Addr}
end
section
variable {X : Cx}
end
end L2
set_option Elab.async false
set_option linter.all false
set_option maxRecDepth 100000
namespace L2
open PySem PySem.Spec PyProof.Rows
section
variable {X : Cx} {pins : List (Addr × Obj)} {σ : St} {H : Hp} {s : Shared} {a : Addr}
end
section
variable {X : Cx} {st : Stmt} {e c : Expr} {te : XS -> TE} {t u : XS -> TS} {pos : Pos} {a b : List Stmt} {tc : TT}
end
section
variable {X : Cx} {k : Nat} {f C : Addr} {fd : FuncData} {ps : List Str} {sp : Sp} {dvs : List V} {ds : List Value} {ES : XS} {x m : Str} {p pos apos : Pos} {e o : Expr} {es : List Expr} {ta : TE} {t : TA}
end
section
variable {X : Cx} {i : Nat} {x n : Str} {D C : Addr} {np hpos pos : Pos} {b₀ : Stmt} {suite body : List Stmt} {tb : XS -> TS} {ts : TS}
end
end L2
set_option Elab.async false
set_option linter.all false
set_option maxRecDepth 100000
namespace Ev
open PySem L2
abbrev sCell : Stmt := top 48
abbrev sDigit : Stmt := top 51
abbrev sLWeb : Stmt := top 53
abbrev sGd : Stmt := top 17
abbrev sFrac : Stmt := top 18
abbrev sLess : Stmt := top 19
abbrev sIsRule : Stmt := top 32
abbrev sWords : Stmt := top 33
abbrev sGuard : Stmt := top 34
abbrev sLet : Stmt := top 35
abbrev sCGuard : Stmt := top 37
abbrev sCWeight : Stmt := top 38
abbrev sAlong : Stmt := top 39
abbrev sMixed : Stmt := top 49
abbrev sState : Stmt := top 50
abbrev sNamed : Stmt := top 52
abbrev sOwn : Stmt := top 54
abbrev sSum2 : Stmt := top 41
abbrev sAlone : Stmt := top 42
abbrev sBeside : Stmt := top 43
abbrev sByTie : Stmt := top 44
abbrev sShort : Stmt := top 45
abbrev sApart : Stmt := top 46
abbrev sLGaps : Stmt := top 55
abbrev sLonger : Stmt := top 56
abbrev sSums : Stmt := top 57
abbrev sIsLeast : Stmt := top 58
abbrev sRight : Stmt := top 59
abbrev sLaw : Stmt := top 60
def But (l : Addr) (H H' : Hp) : Prop := ∀ b o, H b = some o -> b ≠ l -> H' b = some o
theorem But.refl (l : Addr) (H : Hp) : But l H H := fun _ _ e _ => e
theorem But.trans {l : Addr} {H H1 H2 : Hp} (h : But l H H1) (h2 : But l H1 H2) : But l H H2 := fun b o e n => h2 b o (h b o e n) n
theorem But.of {l : Addr} {H H1 : Hp} (h : Same H H1) : But l H H1 := fun b o e _ => h b o e
theorem But.upd {l : Addr} {H : Hp} {o : HO} : But l H (upd H l o) := fun b u e n => by rw [upd_ne n]; exact e
def stt (H : Hp) (l : Addr) : Prop := ∃ a b c : Int, H l = some (.lst [.int a, .int b, .int c])
theorem stt.some {H : Hp} {l : Addr} (h : stt H l) : ∃ xs, H l = some (.lst xs) := by
 obtain ⟨a, b, c, e⟩ := h
 exact ⟨_, e⟩
theorem stt.same {H H' : Hp} {l : Addr} (h : stt H l) (s : Same H H') : stt H' l := by
 obtain ⟨a, b, c, e⟩ := h
 exact ⟨a, b, c, s _ _ e⟩
theorem stt.ne {H : Hp} {l a : Addr} (h : stt H l) (e : H a = none) : a ≠ l := by
 rintro rfl
 obtain ⟨x, y, z, h⟩ := h
 rw [e] at h
 cases h
theorem But.free {l b : Addr} {H H' : Hp} (h : But l H H') (s : stt H' l) (e : H' b = none) : H b = none := by
 cases z : H b with
 | none => rfl
 | some o =>
  by_cases q : b = l
  ·subst q
   obtain ⟨x, y, u, s⟩ := s
   rw [e] at s
   cases s
  ·rw [h b o z q] at e
   cases e
theorem atI_nat {α : Type} {xs : List α} {i : Int} (h0 : 0 <= i) (h1 : i < xs.length) : atI xs i = xs[i.toNat]? := by
 unfold atI ixN
 rw [if_pos h0, if_pos h1]
 rfl
section
variable {P : Program} {w : World} {K : PySem.W.Frag} {mg : Str -> Option Value} {base : Heap}
end
end Ev
namespace Ev
open PySem L2
theorem abc_list : ("abcdefghijklmnopqrstuvwxyz" : Str).cps.toList = [97,98,99,100,101,102,103,104,105,106,107,108,109,110,111,112,113,114,115,116,117,118,119,120,121,122] := by decide +kernel
end Ev
namespace Ev
open PySem L2
def insAt {α : Type} (l : List α) (k : Nat) (x : α) : List α := l.take k ++ x :: l.drop k
theorem insAt_perm {α : Type} (l : List α) (k : Nat) (x : α) : (insAt l k x).Perm (x :: l) := by
 unfold insAt
 refine List.perm_middle.trans ?_
 rw [List.take_append_drop]
theorem insAt_len {α : Type} (l : List α) (k : Nat) (x : α) : (insAt l k x).length = l.length + 1 := (insAt_perm l k x).length_eq
theorem hit2 {α : Type} {a b : α} {r : Int} (h0 : 0 <= r) (h1 : r < 2) : atI [a, b] r = some a ∨ atI [a, b] r = some b := by
 have : r = 0 ∨ r = 1 := by omega
 rcases this with rfl | rfl
 ·exact .inl rfl
 ·exact .inr rfl
section
theorem tups_keep {K : PySem.W.Frag} {H H' : Hp} {l : Addr} {ys : List V} {ks : List (List Key)} (t : TupsAt K H ys ks) (b : But l H H') {xs : List V} (hl : H l = some (.lst xs)) : TupsAt K H' ys ks := Paired.mapP t fun y k ⟨a, z, q⟩ => ⟨a, z, b _ _ q (ne_of q hl (by intro z; cases z))⟩
end
end Ev
namespace Ev
open PySem L2
def kO (t : Str × Str) : List Key := kT (ord2 t.1 t.2)
structure TI (ns : List Str) (k j : Nat) (ts : List (Str × Str)) : Prop where
 at' : ∀ t ∈ ts, ∃ (a b : Nat) (x y : Str), b < a /\ (a < k ∨ (a = k /\ b < j)) /\ ns[a]? = some x /\ ns[b]? = some y /\ (t = (x, y) ∨ t = (y, x))
 nd : (ts.map kO).Nodup
 len : ts.length <= 7 * k + j
theorem TI.skip {ns : List Str} {k j : Nat} {ts : List (Str × Str)} (h : TI ns k j ts) : TI ns k (j + 1) ts :=
 ⟨fun t ht => let ⟨a, b, x, y, h1, h2, h3, h4, h5⟩ := h.at' t ht; ⟨a, b, x, y, h1, by omega, h3, h4, h5⟩, h.nd, by have := h.len; omega⟩
theorem TI.next {ns : List Str} {k : Nat} {ts : List (Str × Str)} (h : TI ns k k ts) (h7 : k <= 7) : TI ns (k + 1) 0 ts :=
 ⟨fun t ht => let ⟨a, b, x, y, h1, h2, h3, h4, h5⟩ := h.at' t ht; ⟨a, b, x, y, h1, by omega, h3, h4, h5⟩, h.nd, by have := h.len; omega⟩
theorem kT_inj {a b : Str × Str} (h : kT a = kT b) : a = b := by
 unfold kT at h
 obtain ⟨h1, h2⟩ := List.cons.inj h
 obtain ⟨h2, _⟩ := List.cons.inj h2
 exact Prod.ext (Sum.inr.inj h1) (Sum.inr.inj h2)
theorem nth_inj {ns : List Str} (nd : ns.Nodup) {i j : Nat} {x : Str} (h : ns[i]? = some x) (h2 : ns[j]? = some x) : i = j := by
 obtain ⟨hi, e1⟩ := List.getElem?_eq_some_iff.mp h
 obtain ⟨hj, e2⟩ := List.getElem?_eq_some_iff.mp h2
 exact (List.getElem_inj nd).mp (e1.trans e2.symm)
theorem kO_two {a b c d : Str} (h : kO (a, b) = kO (c, d)) : (a = c /\ b = d) ∨ (a = d /\ b = c) := by
 have h := kT_inj h
 dsimp only at h
 rcases ord2_or a b with e | e <;> rcases ord2_or c d with e2 | e2 <;> rw [e, e2] at h <;> have h1 := (Prod.mk.inj h).1 <;> have h2 := (Prod.mk.inj h).2
 ·exact .inl ⟨h1, h2⟩
 ·exact .inr ⟨h1, h2⟩
 ·exact .inr ⟨h2, h1⟩
 ·exact .inl ⟨h2, h1⟩
theorem TI.add {ns : List Str} {k j : Nat} {ts : List (Str × Str)} (h : TI ns k j ts) (nd : ns.Nodup) {x y : Str} {t : Str × Str} (hj : j < k) (hx : ns[k]? = some x) (hy : ns[j]? = some y) (ht : t = (x, y) ∨ t = (y, x)) (q : Nat) : TI ns k (j + 1) (insAt ts q t) := by
 refine ⟨fun u hu => ?_, ?_, by have := h.len; rw [insAt_len]; omega⟩
 ·rcases List.mem_cons.mp ((insAt_perm _ _ _).mem_iff.mp hu) with rfl | hu
  ·exact ⟨k, j, x, y, hj, .inr ⟨rfl, by omega⟩, hx, hy, ht⟩
  ·exact h.skip.at' u hu
 ·refine ((insAt_perm ts q t).map kO).nodup_iff.mpr ?_
  rw [List.map_cons]
  refine List.nodup_cons.mpr ⟨fun m => ?_, h.nd⟩
  obtain ⟨u, hu, e⟩ := List.mem_map.mp m
  obtain ⟨a, b, c, d, h1, h2, h3, h4, h5⟩ := h.at' u hu
  have key : (c = x /\ d = y) ∨ (c = y /\ d = x) := by
   rcases h5 with rfl | rfl <;> rcases ht with rfl | rfl <;> rcases kO_two e with ⟨q1, q2⟩ | ⟨q1, q2⟩ <;> simp_all
  rcases key with ⟨rfl, rfl⟩ | ⟨rfl, rfl⟩
  ·have := nth_inj nd h3 hx
   have := nth_inj nd h4 hy
   omega
  ·have := nth_inj nd h3 hy
   have := nth_inj nd h4 hx
   omega
theorem TI.good {ns : List Str} {k j : Nat} {ts : List (Str × Str)} (h : TI ns k j ts) (nd : ns.Nodup) (ok : ∀ n ∈ ns, nameB n = true) : ∀ t ∈ ts, goodT t /\ t.1 ∈ ns /\ t.2 ∈ ns := fun t ht => by
 obtain ⟨a, b, x, y, h1, h2, h3, h4, h5⟩ := h.at' t ht
 have mx := List.mem_of_getElem? h3
 have my := List.mem_of_getElem? h4
 have ne : x ≠ y := fun e => by
  subst e
  have := nth_inj nd h3 h4
  omega
 rcases h5 with rfl | rfl
 ·exact ⟨⟨ok _ mx, ok _ my, ne⟩, mx, my⟩
 ·exact ⟨⟨ok _ my, ok _ mx, ne.symm⟩, my, mx⟩
theorem cut_take (ns : List Str) (k : Nat) : cutV (ns.map V.str) none (some (k : Int)) = (ns.take k).map V.str := by
 unfold cutV
 rw [HT.sIx_none, HT.sIx_nat, List.drop_zero, Nat.sub_zero, List.map_take, List.length_map]
 by_cases h : k <= ns.length
 ·rw [Nat.min_eq_left h]
 ·rw [Nat.min_eq_right (by omega), List.take_of_length_le (by rw [List.length_map]; omega), List.take_of_length_le (by rw [List.length_map]; omega)]
end Ev
set_option Elab.async false
set_option linter.all false
set_option maxRecDepth 100000
namespace Ev
open PySem L2
theorem ltS_asymm {a b : Str} (h : ltS a b = true) : ltS b a = false := kLt_asymm (a := Sum.inr a) (b := Sum.inr b) h
theorem ltS_tot {a b : Str} (h : ltS a b = false) (h2 : ltS b a = false) : a = b := Sum.inr.inj (kLt_tot (a := Sum.inr a) (b := Sum.inr b) h h2)
theorem ord2_comm (a b : Str) : ord2 a b = ord2 b a := by
 unfold ord2
 by_cases h : ltS a b = true
 ·rw [if_pos h, if_neg (by rw [ltS_asymm h]; decide)]
 ·by_cases h2 : ltS b a = true
  ·rw [if_neg h, if_pos h2]
  ·have := ltS_tot (by simpa using h) (by simpa using h2)
   subst this
   rw [if_neg h]
theorem tsOf_mem {ts : List (Str × Str)} {x : Str × Str} : x ∈ tsOf ts ↔ ∃ t ∈ ts, ord2 t.1 t.2 = x := by
 have e : kT x ∈ (tsOf ts).map kT ↔ x ∈ tsOf ts := ⟨fun h => by
  obtain ⟨y, hy, e⟩ := List.mem_map.mp h
  rw [<- kT_inj e]
  exact hy, fun h => List.mem_map.mpr ⟨x, h, rfl⟩⟩
 rw [<- e, tsOf_keys, (sortKs_perm _).mem_iff, List.mem_map]
 exact ⟨fun ⟨t, ht, q⟩ => ⟨t, ht, kT_inj q⟩, fun ⟨t, ht, q⟩ => ⟨t, ht, by rw [q]⟩⟩
end Ev
set_option Elab.async false
set_option linter.all false
set_option maxRecDepth 100000
namespace L2
open PySem PySem.Spec PyProof.Rows
section
variable {X : Cx}
def rSlS : V -> Option Int -> Option Int -> Hp -> VK -> Prop := fun x lo hi H Q => ∃ z, x = .str z /\ z.length <= sizeLine /\ Q (.str (Txt.slice z lo hi)) H
theorem sl_str : SlR X rSlS := by
 intro pins s σ H x v vl vu lo hi sl Q I rx hs pl pu h
 obtain ⟨z, rfl, hz, q⟩ := h
 obtain ⟨t, rfl⟩ := rx
 refine ⟨"str", _, PySem.F.slot_str_getitem.lookup, typeIs_str _ _ _, ?_⟩
 have fin : ∀ lo hi, Q (.str (Txt.slice z lo hi)) H -> (Txt.slice z lo hi).length <= sizeLine /\ ∀ t' k, EP X pins σ Q (.str (Txt.slice z lo hi) t') { s with toks := k } := fun lo hi q =>
  ⟨Nat.le_trans (Txt.slice_le z _ _) hz, fun t' k => ⟨.str _, H, I.kept (h' := s.heap) (t' := k) fun _ _ e => e, ⟨t', rfl⟩, q⟩⟩
 cases pl with
 | none =>
  cases pu with
  | none => exact wpAny_getItem_str_slice (l := none) (u := none) (st := none) hs rfl (post_val_or_str (fin _ _ q))
  | int j u => exact wpAny_getItem_str_slice (l := none) (u := some (j, u)) (st := none) hs rfl (post_val_or_str (fin _ _ q))
 | int i u =>
  cases pu with
  | none => exact wpAny_getItem_str_slice (l := some (i, u)) (u := none) (st := none) hs rfl (post_val_or_str (fin _ _ q))
  | int j u' => exact wpAny_getItem_str_slice (l := some (i, u)) (u := some (j, u')) (st := none) hs rfl (post_val_or_str (fin _ _ q))
theorem cut_to {x : Str} {j : Nat} (h : j <= x.length) : (Txt.slice x none (some (j : Int))).cps.toList = x.cps.toList.take j := by
 have := eq_of_beq (slice_closes_toL (x := x) (j := (j : Int)) (by omega) (by omega))
 rw [this]
 simp
theorem cut_from {x : Str} {i : Nat} (h : i <= x.length) : (Txt.slice x (some (i : Int)) none).cps.toList = x.cps.toList.drop i := by
 rw [slice_from_eq (x := x) (i := (i : Int)) (b := (x.length : Int)) (by omega) (by omega) rfl]
 have : ((x.length : Int) - (i : Int)).toNat = x.cps.toList.length - i := by
  have : x.length = x.cps.toList.length := by rw [Array.length_toList]; rfl
  omega
 rw [this]
 simp
 rw [List.take_of_length_le]
 simp
end
end L2
set_option Elab.async false
set_option linter.all false
set_option maxRecDepth 100000
namespace L2
open PySem PySem.Spec PyProof.Rows PySem.Builtin PySem.Builtin.Str
theorem strs_are : ∀ {ss : List Str} {us : List Value}, Vals (ss.map V.str) us -> StrsAre us ss
 | [], _, .nil => .nil
 | x :: ss, _, .cons r rs => by
  obtain ⟨t, rfl⟩ := r
  exact .cons x t (strs_are rs)
section
variable {X : Cx}
def rJoin (K : PySem.W.Frag) : V -> List V -> Hp -> VK -> Prop := fun x vs H Q => ∃ (sep : Str) (p : Addr) (ss : List Str), x = .str sep /\ vs = [.ref p] /\ SqL K H p (ss.map V.str) /\ (ss.map (·.length)).sum + ss.length * sep.length <= 16777216 /\ Q (.str (Txt.join sep ss)) H
theorem mt_join : MtM X "str.join" (rJoin X.K) := by
 intro pins s σ H x vs v us Q I rx rv h
 obtain ⟨sep, p, ss, rfl, rfl, hp, hz, q⟩ := h
 obtain ⟨t, rfl⟩ := rx
 obtain ⟨u, rfl, ru⟩ := rv.one
 cases (show u = Value.ref p from ru)
 obtain ⟨its, r, ht, _⟩ := I.list hp
 exact join_list ht.isList (strs_are r) hz fun t' k => ⟨.str _, H, I.tok k, ⟨t', rfl⟩, q⟩
end
end L2
set_option Elab.async false
set_option linter.all false
set_option maxRecDepth 100000
namespace L2
open PySem PySem.Spec PyProof.Rows PySem.W
section
variable {X : Cx}
def rMulS : R2 := fun x y H Q => ∃ z n, x = .str z /\ y = .int n /\ PySem.MulOk z n /\ Q (.str (Txt.mul z n)) H
theorem op_mulS : OpR X (binaryOp .Mult) rMulS := by
 intro pins s σ H x y v u Q I rx ry h
 obtain ⟨z, n, rfl, rfl, ok, q⟩ := h
 obtain ⟨t, rfl⟩ := rx
 obtain ⟨t2, rfl⟩ := ry
 exact SB.mul ok fun t' k => ⟨.str _, H, I.tok _, ⟨_, rfl⟩, q⟩
theorem countIn_strs (k : Str) : ∀ ss : List Str, Spec.countIn (.str k) (ss.map PyData.str) = (ss.count k : Int)
 | [] => rfl
 | y :: ss => by
  rw [List.map_cons, Spec.countIn.eq_2, countIn_strs k ss, List.count_cons]
  have : Spec.same (.str y) (.str k) = (y == k) := rfl
  rw [this]
  by_cases e : (y == k) = true
  ·rw [if_pos e, if_pos e]; omega
  ·rw [if_neg e, if_neg e]; omega
def rCount : V -> List V -> Hp -> VK -> Prop := fun x vs H Q => ∃ (l : Addr) (ss : List Str) (k : Str), x = .ref l /\ vs = [.str k] /\ H l = some (.lst (ss.map V.str)) /\ Q (.int (ss.count k)) H
theorem mt_count : MtM X "list.count" rCount := by
 intro pins s σ H x vs v us Q I rx rv h
 obtain ⟨l, ss, k, rfl, rfl, hH, q⟩ := h
 cases rx
 obtain ⟨u, rfl, ru⟩ := rv.one
 obtain ⟨t, rfl⟩ := ru
 obtain ⟨z, its, n, r, hl, e⟩ := I.lstM hH
 refine count_list_strs (ys := ss) (vs := its) ?_ (strs_are r) ?_
 ·exact ⟨_, e, rfl, n, rfl⟩
 ·rw [countIn_strs]
  exact ⟨.int _, H, I.tok _, ⟨_, rfl⟩, q⟩
end
end L2
set_option Elab.async false
set_option linter.all false
set_option maxRecDepth 100000
namespace Ev
open PySem L2
theorem hitL {α : Type} {p : α -> Prop} {xs : List α} {r : Int} {n : Nat} (hn : xs.length = n) (h0 : 0 <= r) (h1 : r < (n : Int)) (h : ∀ v ∈ xs, p v) : ∃ v, atI xs r = some v /\ p v := by
 have hl : r.toNat < xs.length := by omega
 refine ⟨xs[r.toNat], ?_, h _ (List.getElem_mem hl)⟩
 rw [atI_nat h0 (by omega), List.getElem?_eq_getElem hl]
section
variable {P : Program} {w : World} {K : PySem.W.Frag} {mg : Str -> Option Value} {base : Heap}
theorem scCell : FnScope ["_law_script", "_law_k"] ["_law_script", "_law_k"] (defScope sCell) := ⟨rfl, rfl, rfl, by decide +kernel, rfl, by decide +kernel, by decide +kernel⟩
def spCell (K : PySem.W.Frag) : Sp := fun vs H Q _ => ∃ (l : Addr) (ns : List Int) (k : Int), vs = [.ref l, .int k] /\ 0 <= k /\ SqL K H l (ns.map V.int) /\ ∀ n, Q (.int n) H
theorem ok_cell {f : Addr} {fd : FuncData} (F : Fun K "_law_cell_at" "_law_cell_at" sCell f fd) (B : Bi mg) : FnOk P w K mg base CX0 1 f fd ["_law_script", "_law_k"] (spCell K) := by
 refine F.ok scCell (fun vs H Q E h => ?_) (fun cdv A outer s H vs Q E hr h => ?_)
 ·obtain ⟨l, ns, k, rfl, _⟩ := h
  rfl
 ·obtain ⟨l, ns, i, rfl, h0, hl, k⟩ := h
  refine ⟨_, pss_cons (ps_if (pt_cmpR op_lt (pv 1) (pe_callB call_len_seq (by rfl) B.len PySem.boot_len (pa_cons (pv 0) pa_nil)) (nomark _)) (pss_one (ps_ret (pe_ix ix_list (pv 0) (pv 1) (fun _ _ => rfl)))) pss_nil) (pss_one (ps_ret pe_int)), ?_⟩
  refine ⟨_, rfl, _, rfl, l, _, rfl, .inl hl, _, _, rfl, rfl, _, rfl, ?_⟩
  refine ite2 (fun c => ?_) (fun c => ?_)
  ·have c : i < (ns.map V.int).length := by simpa using c
   have e : atI (ns.map V.int) i = some (.int (ns[i.toNat]'(by rw [List.length_map] at c; omega))) := by
    rw [atI_nat h0 c, List.getElem?_map, List.getElem?_eq_getElem (by rw [List.length_map] at c; omega)]
    rfl
   exact ⟨_, rfl, _, rfl, l, _, _, _, rfl, rfl, hl, e, k _⟩
  ·exact k 0
theorem scMixed : FnScope ["_law_number"] ["_law_number"] (defScope sMixed) := ⟨rfl, rfl, rfl, by decide +kernel, rfl, by decide +kernel, by decide +kernel⟩
def spMixed : Sp := fun vs H Q _ => ∃ n : Int, vs = [.int n] /\ ∀ r : Int, Q (.int r) H
theorem small (x : Int) : -(2 ^ 64) < x % 2147483647 /\ x % 2147483647 < 2 ^ 64 := by
 have a := Int.emod_nonneg x (show (2147483647 : Int) ≠ 0 by decide)
 have b := Int.emod_lt_of_pos x (show (0 : Int) < 2147483647 by decide)
 omega
theorem small1 (x : Int) : -(2 ^ 64) < x % 2147483647 + 1 /\ x % 2147483647 + 1 < 2 ^ 64 := by
 have a := Int.emod_nonneg x (show (2147483647 : Int) ≠ 0 by decide)
 have b := Int.emod_lt_of_pos x (show (0 : Int) < 2147483647 by decide)
 omega
theorem ok_mixed {f : Addr} {fd : FuncData} (F : Fun K "_law_mixed" "_law_mixed" sMixed f fd) : FnOk P w K mg base CX0 1 f fd ["_law_number"] spMixed := by
 refine F.ok scMixed (fun vs H Q E h => ?_) (fun cdv A outer s H vs Q E hr h => ?_)
 ·obtain ⟨n, rfl, _⟩ := h
  rfl
 ·obtain ⟨n, rfl, k⟩ := h
  refine' ⟨_, pss_cons ?s1 (pss_cons ?s2 ?s3), ?kk⟩
  case s1 => exact ps_set (i := 0) scMixed.nd rfl (Or.inl rfl) (pe_op op_mod (pe_op op_mul (pe_op op_add (pe_op op_mod (pv 0) pe_int) pe_int) pe_int) pe_int)
  case s2 => exact ps_set (i := 0) scMixed.nd rfl (Or.inl rfl) (pe_op op_mod (pe_op op_mul (pv 0) (pe_op op_add (pe_op op_fdiv (pv 0) pe_int) pe_int)) pe_int)
  case s3 => exact pss_one (ps_ret (pe_op op_mod (pe_op op_mul (pe_op op_add (pv 0) pe_int) (pe_op op_add (pe_op op_fdiv (pv 0) pe_int) pe_int)) pe_int))
  case' kk => skip
  refine ⟨_, rfl, _, _, rfl, rfl, by show (0 : Int) < 2147483647; decide, _, _, rfl, rfl, _, _, rfl, rfl, .inl (small1 n), _, _, rfl, rfl, by show (0 : Int) < 2147483647; decide, ?_⟩
  refine ⟨_, rfl, _, rfl, _, _, rfl, rfl, ⟨by decide, by decide⟩, _, _, rfl, rfl, _, _, rfl, rfl, .inl (small _), _, _, rfl, rfl, by show (0 : Int) < 2147483647; decide, ?_⟩
  exact ⟨_, rfl, _, _, rfl, rfl, _, rfl, _, _, rfl, rfl, ⟨by decide, by decide⟩, _, _, rfl, rfl, _, _, rfl, rfl, .inl (small1 _), _, _, rfl, rfl, by show (0 : Int) < 2147483629; decide, k _⟩
theorem scState : FnScope ["_law_cell", "_law_k"] ["_law_cell", "_law_k"] (defScope sState) := ⟨rfl, rfl, rfl, by decide +kernel, rfl, by decide +kernel, by decide +kernel⟩
def spState : Sp := fun vs H Q _ => ∃ (c : Int) (i : Nat), vs = [.int c, .int i] /\ i < 100 /\ ∀ l H', Same H H' -> H l = none -> stt H' l -> Q (.ref l) H'
theorem ok_state {f : Addr} {fd : FuncData} (F : Fun K "_law_state" "_law_state" sState f fd) : FnOk P w K mg base CX0 1 f fd ["_law_cell", "_law_k"] spState := by
 refine F.ok scState (fun vs H Q E h => ?_) (fun cdv A outer s H vs Q E hr h => ?_)
 ·obtain ⟨c, i, rfl, _⟩ := h
  rfl
 ·obtain ⟨c, i, rfl, hi, k⟩ := h
  refine ⟨_, pss_one (ps_ret (pe_lst (pa_cons (pe_op op_fdiv (pv 0) pe_int) (pa_cons (pe_op op_mod (pv 0) pe_int) (pa_cons (pe_op op_add (pv 0) (pe_op op_mul pe_int (pv 1))) pa_nil))))), ?_⟩
  refine ⟨_, rfl, _, _, rfl, rfl, ⟨by decide, by decide⟩, _, rfl, _, _, rfl, rfl, by show (0 : Int) < 2; decide, _, rfl, _, rfl, _, _, rfl, rfl, .inl ⟨by decide, by decide⟩, _, _, rfl, rfl, by show 3 <= sizeLine; decide, fun l hl => ?_⟩
  exact k l _ (Same.new hl) hl ⟨_, _, _, upd_same⟩
theorem scDigit : FnScope ["_law_state_here", "_law_base", "_law_found"] ["_law_state_here", "_law_base"] (defScope sDigit) := ⟨rfl, rfl, rfl, by decide +kernel, rfl, by decide +kernel, by decide +kernel⟩
def spDigit : Sp := fun vs H Q _ => ∃ (l : Addr) (b : Int), vs = [.ref l, .int b] /\ 0 < b /\ b < 1073741824 /\ stt H l /\ ∀ r H', 0 <= r -> r < b -> But l H H' -> stt H' l -> Q (.int r) H'
theorem ok_digit {f : Addr} {fd : FuncData} (F : Fun K "_law_digit" "_law_digit" sDigit f fd) (cM : Cal P w K mg base 1 "_law_mixed" ["_law_number"] spMixed) : FnOk P w K mg base CX0 2 f fd ["_law_state_here", "_law_base"] spDigit := by
 refine F.ok scDigit (fun vs H Q E h => ?_) (fun cdv A outer s H vs Q E hr h => ?_)
 ·obtain ⟨l, b, rfl, _⟩ := h
  rfl
 ·obtain ⟨l, b, rfl, h0, h1, ⟨x, y, z, hl⟩, k⟩ := h
  refine' ⟨_, pss_cons ?s1 (pss_cons ?s2 ?s3), ?kk⟩
  case s1 => exact ps_if (pw_and (pt_cmpR op_eq (pe_ix ix_list (pv 0) pe_int (fun _ _ => rfl)) pe_int (nomark _)) (pw_and1 (pt_cmpR op_gt (pe_ix ix_list (pv 0) pe_int (fun _ _ => rfl)) pe_int (nomark _)))).pt (pss_cons (ps_set (i := 2) scDigit.nd rfl (Or.inl rfl) (pe_op op_mod (pe_ix ix_list (pv 0) pe_int (fun _ _ => rfl)) (pv 1))) (pss_cons (ps_asg (pe_op op_fdiv (pe_ix ix_list (pv 0) pe_int (fun _ _ => rfl)) (pv 1)) (pg_sub (pv 0) pe_int set_list)) (pss_one (ps_ret (pv 2))))) pss_nil
  case s2 => exact ps_asg (pe_fn cM hr (pa_cons (pe_op op_add (pe_ix ix_list (pv 0) pe_int (fun _ _ => rfl)) pe_int) pa_nil)) (pg_sub (pv 0) pe_int set_list)
  case s3 => exact pss_one (ps_ret (pe_op op_mod (pe_op op_fdiv (pe_ix ix_list (pv 0) pe_int (fun _ _ => rfl)) pe_int) (pv 1)))
  case' kk => skip
  have other : ∀ {R : Prop}, R -> R := fun h => h
  refine ⟨_, rfl, l, _, _, _, rfl, rfl, .of hl, rfl, rfl, _, rfl, ?_⟩
  refine ite2 (fun c => ?_) (fun c => ?_)
  ·refine ⟨_, rfl, l, _, _, _, rfl, rfl, .of hl, rfl, _, _, rfl, rfl, _, rfl, ?_⟩
   refine ite2 (fun c2 => ?_) (fun c2 => ?_)
   ·refine ⟨_, rfl, l, _, _, _, rfl, rfl, .of hl, rfl, _, rfl, _, _, rfl, rfl, h0, ?_⟩
    refine ⟨_, rfl, l, _, _, _, rfl, rfl, .of hl, rfl, _, rfl, _, _, rfl, rfl, ⟨h0, h1⟩, _, rfl, l, _, _, 0, rfl, rfl, hl, rfl, ?_⟩
    exact ⟨_, rfl, k _ _ (Int.emod_nonneg _ (by omega)) (Int.emod_lt_of_pos _ h0) But.upd ⟨_, _, _, upd_same⟩⟩
   ·refine ⟨_, rfl, l, _, _, _, rfl, rfl, .of hl, rfl, _, _, rfl, rfl, _, rfl, fun r => ⟨_, rfl, l, _, _, 2, rfl, rfl, hl, rfl, ?_⟩⟩
    refine ⟨_, rfl, l, _, _, _, rfl, rfl, .of upd_same, rfl, _, _, rfl, rfl, ⟨by decide, by decide⟩, _, rfl, _, _, rfl, rfl, h0, ?_⟩
    exact k _ _ (Int.emod_nonneg _ (by omega)) (Int.emod_lt_of_pos _ h0) But.upd ⟨_, _, _, upd_same⟩
  ·refine ⟨_, rfl, l, _, _, _, rfl, rfl, .of hl, rfl, _, _, rfl, rfl, _, rfl, fun r => ⟨_, rfl, l, _, _, 2, rfl, rfl, hl, rfl, ?_⟩⟩
   refine ⟨_, rfl, l, _, _, _, rfl, rfl, .of upd_same, rfl, _, _, rfl, rfl, ⟨by decide, by decide⟩, _, rfl, _, _, rfl, rfl, h0, ?_⟩
   exact k _ _ (Int.emod_nonneg _ (by omega)) (Int.emod_lt_of_pos _ h0) But.upd ⟨_, _, _, upd_same⟩
end
end Ev
set_option Elab.async false
set_option linter.all false
set_option maxRecDepth 100000
namespace Ev
open PySem L2
theorem seqG {t u : TS} {D : Ends} {σ : St} {H : Hp} (R : St -> Hp -> Prop) (later : ∀ σ H, R σ H -> u D σ H) (now : ∀ N : St -> Hp -> Prop, (∀ σ H, R σ H -> N σ H) -> t { D with nx := N } σ H) : tSeq t u D σ H := now (u D) later
theorem setG {i : Nat} {v : V} {σ : St} {H : Hp} {N : St -> Hp -> Prop} (h : N (σ.set i (some v)) H) : gName i v σ H N := h
theorem stt.upd {H : Hp} {l a : Addr} {o : HO} (h : stt H l) (n : a ≠ l) : stt (L2.upd H a o) l := by
 obtain ⟨x, y, z, e⟩ := h
 exact ⟨x, y, z, by rw [upd_ne n.symm]; exact e⟩
theorem But.snd {l a : Addr} {H H' : Hp} {o : HO} (h : But l H H') (e : H a = none) : But l H (L2.upd H' a o) := fun b u q n => by
 rw [upd_ne (ne_of_none q e)]
 exact h b u q n
theorem join_len (sep : Str) (ss : List Str) : (Txt.join sep ss).length <= (ss.map (·.length)).sum + ss.length * sep.length := by
 show (Builtin.Str.glued sep ss).length <= _
 rw [size_glued]
 have : (ss.length - 1) * sep.length <= ss.length * sep.length := Nat.mul_le_mul_right _ (by omega)
 omega
theorem sum_le {ss : List Str} {m : Nat} (h : ∀ x ∈ ss, x.length <= m) : (ss.map (·.length)).sum <= m * ss.length := by
 induction ss with
 | nil => simp
 | cons x ss ih =>
  have a := h x List.mem_cons_self
  have b := ih fun y hy => h y (List.mem_cons_of_mem _ hy)
  rw [List.map_cons, List.sum_cons, List.length_cons, Nat.mul_add, Nat.mul_one]
  omega
theorem join_okc {ss : List Str} (h : ∀ x ∈ ss, ∀ c ∈ x.cps.toList, okc c = true) : ∀ c ∈ (Txt.join "" ss).cps.toList, okc c = true := by
 rw [show Txt.join "" ss = Str.join "" ss from StrLaws.glued_eq_join "" ss]
 intro c hc
 rcases (PyProof.Rows.mem_join (sep := "") (ts := ss) c).mp hc with ⟨t, ht, m⟩ | ⟨_, m⟩
 ·exact h t ht c m
 ·rw [show ("" : Str) = ⟨#[]⟩ by decide +kernel] at m
  simp at m
theorem len_chars (x : Str) : x.length = x.cps.toList.length := by rw [Array.length_toList]; rfl
theorem app_l (a b : Str) : (a ++ b).cps.toList = a.cps.toList ++ b.cps.toList := by rw [PySem.Str.cps_append, Array.toList_append]
theorem abc_len : ("abcdefghijklmnopqrstuvwxyz" : Str).length = 26 /\ ("abcdefghijklmnopqrstuvwxyz" : Str).cps.toList.length = 26 := by decide +kernel
theorem abc_nth {q : Nat} (h : q < 26) : atI ("abcdefghijklmnopqrstuvwxyz" : Str).cps.toList (q : Int) = some (97 + q) := by
 rw [atI_nat (by omega) (by rw [abc_len.2]; omega), abc_list]
 have : ∀ q : Fin 26, ([97,98,99,100,101,102,103,104,105,106,107,108,109,110,111,112,113,114,115,116,117,118,119,120,121,122] : List Nat)[(q.val : Int).toNat]? = some (97 + q.val) := by decide +kernel
 exact this ⟨q, h⟩
theorem okc_abc {q : Nat} (h : q < 26) : okc (97 + q) = true := by
 unfold okc
 simp
 omega
structure Nm (m : Nat) (ns : List Str) : Prop where
 len : ns.length = m
 nd : ns.Nodup
 ok : ∀ n ∈ ns, nameB n = true
theorem nm_made {m f : Nat} {ns : List Str} {a b : List Nat} (hm : m <= 8) (hl : ns.length = m) (oa : ∀ c ∈ a, okc c = true) (ob : ∀ c ∈ b, okc c = true) (l7 : a.length + b.length <= 6)
  (h : ∀ k n, ns[k]? = some n -> n.cps.toList = a ++ (97 + (f + 7 * k) % 26) :: b) : Nm m ns := by
 refine ⟨hl, ?_, ?_⟩
 ·refine List.nodup_iff_pairwise_ne.mpr (List.pairwise_iff_getElem.mpr fun i j hi hj hij e => ?_)
  have e1 := h i _ (List.getElem?_eq_getElem hi)
  have e2 := h j _ (List.getElem?_eq_getElem hj)
  rw [e, e2] at e1
  have := (List.cons.inj (List.append_cancel_left e1)).1
  omega
 ·intro n hn
  obtain ⟨k, hk⟩ := List.mem_iff_getElem?.mp hn
  have e := h k n hk
  unfold nameB
  rw [len_chars, e]
  simp only [List.length_append, List.length_cons, List.all_append, List.all_cons, Bool.and_eq_true, decide_eq_true_eq, List.all_eq_true]
  exact ⟨⟨by omega, by omega⟩, oa, okc_abc (Nat.mod_lt _ (by decide)), ob⟩
abbrev nW1 : List Str := ["_law_k", "_law_letters", "_law_state_here"]
abbrev nW2 : List Str := ["_law_k", "_law_first", "_law_letters"]
abbrev nW3 : List Str := ["_law_k", "_law_place", "_law_signs", "_law_stem"]
theorem mulZ : PySem.MulOk "z" 0 /\ Txt.mul "z" 0 = "" := by
 refine ⟨?_, by decide +kernel⟩
 unfold PySem.MulOk
 decide +kernel
section
variable {P : Program} {w : World} {K : PySem.W.Frag} {mg : Str -> Option Value} {base : Heap}
theorem scNamed : FnScope ["_law_state_here", "_law_many", "_law_letters", "_law_stem", "_law_place", "_law_first", "_law_signs"] ["_law_state_here", "_law_many"] (defScope sNamed) := ⟨rfl, rfl, rfl, by decide +kernel, rfl, by decide +kernel, by decide +kernel⟩
def spNamed : Sp := fun vs H Q _ => ∃ (l : Addr) (m : Nat), vs = [.ref l, .int m] /\ m <= 8 /\ stt H l /\ ∀ (a : Addr) (ns : List Str) (H' : Hp), But l H H' -> stt H' l -> H a = none -> H' a = some (.lst (ns.map V.str)) -> Nm m ns -> Q (.ref a) H'
set_option maxHeartbeats 1600000 in
theorem ok_named {f : Addr} {fd : FuncData} (F : Fun K "_law_named" "_law_named" sNamed f fd) (B : Bi mg) (cD : Cal P w K mg base 2 "_law_digit" ["_law_state_here", "_law_base"] spDigit) : FnOk P w K mg base CX0 3 f fd ["_law_state_here", "_law_many"] spNamed := by
 refine F.ok scNamed (fun vs H Q E h => ?_) (fun cdv A outer s H vs Q E hr h => ?_)
 ·obtain ⟨l, m, rfl, _⟩ := h
  rfl
 ·obtain ⟨l, m, rfl, m8, st, k⟩ := h
  have sz := sizeLine_eq
  refine' ⟨_, ?r0, ?kk⟩
  case' r0 => refine' pss_cons ?s1 ?r1
  case' r1 => refine' pss_cons ?s2 ?r2
  case' r2 => refine' pss_cons ?s3 ?r3
  case' r3 => refine' pss_cons ?s4 ?r4
  case' r4 => refine' pss_cons ?s5 ?r5
  case' r5 => refine' pss_one ?s6
  case s1 => exact ps_set (i := 2) scNamed.nd rfl (Or.inr rfl) pe_str
  case' s2 => refine' ps_set (i := 3) scNamed.nd rfl (Or.inr rfl) ?a1
  case' a1 => refine' pe_bm PySem.F.plainAttrs_str PySem.F.slot_str_join PySem.F.type_str_join mt_join ?a2 ?a3
  case a2 => exact pe_str
  case' a3 => refine' pa_cons ?a4 pa_nil
  case' a4 => refine' pe_comp nW1 1 [2, 0] ?d1 ?d2 ?d3 ?d4
  case d1 => exact pi_range1 (by rfl) B.range (pa_cons (pe_fn cD hr (pa_cons (pv 0) (pa_cons pe_int pa_nil))) pa_nil)
  case d2 => exact fun fp s H => pg_name (i := 0) (show nW1.Nodup by decide +kernel) rfl (Or.inl rfl)
  case d3 => exact fun fp s H => pts_nil
  case d4 => exact fun fp s H => pe_ix ix_str (pv 1) (pe_fn cD hr (pa_cons (pv 2) (pa_cons pe_int pa_nil))) (fun _ _ => rfl)
  case s3 => exact ps_set (i := 4) scNamed.nd rfl (Or.inr rfl) (pe_fn cD hr (pa_cons (pv 0) (pa_cons (pe_op op_add (pe_callB call_len_str (by rfl) B.len PySem.boot_len (pa_cons (pv 3) pa_nil)) pe_int) pa_nil)))
  case s4 => exact ps_set (i := 5) scNamed.nd rfl (Or.inr rfl) (pe_fn cD hr (pa_cons (pv 0) (pa_cons pe_int pa_nil)))
  case' s5 => refine' ps_set (i := 6) scNamed.nd rfl (Or.inr rfl) ?e0
  case' e0 => refine' pe_comp nW2 1 [5, 2] ?e1 ?e2 ?e3 ?e4
  case e1 => exact pi_range1 (by rfl) B.range (pa_cons (pv 1) pa_nil)
  case e2 => exact fun fp s H => pg_name (i := 0) (show nW2.Nodup by decide +kernel) rfl (Or.inl rfl)
  case e3 => exact fun fp s H => pts_nil
  case e4 => exact fun fp s H => pe_ix ix_str (pv 2) (pe_op op_mod (pe_op op_add (pv 1) (pe_op op_mul pe_int (pv 0))) pe_int) (fun _ _ => rfl)
  case' s6 => refine' ps_ret ?f0
  case' f0 => refine' pe_comp nW3 1 [4, 6, 3] ?f1 ?f2 ?f3 ?f4
  case f1 => exact pi_range1 (by rfl) B.range (pa_cons (pv 1) pa_nil)
  case f2 => exact fun fp s H => pg_name (i := 0) (show nW3.Nodup by decide +kernel) rfl (Or.inl rfl)
  case f3 => exact fun fp s H => pts_nil
  case' f4 => intro fp s H
  case' f4 => refine' pe_op op_add_str ?g1 ?g2
  case' g1 => refine' pe_op op_add_str ?g3 ?g4
  case' g3 => refine' pe_op op_add_str ?g5 ?g6
  case g5 => exact pe_slice sl_str (pv 3) po_none (po_some (pv 1))
  case g6 => exact pe_ix (ixK (K := K) rIxL ix_list) (pv 2) (pv 0) (fun _ _ => rfl)
  case g4 => exact pe_slice sl_str (pv 3) (po_some (pv 1)) po_none
  case g2 => exact pe_op op_mulS pe_str (pe_op op_fdiv (pv 0) pe_int)
  case' kk => skip
  refine ⟨rfl, _, rfl, l, 7, rfl, by decide, by decide, st, fun r H1 r0 r7 b1 st1 => ⟨r, rfl, by omega, by omega, fun D hD => ?_⟩⟩
  have Dl := st1.ne hD
  refine comp_it (own := 1) (fv := [some (.str "abcdefghijklmnopqrstuvwxyz"), some (.ref l)]) rfl gok1 r.toNat (fun i out H' => ∃ ss : List Str, But l H1 H' /\ stt H' l /\ out = ss.map V.str /\ H' D = some (.lst out) /\ ss.length = i /\ ∀ x ∈ ss, x.length <= 1 /\ ∀ c ∈ x.cps.toList, okc c = true) ⟨[], But.of (Same.new hD), st1.same (Same.new hD), rfl, upd_same, rfl, by simp⟩ (fun out H2 ⟨ss, b2, st2, eo, hD2, le, h1⟩ => ⟨Nat.le_refl _, ?_⟩) (fun i out H2 hi ⟨ss, b2, st2, eo, hD2, le, h1⟩ => ⟨hi, fun x H3 ⟨e3, ex⟩ => ?_⟩)
  rotate_left 1
  ·subst e3
   refine ⟨_, rfl, rfl, fun Nx hN => yesT ?_⟩
   refine ⟨_, rfl, _, rfl, l, 26, rfl, by decide, by decide, st2, fun q H4 q0 q26 b4 st4 => ?_⟩
   obtain ⟨q, rfl⟩ := Int.eq_ofNat_of_zero_le q0
   have q26' : q < 26 := by omega
   refine ⟨_, _, 97 + q, rfl, rfl, by rw [abc_len.1]; decide, abc_nth q26', out, b4 _ _ hD2 Dl, ?_, hN (out ++ [.str ⟨#[97 + q]⟩]) _ ⟨ss ++ [⟨#[97 + q]⟩], ?_, st4.upd Dl, ?_, upd_same, ?_, ?_⟩⟩
   ·rw [eo, List.length_map]; omega
   ·exact (b2.trans b4).snd hD
   ·rw [eo, List.map_append]
    rfl
   ·rw [List.length_append, le]
    rfl
   ·intro x hx
    rcases List.mem_append.mp hx with hx | hx
    ·exact h1 x hx
    ·obtain rfl : x = ⟨#[97 + q]⟩ := by simpa using hx
     refine ⟨Nat.le_refl 1, fun c hc => ?_⟩
     obtain rfl : c = 97 + q := by simpa using hc
     exact okc_abc q26'
  subst eo
  have sl := sum_le fun x hx => (h1 x hx).1
  have l8 : ss.length <= 6 := by omega
  have b02 := b1.trans b2
  have fD := b1.free st1 hD
  refine ⟨"", D, ss, rfl, rfl, .of hD2, by show (ss.map (·.length)).sum + ss.length * 0 <= 16777216; omega, ?_⟩
  have jl : (Txt.join "" ss).length <= 6 := by
   have := join_len "" ss
   have e0 : ("" : Str).length = 0 := by decide +kernel
   rw [e0] at this
   omega
  have jo := join_okc fun x hx => (h1 x hx).2
  generalize Txt.join "" ss = jn at jl jo ⊢
  clear hD2 h1 sl
  refine ⟨_, rfl, _, rfl, jn, rfl, by omega, _, _, rfl, rfl, l, _, rfl, by omega, by omega, st2, fun pl H4 p0 p1 b4 st4 => ?_⟩
  obtain ⟨pl, rfl⟩ := Int.eq_ofNat_of_zero_le p0
  have p1' : pl <= jn.length := by omega
  refine ⟨_, rfl, l, 26, rfl, by decide, by decide, st4, fun fi H5 f0 f1 b5 st5 => ?_⟩
  obtain ⟨fi, rfl⟩ := Int.eq_ofNat_of_zero_le f0
  have b05 := b02.trans (b4.trans b5)
  clear b02 b4 b5 b1 b2
  refine ⟨_, rfl, (m : Int), rfl, by omega, by omega, fun D2 hD2 => ?_⟩
  have D2l := st5.ne hD2
  have fD2 := b05.free st5 hD2
  refine comp_it (own := 1) (fv := [some (.int fi), some (.str "abcdefghijklmnopqrstuvwxyz")]) rfl gok1 m (fun i out H' => Same H5 H' /\ out = ((List.range i).map fun k => V.str ⟨#[97 + (fi + 7 * k) % 26]⟩) /\ H' D2 = some (.lst out)) ⟨Same.new hD2, rfl, upd_same⟩ (fun out H6 ⟨s6, eo, h6⟩ => ⟨Nat.le_refl _, ?_⟩) (fun i out H6 hi ⟨s6, eo, h6⟩ => ⟨hi, fun x H7 ⟨e7, ex⟩ => ?_⟩)
  rotate_left 1
  ·subst e7
   subst ex
   have q26 : (fi + 7 * i) % 26 < 26 := Nat.mod_lt _ (by decide)
   refine ⟨_, rfl, rfl, fun Nx hN => yesT ?_⟩
   refine ⟨_, rfl, _, rfl, _, rfl, _, _, rfl, rfl, .inl ⟨by decide, by decide⟩, _, _, rfl, rfl, _, _, rfl, rfl, by show (0 : Int) < 26; decide, ?_⟩
   have e : ((fi : Int) + 7 * (0 + (i : Int))) % 26 = (((fi + 7 * i) % 26 : Nat) : Int) := by omega
   refine ⟨_, _, 97 + (fi + 7 * i) % 26, rfl, rfl, by rw [abc_len.1]; decide, ?_, out, h6, ?_, hN (out ++ [.str ⟨#[97 + (fi + 7 * i) % 26]⟩]) _ ⟨same_but s6 hD2, ?_, upd_same⟩⟩
   ·rw [e]
    exact abc_nth q26
   ·rw [eo, List.length_map, List.length_range]; omega
   ·rw [eo, List.range_succ, List.map_append]
    rfl
  subst eo
  have b06 : But l H H6 := b05.trans (But.of s6)
  have st6 := st5.same s6
  have hl6 : jn.length = jn.cps.toList.length := len_chars jn
  refine ⟨_, rfl, (m : Int), rfl, by omega, by omega, fun D3 hD3 => ?_⟩
  have D3l := st6.ne hD3
  have fD3 := b06.free st6 hD3
  refine comp_it (own := 1) (fv := [some (.int pl), some (.ref D2), some (.str jn)]) rfl gok1 m (fun i out H' => ∃ ns : List Str, Same H6 H' /\ out = ns.map V.str /\ H' D3 = some (.lst out) /\ ns.length = i /\ ∀ k n, ns[k]? = some n -> n.cps.toList = jn.cps.toList.take pl ++ (97 + (fi + 7 * k) % 26) :: jn.cps.toList.drop pl) ⟨[], Same.new hD3, rfl, upd_same, rfl, by simp⟩ (fun out H7 ⟨ns, s7, eo, h7, le, hn⟩ => ⟨Nat.le_refl _, ?_⟩) (fun i out H7 hi ⟨ns, s7, eo, h7, le, hn⟩ => ⟨hi, fun x H8 ⟨e8, ex⟩ => ?_⟩)
  ·subst eo
   refine k D3 ns H7 (b06.trans (But.of s7)) (st6.same s7) fD3 h7 (nm_made m8 le (fun c hc => jo c (List.mem_of_mem_take hc)) (fun c hc => jo c (List.mem_of_mem_drop hc)) ?_ hn)
   rw [List.length_take, List.length_drop]
   omega
  ·subst e8
   subst ex
   refine ⟨_, rfl, rfl, fun Nx hN => yesT ?_⟩
   have ct := cut_to (x := jn) p1'
   have cf := cut_from (x := jn) p1'
   have lt : (Txt.slice jn none (some (pl : Int))).length <= 6 := by
    rw [len_chars, ct, List.length_take]; omega
   have lf : (Txt.slice jn (some (pl : Int)) none).length <= 6 := by
    rw [len_chars, cf, List.length_drop]; omega
   have ha : ((List.range m).map fun k => V.str ⟨#[97 + (fi + 7 * k) % 26]⟩)[i]? = some (V.str ⟨#[97 + (fi + 7 * i) % 26]⟩) := by
    rw [List.getElem?_map, List.getElem?_range hi]
    rfl
   refine ⟨_, rfl, _, rfl, _, rfl, jn, rfl, by omega, _, rfl, _, rfl, D2, _, _, V.str ⟨#[97 + (fi + 7 * i) % 26]⟩, rfl, rfl, .of (s7 _ _ h6), ?_, _, _, rfl, rfl, ?_, ?_⟩
   ·rw [atI_nat (by omega) (by rw [List.length_map, List.length_range]; omega), Int.zero_add]
    exact ha
   ·show (Txt.slice jn none (some (pl : Int))).length + 1 <= sizeLine
    omega
   have l1 : (Txt.slice jn none (some (pl : Int)) ++ (⟨#[97 + (fi + 7 * i) % 26]⟩ : Str)).length <= 7 := by
    rw [len_chars, app_l, List.length_append, <- len_chars]
    show _ + 1 <= 7
    omega
   refine ⟨_, rfl, _, rfl, _, rfl, jn, rfl, by omega, _, _, rfl, rfl, by omega, ?_⟩
   have l2 : (Txt.slice jn none (some (pl : Int)) ++ (⟨#[97 + (fi + 7 * i) % 26]⟩ : Str) ++ Txt.slice jn (some (pl : Int)) none).length <= 13 := by
    rw [len_chars, app_l, List.length_append, <- len_chars, <- len_chars]
    omega
   have z0 : ((0 : Int) + (i : Int)) / 26 = 0 := by omega
   refine ⟨_, rfl, _, _, rfl, rfl, ⟨by decide, by decide⟩, "z", 0, rfl, by show V.int ((0 + (i : Int)) / 26) = _; rw [z0], mulZ.1, _, _, rfl, rfl, ?_, out, h7, ?_, hN _ _ ⟨ns ++ [Txt.slice jn none (some (pl : Int)) ++ (⟨#[97 + (fi + 7 * i) % 26]⟩ : Str) ++ Txt.slice jn (some (pl : Int)) none ++ Txt.mul "z" 0], same_but s7 hD3, ?_, upd_same, ?_, ?_⟩⟩
   ·rw [mulZ.2]
    show _ + 0 <= sizeLine
    omega
   ·rw [eo, List.length_map]; omega
   ·rw [eo, List.map_append]
    rfl
   ·rw [List.length_append, le]
    rfl
   ·intro k n hk
    by_cases z : k < ns.length
    ·rw [List.getElem?_append_left z] at hk
     exact hn k n hk
    ·rw [List.getElem?_append_right (by omega)] at hk
     have hk0 : k - ns.length = 0 := by
      have := (List.getElem?_eq_some_iff.mp hk).1
      simp at this
      omega
     rw [hk0] at hk
     have : k = i := by omega
     subst this
     obtain rfl := (Option.some.inj hk)
     rw [mulZ.2, app_l, app_l, app_l, ct, cf, show ("" : Str).cps.toList = [] by decide +kernel]
     simp
end
end Ev
set_option Elab.async false
set_option linter.all false
set_option maxRecDepth 100000
namespace Ev
open PySem L2
structure WI (K : PySem.W.Frag) (H0 H : Hp) (l ln lh lt : Addr) (ns : List Str) (nh k j : Nat) : Prop where
 but : But l H0 H
 st : stt H l
 hn : H ln = some (.lst (ns.map V.str))
 hands : ∃ (ys : List V) (hs : List (Str × Int)), H lh = some (.lst ys) /\ TupsAt K H ys (hs.map kH) /\ hs.map (·.1) = ns.take nh /\ ∀ h ∈ hs, 1 <= h.2 /\ h.2 <= 1000
 ties : ∃ (zs : List V) (ts : List (Str × Str)), H lt = some (.lst zs) /\ TupsAt K H zs (ts.map kT) /\ TI ns k j ts
 nl : ln ≠ l
 hl : lh ≠ l
 tl : lt ≠ l
 th : lt ≠ lh
 nh' : ln ≠ lh
 nt : ln ≠ lt
 fh : H0 lh = none
 ft : H0 lt = none
section
variable {K : PySem.W.Frag} {H0 H H' : Hp} {l ln lh lt : Addr} {ns : List Str} {nh k j : Nat}
theorem WI.mv (W : WI K H0 H l ln lh lt ns nh k j) (b : But l H H') (s : stt H' l) : WI K H0 H' l ln lh lt ns nh k j := by
 obtain ⟨xs, hx⟩ := W.st.some
 obtain ⟨ys, hs, h1, h2, h3, h4⟩ := W.hands
 obtain ⟨zs, ts, t1, t2, t3⟩ := W.ties
 exact ⟨W.but.trans b, s, b _ _ W.hn W.nl, ⟨ys, hs, b _ _ h1 W.hl, tups_keep h2 b hx, h3, h4⟩, ⟨zs, ts, b _ _ t1 W.tl, tups_keep t2 b hx, t3⟩, W.nl, W.hl, W.tl, W.th, W.nh', W.nt, W.fh, W.ft⟩
theorem WI.same (W : WI K H0 H l ln lh lt ns nh k j) (s : Same H H') : WI K H0 H' l ln lh lt ns nh k j := W.mv (But.of s) (W.st.same s)
theorem WI.hand (W : WI K H0 H l ln lh lt ns nh k j) {t : Addr} {n : Str} {x : Int} {ys : List V} (hx : 1 <= x /\ x <= 1000) (hn : ns[nh]? = some n) (hy : H lh = some (.lst ys)) (ht : H t = some (.tup [.str n, .int x])) : WI K H0 (upd H lh (.lst (ys ++ [.ref t]))) l ln lh lt ns (nh + 1) k j := by
 obtain ⟨ys', hs, h1, h2, h3, h4⟩ := W.hands
 rw [hy] at h1
 cases h1
 obtain ⟨zs, ts, t1, t2, t3⟩ := W.ties
 have tt : H t = some (.tup ((kH (n, x)).map kV)) := ht
 refine ⟨W.but.snd W.fh, W.st.upd W.hl, by rw [upd_ne W.nh']; exact W.hn, ⟨_, hs ++ [(n, x)], upd_same, ?_, ?_, fun h hh => ?_⟩, ⟨zs, ts, by rw [upd_ne W.th]; exact t1, tups_but t2 hy, t3⟩, W.nl, W.hl, W.tl, W.th, W.nh', W.nt, W.fh, W.ft⟩
 ·rw [List.map_append]
  exact tups_but (tups_snoc h2 tt) hy
 ·rw [List.map_append, h3, List.take_add_one, hn]
  rfl
 ·rcases List.mem_append.mp hh with hh | hh
  ·exact h4 h hh
  ·obtain rfl : h = (n, x) := by simpa using hh
   exact hx
theorem insAt_end {α : Type} (l : List α) (x : α) : insAt l l.length x = l ++ [x] := by
 unfold insAt
 rw [List.take_length, List.drop_length]
end
section
variable {P : Program} {w : World} {K : PySem.W.Frag} {mg : Str -> Option Value} {base : Heap}
theorem scLWeb : FnScope ["_law_state_here", "_law_names", "_law_plain", "_law_dense", "_law_hands", "_law_ties", "_law_k", "_law_name", "_law_some", "_law_other", "_law_pair"] ["_law_state_here"] (defScope sLWeb) := ⟨rfl, rfl, rfl, by decide +kernel, rfl, by decide +kernel, by decide +kernel⟩
def spLWeb (K : PySem.W.Frag) : Sp := fun vs H Q _ => ∃ (l : Addr), vs = [.ref l] /\ stt H l /\ ∀ (t lh lt : Addr) (ys zs : List V) (hs : List (Str × Int)) (ts : List (Str × Str)) (H' : Hp), But l H H' -> stt H' l -> H' t = some (.tup [.ref lh, .ref lt]) -> H lh = none -> H lt = none -> lh ≠ lt -> lh ≠ l -> lt ≠ l ->
 H' lh = some (.lst ys) -> TupsAt K H' ys (hs.map kH) -> H' lt = some (.lst zs) -> TupsAt K H' zs (ts.map kT) -> Good hs ts -> Q (.ref t) H'
set_option maxHeartbeats 1600000 in
theorem ok_lweb {f : Addr} {fd : FuncData} (F : Fun K "_law_web" "_law_web" sLWeb f fd) (B : Bi mg) (cD : Cal P w K mg base 2 "_law_digit" ["_law_state_here", "_law_base"] spDigit) (cN : Cal P w K mg base 3 "_law_named" ["_law_state_here", "_law_many"] spNamed) : FnOk P w K mg base CX0 4 f fd ["_law_state_here"] (spLWeb K) := by
 refine F.ok scLWeb (fun vs H Q E h => ?_) (fun cdv A outer s H vs Q E hr h => ?_)
 ·obtain ⟨l, rfl, _⟩ := h
  rfl
 ·obtain ⟨l, rfl, st, k⟩ := h
  have sz := sizeLine_eq
  have hr2 : Room 2 _ := hr.mono (by decide)
  refine' ⟨_, ?r0, ?kk⟩
  case' r0 => refine' pss_cons ?s1 ?r1
  case' r1 => refine' pss_cons ?s2 ?r2
  case' r2 => refine' pss_cons ?s3 ?r3
  case' r3 => refine' pss_cons ?s4 ?r4
  case' r4 => refine' pss_cons ?s5 ?r5
  case' r5 => refine' pss_cons ?s6 ?r6
  case' r6 => refine' pss_one ?s7
  case s1 => exact ps_set (i := 1) scLWeb.nd rfl (Or.inl rfl) (pe_fn cN hr (pa_cons (pv 0) (pa_cons (pe_op op_add pe_int (pe_fn cD hr2 (pa_cons (pv 0) (pa_cons pe_int pa_nil)))) pa_nil)))
  case s2 => exact ps_set (i := 2) scLWeb.nd rfl (Or.inl rfl) (pe_fn cD hr2 (pa_cons (pv 0) (pa_cons pe_int pa_nil)))
  case s3 => exact ps_set (i := 3) scLWeb.nd rfl (Or.inl rfl) (pe_op op_add pe_int (pe_fn cD hr2 (pa_cons (pv 0) (pa_cons pe_int pa_nil))))
  case s4 => exact ps_set (i := 4) scLWeb.nd rfl (Or.inl rfl) (pe_lst pa_nil)
  case s5 => exact ps_set (i := 5) scLWeb.nd rfl (Or.inl rfl) (pe_lst pa_nil)
  case' s6 => refine' ps_for PassesOwn.never rfl (pi_enum (by rfl) B.enum (pa_cons (pv 1) pa_nil)) (pg_tup rfl (pgs_cons (pg_name (i := 6) scLWeb.nd rfl (Or.inl rfl)) (pgs_cons (pg_name (i := 7) scLWeb.nd rfl (Or.inl rfl)) pgs_nil))) ?b0
  case' b0 => refine' pss_cons ?b1 ?c1
  case' c1 => refine' pss_cons ?b2 ?c2
  case' c2 => refine' pss_one ?b3
  case' b1 => refine' ps_set (i := 8) scLWeb.nd rfl (Or.inl rfl) (pe_lst ?l0)
  case' l0 => refine' pa_cons pe_int ?l1
  case' l1 => refine' pa_cons (pe_op op_add pe_int (pe_fn cD hr2 (pa_cons (pv 0) (pa_cons pe_int pa_nil)))) ?l2
  case' l2 => refine' pa_cons (pe_op op_add pe_int (pe_fn cD hr2 (pa_cons (pv 0) (pa_cons pe_int pa_nil)))) ?l3
  case l3 => exact pa_cons pe_int pa_nil
  case' b2 => refine' ps_expr (pe_bm PySem.F.plainAttrs_list PySem.F.slot_list_append PySem.F.type_list_append mt_append (pv 4) (pa_cons (pe_tup (pa_cons (pv 7) (pa_cons ?d1 pa_nil))) pa_nil))
  case d1 => exact pe_ix ix_list (pv 8) (pe_op op_mul (pe_fn cD hr2 (pa_cons (pv 0) (pa_cons pe_int pa_nil))) (pe_callTy call_int1 (by rfl) B.int PyProof.Rows.Boot.«int» (pa_cons (pe_cmpR op_gt (pv 2) pe_int (nomark _)) pa_nil))) (fun _ _ => rfl)
  case' b3 => refine' ps_for PassesOwn.never rfl (pi_list (pe_slice sl_list (pv 1) po_none (po_some (pv 6)))) (pg_name (i := 9) scLWeb.nd rfl (Or.inl rfl)) ?e0
  case' e0 => refine' pss_cons ?e1 ?e2
  case e1 => exact ps_set (i := 10) scLWeb.nd rfl (Or.inl rfl) (pe_ix ix_list (pe_lst (pa_cons (pe_tup (pa_cons (pv 7) (pa_cons (pv 9) pa_nil))) (pa_cons (pe_tup (pa_cons (pv 9) (pa_cons (pv 7) pa_nil))) pa_nil))) (pe_fn cD hr2 (pa_cons (pv 0) (pa_cons pe_int pa_nil))) (fun _ _ => rfl))
  case' e2 => refine' pss_one (ps_set (i := 5) scLWeb.nd rfl (Or.inl rfl) (pe_op op_cat (pv 5) (pe_op op_rep (pe_lst (pa_cons (pv 10) pa_nil)) ?g1)))
  case g1 => exact pe_callTy call_int1 (by rfl) B.int PyProof.Rows.Boot.«int» (pa_cons (pe_cmpR op_lt (pe_fn cD hr2 (pa_cons (pv 0) (pa_cons pe_int pa_nil))) (pv 3) (nomark _)) pa_nil)
  case s7 => exact ps_ret (pe_tup (pa_cons (pv 4) (pa_cons (pv 5) pa_nil)))
  case' kk => skip
  refine ⟨_, rfl, _, rfl, l, 8, rfl, by decide, by decide, st, fun r H1 r0 r8 b1 st1 => ⟨_, _, rfl, rfl, ?_⟩⟩
  obtain ⟨r, rfl⟩ := Int.eq_ofNat_of_zero_le r0
  refine ⟨l, 1 + r, by show [V.ref l, V.int (1 + (r : Int))] = [V.ref l, V.int ((1 + r : Nat) : Int)]; rw [Int.natCast_add]; rfl, by omega, st1, fun ln ns H2 b2 st2 fn hn2 N => ?_⟩
  have n8 : ns.length <= 8 := by rw [N.len]; omega
  have n1 : 1 <= ns.length := by rw [N.len]; omega
  have lnl : ln ≠ l := st1.ne fn
  refine ⟨_, rfl, l, 3, rfl, by decide, by decide, st2, fun pln H3 p0 p1 b3 st3 => ?_⟩
  refine ⟨_, rfl, l, 3, rfl, by decide, by decide, st3, fun dn H4 d0 d1 b4 st4 => ⟨_, _, rfl, rfl, ?_⟩⟩
  have hn4 := b4 _ _ (b3 _ _ hn2 lnl) lnl
  have B4 : But l H H4 := b1.trans (b2.trans (b3.trans b4))
  refine ⟨by show 0 <= sizeLine; decide, fun lh hlh => ?_⟩
  have s5 := Same.new (o := .lst []) hlh
  have hlh5 : upd H4 lh (.lst []) lh = some (.lst []) := upd_same
  have lhl := st4.ne hlh
  have fh : H lh = none := B4.free st4 hlh
  have nlh : ln ≠ lh := ne_of_none hn4 hlh
  generalize upd H4 lh (.lst []) = H5 at s5 hlh5 ⊢
  refine ⟨by show 0 <= sizeLine; decide, fun lt hlt => ?_⟩
  have s6 := Same.new (o := .lst []) hlt
  have st5 := st4.same s5
  have ltl := st5.ne hlt
  have B5 := B4.trans (But.of s5)
  have ft : H lt = none := B5.free st5 hlt
  have W0 : WI K H (upd H5 lt (.lst [])) l ln lh lt ns 0 0 0 := ⟨B5.trans (But.of s6), st5.same s6, s6 _ _ (s5 _ _ hn4), ⟨[], [], s6 _ _ hlh5, .nil, rfl, by simp⟩, ⟨[], [], upd_same, .nil, ⟨by simp, .nil, Nat.zero_le _⟩⟩, lnl, lhl, ltl, (ne_of_none hlh5 hlt).symm, nlh, ne_of_none (s5 _ _ hn4) hlt, fh, ft⟩
  clear B4 B5 b1 b2 b3 b4 st1 st2 st3 st4 st5 s5 s6 fn hn2 hn4
  generalize upd H5 lt (.lst []) = H6 at W0 ⊢
  refine setG ?_
  dsimp only
  refine seqG (fun σ H' => ∃ (lt : Addr) (v6 v7 v8 v9 v10 : Option V), σ = [some (.ref l), some (.ref ln), some (.int pln), some (.int (1 + dn)), some (.ref lh), some (.ref lt), v6, v7, v8, v9, v10] /\ WI K H H' l ln lh lt ns ns.length ns.length 0) ?last ?loop
  case last =>
   rintro σ H7 ⟨lt, v6, v7, v8, v9, v10, rfl, W⟩
   obtain ⟨ys, hs, h1, h2, h3, h4⟩ := W.hands
   obtain ⟨zs, ts, t1, t2, t3⟩ := W.ties
   rw [List.take_length] at h3
   refine ⟨_, rfl, _, rfl, by show 2 <= sizeLine; decide, fun t ht => ?_⟩
   have s8 := Same.new (o := .tup [.ref lh, .ref lt]) ht
   refine k t lh lt ys zs hs ts _ (W.but.trans (But.of s8)) (W.st.same s8) upd_same W.fh W.ft W.th.symm W.hl W.tl (s8 _ _ h1) (h2.same s8) (s8 _ _ t1) (t2.same s8) ?_
   have tg := t3.good N.nd N.ok
   have hlen : hs.length = ns.length := by
    have := congrArg List.length h3
    rwa [List.length_map] at this
   refine ⟨fun h hh => ⟨N.ok _ ?_, h4 h hh⟩, by rw [h3]; exact N.nd, by omega, by omega, fun t ht => (tg t ht).1, t3.nd, by have := t3.len; omega, fun t ht => by rw [h3]; exact (tg t ht).2⟩
   rw [<- h3]
   exact List.mem_map.mpr ⟨h, hh, rfl⟩
  case loop =>
   intro N0 hN
   refine ⟨_, rfl, ln, rfl, ⟨_, .of W0.hn⟩, for_enum (K := K) (a := ln) (xs := ns.map V.str) (fun i σ H' => ∃ (lt : Addr) (v6 v7 v8 v9 v10 : Option V), σ = [some (.ref l), some (.ref ln), some (.int pln), some (.int (1 + dn)), some (.ref lh), some (.ref lt), v6, v7, v8, v9, v10] /\ WI K H H' l ln lh lt ns i i 0)
    ⟨lt, none, none, none, none, none, rfl, W0⟩ (fun i σ H' _ ⟨_, _, _, _, _, _, _, W⟩ => .of W.hn) ?_ ?_⟩
   rotate_left 1
   ·rintro σ H' ⟨lt, v6, v7, v8, v9, v10, rfl, W⟩
    rw [List.length_map] at W
    exact hN _ _ ⟨lt, v6, v7, v8, v9, v10, rfl, W⟩
   rintro i x σ H7 hx ⟨lt, v6, v7, v8, v9, v10, rfl, W⟩ u hu
   obtain ⟨one, hone, rfl⟩ := map_get_str hx
   have hi : i < ns.length := (List.getElem?_eq_some_iff.mp hone).1
   have s7 : Same H7 (upd H7 u (.tup [.int i, .str one])) := Same.new hu
   have hu7 : upd H7 u (.tup [.int i, .str one]) u = some (.tup [.int i, .str one]) := upd_same
   refine ⟨u, _, rfl, .of hu7, rfl, _, _, rfl, _, _, rfl, rfl, ?_⟩
   have W8 := W.same s7
   clear W hu7
   generalize upd H7 u (.tup [.int i, .str one]) = H8 at W8 ⊢
   clear s7 hu
   dsimp only
   refine seqG (fun σ H' => ∃ (lt ls : Addr) (v9 v10 : Option V) (a b : Int), σ = [some (.ref l), some (.ref ln), some (.int pln), some (.int (1 + dn)), some (.ref lh), some (.ref lt), some (.int i), some (.str one), some (.ref ls), v9, v10] /\ WI K H H' l ln lh lt ns i i 0 /\ H' ls = some (.lst [.int 1, .int a, .int b, .int 1000]) /\ ls ≠ l /\ 1 <= a /\ a <= 1000 /\ 1 <= b /\ b <= 1000) ?m2 ?m1
   case m1 =>
    intro N2 hN2
    refine ⟨_, rfl, l, 4, rfl, by decide, by decide, W8.st, fun r1 H9 q0 q1 b9 st9 => ⟨_, _, rfl, rfl, ?_⟩⟩
    have W9 := W8.mv b9 st9
    refine ⟨_, rfl, l, 1000, rfl, by decide, by decide, W9.st, fun r2 H10 q2 q3 b10 st10 => ⟨_, _, rfl, rfl, ?_⟩⟩
    have W10 := W9.mv b10 st10
    refine ⟨by show 4 <= sizeLine; decide, fun ls hls => ?_⟩
    exact hN2 _ _ ⟨lt, ls, _, _, 1 + r1, 1 + r2, rfl, W10.same (Same.new hls), upd_same, W10.st.ne hls, by omega, by omega, by omega, by omega⟩
   rintro σ H9 ⟨lt, ls, v9, v10, a, b, rfl, W9, hls, lsl, a1, a2, b1, b2⟩
   refine seqG (fun σ H' => ∃ (lt ls : Addr) (v9 v10 : Option V), σ = [some (.ref l), some (.ref ln), some (.int pln), some (.int (1 + dn)), some (.ref lh), some (.ref lt), some (.int i), some (.str one), some (.ref ls), v9, v10] /\ WI K H H' l ln lh lt ns (i + 1) i 0) ?m4 ?m3
   case m3 =>
    intro N3 hN3
    obtain ⟨ys, hs, h1, h2, h3, h4⟩ := W9.hands
    refine ⟨_, rfl, .inl ⟨rfl, _, .of h1⟩, _, rfl, _, rfl, _, rfl, l, 4, rfl, by decide, by decide, W9.st, fun r1 H10 q0 q1 b10 st10 => ?_⟩
    have W10 := W9.mv b10 st10
    obtain ⟨ix, e0, e4, eix⟩ : ∃ ix : Int, 0 <= ix /\ ix < 4 /\ r1 * (if decide (0 < pln) = true then 1 else 0) = ix := by
     refine ⟨_, ?_, ?_, rfl⟩
     ·by_cases c : decide (0 < pln) = true
      ·rw [if_pos c]; omega
      ·rw [if_neg c]; omega
     ·by_cases c : decide (0 < pln) = true
      ·rw [if_pos c]; omega
      ·rw [if_neg c]; omega
    obtain ⟨v, hv, x, rfl, x1, x2⟩ := hitL (p := fun v : V => ∃ x : Int, v = V.int x /\ 1 <= x /\ x <= 1000) (xs := [V.int 1, .int a, .int b, .int 1000]) (n := 4) rfl e0 e4 (fun v hv => by
     simp only [List.mem_cons, List.not_mem_nil, or_false] at hv
     rcases hv with rfl | rfl | rfl | rfl
     ·exact ⟨_, rfl, by decide, by decide⟩
     ·exact ⟨_, rfl, a1, a2⟩
     ·exact ⟨_, rfl, b1, b2⟩
     ·exact ⟨_, rfl, by decide, by decide⟩)
    have hls10 := b10 _ _ hls lsl
    refine ⟨_, rfl, _, _, rfl, rfl, .inr ⟨_, rfl, _, _, rfl, rfl, .inl ⟨by omega, by omega⟩, ls, _, _, _, rfl, congrArg V.int eix, .of hls10, hv, by show 2 <= sizeLine; decide, fun t ht => ?_⟩⟩
    have W11 := W10.same (Same.new (o := .tup [.str one, .int x]) ht)
    have h10 := b10 _ _ h1 W9.hl
    refine ⟨lh, _, _, rfl, rfl, Same.new (o := .tup [.str one, .int x]) ht _ _ h10, ?_, hN3 _ _ ⟨lt, ls, v9, v10, rfl, W11.hand ⟨x1, x2⟩ hone (Same.new (o := .tup [.str one, .int x]) ht _ _ h10) upd_same⟩⟩
    have := congrArg List.length h3
    have := Paired.length h2
    rw [List.length_map] at this
    rw [List.length_map, List.length_take] at *
    omega
   rintro σ H10 ⟨lt, ls, v9, v10, rfl, W10⟩
   refine ⟨_, rfl, _, rfl, _, rfl, ln, _, rfl, .of W10.hn, fun p hp => ?_⟩
   rw [cut_take]
   have W11 := W10.same (Same.new (o := .lst ((ns.take i).map V.str)) hp)
   have hp11 : upd H10 p (.lst ((ns.take i).map V.str)) p = some (.lst ((ns.take i).map V.str)) := upd_same
   have lp := W10.st.ne hp
   generalize upd H10 p (.lst ((ns.take i).map V.str)) = H11 at W11 hp11 ⊢
   refine ⟨p, rfl, ⟨_, .of hp11⟩, for_list (K := K) (a := p) (xs := (ns.take i).map V.str) (fun j σ H' => ∃ (lt ls : Addr) (v9 v10 : Option V), σ = [some (.ref l), some (.ref ln), some (.int pln), some (.int (1 + dn)), some (.ref lh), some (.ref lt), some (.int i), some (.str one), some (.ref ls), v9, v10] /\ H' p = some (.lst ((ns.take i).map V.str)) /\ WI K H H' l ln lh lt ns (i + 1) i j)
    ⟨lt, ls, v9, v10, rfl, hp11, W11⟩ (fun j σ H' _ ⟨_, _, _, _, _, q, _⟩ => .of q) ?_ ?_⟩
   rotate_left 1
   ·rintro σ H' ⟨lt, ls, v9, v10, rfl, _, W⟩
    refine ⟨lt, _, _, _, _, _, rfl, ?_⟩
    obtain ⟨zs, ts, t1, t2, t3⟩ := W.ties
    rw [List.length_map, List.length_take, Nat.min_eq_left (by omega)] at t3
    exact ⟨W.but, W.st, W.hn, W.hands, ⟨zs, ts, t1, t2, t3.next (by omega)⟩, W.nl, W.hl, W.tl, W.th, W.nh', W.nt, W.fh, W.ft⟩
   rintro j y σ H12 hy ⟨lt, ls, v9, v10, rfl, hp12, W12⟩
   obtain ⟨o, ho, rfl⟩ := map_get_str hy
   have hj : j < i := by
    have := (List.getElem?_eq_some_iff.mp ho).1
    rw [List.length_take] at this
    omega
   rw [List.getElem?_take, if_pos hj] at ho
   refine setG ?_
   dsimp only
   refine seqG (fun σ H' => ∃ (lt ls t : Addr) (v9 : Option V) (tt : Str × Str), σ = [some (.ref l), some (.ref ln), some (.int pln), some (.int (1 + dn)), some (.ref lh), some (.ref lt), some (.int i), some (.str one), some (.ref ls), v9, some (.ref t)] /\ H' p = some (.lst ((ns.take i).map V.str)) /\ WI K H H' l ln lh lt ns (i + 1) i j /\ H' t = some (.tup ((kT tt).map kV)) /\ (tt = (one, o) ∨ tt = (o, one))) ?m6 ?m5
   case m5 =>
    intro N5 hN5
    refine ⟨_, rfl, _, rfl, by show 2 <= sizeLine; decide, fun t1 ht1 => ?_⟩
    have s11 := Same.new (o := .tup [.str one, .str o]) ht1
    refine ⟨_, rfl, _, rfl, by show 2 <= sizeLine; decide, fun t2 ht2 => ?_⟩
    have s12 := Same.new (o := .tup [.str o, .str one]) ht2
    refine ⟨by show 2 <= sizeLine; decide, fun lx hlx => ?_⟩
    have s13 := Same.new (o := .lst [.ref t1, .ref t2]) hlx
    have W13 := W12.same ((s11.trans s12).trans s13)
    have hp13 := s13 _ _ (s12 _ _ (s11 _ _ hp12))
    refine ⟨_, rfl, l, 2, rfl, by decide, by decide, W13.st, fun r5 H14 q4 q5 b14 st14 => ?_⟩
    have lxl : lx ≠ l := (W12.same (s11.trans s12)).st.ne hlx
    have hlx14 := b14 _ _ (show upd (upd (upd H12 t1 (.tup [.str one, .str o])) t2 (.tup [.str o, .str one])) lx (.lst [.ref t1, .ref t2]) lx = _ from upd_same) lxl
    obtain ⟨xs13, hl13⟩ := W13.st.some
    have ht1' := s13 _ _ (s12 _ _ (show upd H12 t1 (.tup [.str one, .str o]) t1 = _ from upd_same))
    have ht2' := s13 _ _ (show upd (upd H12 t1 (.tup [.str one, .str o])) t2 (.tup [.str o, .str one]) t2 = _ from upd_same)
    have ht1'' := b14 _ _ ht1' (ne_of ht1' hl13 (by intro z; cases z))
    have ht2'' := b14 _ _ ht2' (ne_of ht2' hl13 (by intro z; cases z))
    have pick : ∃ (t : Addr) (tt : Str × Str), atI [V.ref t1, V.ref t2] r5 = some (.ref t) /\ H14 t = some (.tup ((kT tt).map kV)) /\ (tt = (one, o) ∨ tt = (o, one)) := by
     rcases hit2 (a := V.ref t1) (b := V.ref t2) q4 q5 with e | e
     ·exact ⟨t1, (one, o), e, ht1'', .inl rfl⟩
     ·exact ⟨t2, (o, one), e, ht2'', .inr rfl⟩
    obtain ⟨t, tt, et, htt, hor⟩ := pick
    exact ⟨lx, _, _, _, rfl, rfl, .of hlx14, et, hN5 _ _ ⟨lt, ls, t, _, tt, rfl, b14 _ _ hp13 lp, W13.mv b14 st14, htt, hor⟩⟩
   rintro σ H13 ⟨lt, ls, t, v9, tt, rfl, hp13, W13, htt, hor⟩
   obtain ⟨zs, ts, t1, t2, t3⟩ := W13.ties
   refine ⟨_, rfl, _, rfl, by show 1 <= sizeLine; decide, fun lx hlx => ?_⟩
   have s14 := Same.new (o := .lst [.ref t]) hlx
   have W14 := W13.same s14
   have hlx14 : upd H13 lx (.lst [.ref t]) lx = some (.lst [.ref t]) := upd_same
   have lxl := W13.st.ne hlx
   have lxh : lx ≠ p := (ne_of_none hp13 hlx).symm
   have hp14 := s14 _ _ hp13
   have htt14 := s14 _ _ htt
   generalize upd H13 lx (.lst [.ref t]) = H14 at s14 W14 hlx14 hp14 htt14 ⊢
   refine ⟨_, rfl, l, 3, rfl, by decide, by decide, W14.st, fun r6 H15 q6 q7 b15 st15 => ⟨_, rfl, _, _, rfl, rfl, .inr ⟨_, rfl, ?_⟩⟩⟩
   have W15 := W14.mv b15 st15
   have hlx15 := b15 _ _ hlx14 lxl
   have hp15 := b15 _ _ hp14 lp
   obtain ⟨xs14, hl14⟩ := W14.st.some
   have htt15 := b15 _ _ htt14 (ne_of htt14 hl14 (by intro z; cases z))
   obtain ⟨zs5, ts5, u1, u2, u3⟩ := W15.ties
   have u7 : zs5.length <= 100 := by
    have a1 := Paired.length u2
    have a2 := u3.len
    rw [List.length_map] at a1
    omega
   have fin : ∀ (b : Bool) (q : Addr) (H16 : Hp), Same H15 H16 -> ∀ u, H16 u = none -> WI K H (upd H16 u (.lst (zs5 ++ (List.replicate (if b = true then (1 : Int) else 0).toNat [V.ref t]).flatten))) l ln lh u ns (i + 1) i (j + 1) := by
    intro b q H16 s16 u hu
    have W16 := W15.same s16
    have W17 := W16.same (Same.new (o := .lst (zs5 ++ (List.replicate (if b = true then (1 : Int) else 0).toNat [V.ref t]).flatten)) hu)
    refine ⟨W17.but, W17.st, W17.hn, W17.hands, ⟨_, if b = true then ts5 ++ [tt] else ts5, upd_same, ?_, ?_⟩, W17.nl, W17.hl, W16.st.ne hu, ?_, W17.nh', ?_, W17.fh, W16.but.free W16.st hu⟩
    ·have u2' := (u2.same s16).same (Same.new (o := .lst (zs5 ++ (List.replicate (if b = true then (1 : Int) else 0).toNat [V.ref t]).flatten)) hu)
     cases b with
     | true =>
      show TupsAt K _ (zs5 ++ [V.ref t]) ((ts5 ++ [tt]).map kT)
      rw [List.map_append]
      exact tups_snoc u2' (Same.new hu _ _ (s16 _ _ htt15))
     | false =>
      show TupsAt K _ (zs5 ++ []) (ts5.map kT)
      rw [List.append_nil]
      exact u2'
    ·cases b with
     | true =>
      have := u3.add N.nd hj hone ho hor ts5.length
      rw [insAt_end] at this
      exact this
     | false => exact u3.skip
    ·obtain ⟨ys, hs, h1, _⟩ := W16.hands
     exact (ne_of_none h1 hu).symm
    ·exact ne_of_none W16.hn hu
   refine ⟨lx, _, _, rfl, rfl, hlx15, ?_, ?_, ?_, fun q hq => ?_⟩
   ·by_cases c : decide (r6 < 1 + dn) = true
    ·rw [if_pos c]; decide
    ·rw [if_neg c]; decide
   ·by_cases c : decide (r6 < 1 + dn) = true
    ·rw [if_pos c]; decide
    ·rw [if_neg c]; decide
   ·by_cases c : decide (r6 < 1 + dn) = true
    ·rw [if_pos c]; show 1 * 1 <= sizeLine; decide
    ·rw [if_neg c]; show 1 * 0 <= sizeLine; decide
   have s16 := Same.new (o := .lst (List.replicate (if decide (r6 < 1 + dn) = true then (1 : Int) else 0).toNat [V.ref t]).flatten) hq
   refine ⟨lt, q, _, _, rfl, rfl, s16 _ _ u1, upd_same, ?_, fun u hu => ⟨u, ls, _, _, rfl, Same.new hu _ _ (s16 _ _ hp15), fin _ q _ s16 u hu⟩⟩
   by_cases c : decide (r6 < 1 + dn) = true
   ·rw [if_pos c]; show zs5.length + 1 <= sizeLine; omega
   ·rw [if_neg c]; show zs5.length + 0 <= sizeLine; omega
end
end Ev
set_option Elab.async false
set_option linter.all false
set_option maxRecDepth 100000
namespace L2
open PySem PySem.Spec PyProof.Rows PySem.W
theorem op_fdivL {X : Cx} : OpR X (binaryOp .FloorDiv) (rI (fun _ j => 0 < j /\ j < 2 ^ 200) fun i j => .int (i / j)) := opI fun i j _ _ _ _ _ hc q => by
 have h1 : (0 : Int) < j := hc.1
 have h2 : j < 2 ^ 200 := hc.2
 refine floordiv_int (by omega) (by rw [Int.fdiv_eq_ediv_of_nonneg i (by omega)]; exact q) (.inl (PyProof.noPylong_of_log2 ?_))
 have : j.natAbs.log2 < 200 := (Nat.log2_lt (by omega)).mpr (by omega)
 omega
theorem op_mulL {X : Cx} : OpR X (binaryOp .Mult) (rI (fun i j => (0 <= i /\ i < 2 ^ 200) /\ 0 <= j /\ j < 2 ^ 200) fun i j => .int (i * j)) := opI fun i j _ _ _ _ _ hc q => by
 refine mul_int q ?_
 obtain ⟨⟨h1, h2⟩, h3, h4⟩ := hc
 have b1 : Builtin.Int.intBits i <= 200 := intBits_le_iff.mpr (by omega)
 have b2 : Builtin.Int.intBits j <= 200 := intBits_le_iff.mpr (by omega)
 unfold IntMulOk
 have : Builtin.Int.intTooBig (↑(Builtin.Int.intBits i) + ↑(Builtin.Int.intBits j)) = false := by
  unfold Builtin.Int.intTooBig
  refine decide_eq_false ?_
  have : bitsLine = 134217728 := by decide
  omega
 rw [this, Bool.and_false]
 decide
end L2
namespace Ev
open PySem L2
theorem inj_names {α : Type} {ps : List (Str × α)} (nd : (ps.map (·.1)).Nodup) {a b : Str × α} (ha : a ∈ ps) (hb : b ∈ ps) (e : a.1 = b.1) : a = b := by
 induction ps with
 | nil => cases ha
 | cons p ps ih =>
  rw [List.map_cons, List.nodup_cons] at nd
  rcases List.mem_cons.mp ha with za | ha
  ·rcases List.mem_cons.mp hb with zb | hb
   ·rw [za, zb]
   ·rw [za] at e
    exact absurd (show p.1 ∈ ps.map (·.1) from List.mem_map.mpr ⟨b, hb, e.symm⟩) nd.1
  ·rcases List.mem_cons.mp hb with zb | hb
   ·rw [zb] at e
    exact absurd (show p.1 ∈ ps.map (·.1) from List.mem_map.mpr ⟨a, ha, e⟩) nd.1
   ·exact ih nd.2 ha hb
def strOf (hs : List (Str × Int)) (n : Str) : Int := ((hs.find? fun h => decide (h.1 = n)).map (·.2)).getD 0
theorem strOf_mem {hs : List (Str × Int)} {n : Str} (h : n ∈ hs.map (·.1)) : (n, strOf hs n) ∈ hs := by
 unfold strOf
 obtain ⟨x, hx, e⟩ := List.mem_map.mp h
 cases q : hs.find? fun h => decide (h.1 = n) with
 | none =>
  have := List.find?_eq_none.mp q x hx
  simp [e] at this
 | some y =>
  have m := List.mem_of_find?_eq_some q
  have := List.find?_some q
  have e2 : y.1 = n := by simpa using this
  show (n, y.2) ∈ hs
  rw [<- e2]
  exact m
theorem strOf_eq {hs : List (Str × Int)} (nd : (hs.map (·.1)).Nodup) {n : Str} {s : Int} (h : (n, s) ∈ hs) : strOf hs n = s := by
 have m := strOf_mem (List.mem_map.mpr ⟨_, h, rfl⟩ : n ∈ hs.map (·.1))
 exact congrArg Prod.snd (inj_names nd m h rfl)
def fr (a b : Int) : Int × Int := (a / (Int.gcd a b : Int), b / (Int.gcd a b : Int))
theorem gcd_step {a b : Int} (ha : 0 <= a) (h : 0 < b) : Int.gcd b (a % b) = Int.gcd a b := by
 obtain ⟨m, rfl⟩ := Int.eq_ofNat_of_zero_le ha
 obtain ⟨n, rfl⟩ := Int.eq_ofNat_of_zero_le (Int.le_of_lt h)
 rw [<- Int.natCast_emod]
 show Nat.gcd n (m % n) = Nat.gcd m n
 rw [Nat.gcd_comm n, <- Nat.gcd_rec, Nat.gcd_comm]
def redF (t d : Int) : Int × Int := (t / (Int.gcd t d : Int), d / (Int.gcd t d : Int))
theorem redF_ok {t d : Int} (hd : 0 < d) : ∃ g : Int, 0 < g /\ t = g * (redF t d).1 /\ d = g * (redF t d).2 /\ 0 < (redF t d).2 /\ Int.gcd (redF t d).1 (redF t d).2 = 1 := by
 have hg : 0 < Int.gcd t d := Int.gcd_pos_of_ne_zero_right t (by omega)
 obtain ⟨k, hk⟩ := Int.gcd_dvd_left t d
 obtain ⟨m, hm⟩ := Int.gcd_dvd_right t d
 have gp : (0 : Int) < (Int.gcd t d : Int) := by omega
 have e1 : (redF t d).1 = k := by
  show t / (Int.gcd t d : Int) = k
  exact Int.ediv_eq_of_eq_mul_right (by omega) hk
 have e2 : (redF t d).2 = m := by
  show d / (Int.gcd t d : Int) = m
  exact Int.ediv_eq_of_eq_mul_right (by omega) hm
 refine ⟨(Int.gcd t d : Int), gp, by rw [e1]; exact hk, by rw [e2]; exact hm, ?_, ?_⟩
 ·rw [e2]
  have : 0 < (Int.gcd t d : Int) * m := by rw [<- hm]; exact hd
  exact Int.pos_of_mul_pos_right this gp
 ·rw [e1, e2]
  have h3 : Int.gcd t d = Int.gcd t d * Int.gcd k m := by
   have := Int.gcd_mul_left (Int.gcd t d : Int) k m
   rw [<- hk, <- hm] at this
   rw [Int.natAbs_natCast] at this
   exact this
  exact (Nat.eq_of_mul_eq_mul_left hg (by rw [Nat.mul_one]; exact h3)).symm
theorem red_unique {p q R M : Int} (hp : 0 <= p) (hq : 0 < q) (hR : 0 <= R) (hM : 0 < M) (g : Int.gcd p q = 1) (e : p * M = R * q) : fr R M = (p, q) := by
 obtain ⟨a, rfl⟩ := Int.eq_ofNat_of_zero_le hp
 obtain ⟨b, rfl⟩ := Int.eq_ofNat_of_zero_le (Int.le_of_lt hq)
 obtain ⟨r, rfl⟩ := Int.eq_ofNat_of_zero_le hR
 obtain ⟨m, rfl⟩ := Int.eq_ofNat_of_zero_le (Int.le_of_lt hM)
 have e : a * m = r * b := by exact_mod_cast e
 have g : Nat.gcd a b = 1 := g
 have hb : 0 < b := by omega
 have hm : 0 < m := by omega
 have d : b ∣ m := Nat.Coprime.dvd_of_dvd_mul_left (k := b) (m := a) (n := m) (by show Nat.gcd b a = 1; rw [Nat.gcd_comm]; exact g) ⟨r, by rw [e, Nat.mul_comm]⟩
 obtain ⟨c, rfl⟩ := d
 have hc : 0 < c := Nat.pos_of_mul_pos_left hm
 have er : r = a * c := by
  have : r * b = a * c * b := by rw [<- e]; ac_rfl
  exact Nat.eq_of_mul_eq_mul_right hb this
 subst er
 have gg : Nat.gcd (a * c) (b * c) = c := by rw [Nat.gcd_mul_right, g, Nat.one_mul]
 unfold fr
 have gi : Int.gcd ((a * c : Nat) : Int) ((b * c : Nat) : Int) = c := gg
 rw [gi]
 refine Prod.ext ?_ ?_
 ·show ((a * c : Nat) : Int) / (c : Int) = (a : Int)
  rw [<- Int.natCast_ediv, Nat.mul_div_cancel _ hc]
 ·show ((b * c : Nat) : Int) / (c : Int) = (b : Int)
  rw [<- Int.natCast_ediv, Nat.mul_div_cancel _ hc]
section
variable {P : Program} {w : World} {K : PySem.W.Frag} {mg : Str -> Option Value} {base : Heap}
theorem scGd : FnScope ["one", "other", "rest", "divisor", "left"] ["one", "other"] (defScope sGd) := ⟨rfl, rfl, rfl, by decide +kernel, rfl, by decide +kernel, by decide +kernel⟩
def spGd : Sp := fun vs H Q _ => ∃ a b : Int, vs = [.int a, .int b] /\ 0 <= a /\ 0 < b /\ Q (.int (Int.gcd a b)) H
theorem ok_gd {f : Addr} {fd : FuncData} (F : Fun K "greatest_divisor" "greatest_divisor" sGd f fd) : FnOk P w K mg base CX0 1 f fd ["one", "other"] spGd := by
 refine F.ok scGd (fun vs H Q E h => ?_) (fun cdv A outer s H vs Q E hr h => ?_)
 ·obtain ⟨a, b, rfl, _⟩ := h
  rfl
 ·obtain ⟨a, b, rfl, ha, hb, k⟩ := h
  refine' ⟨_, pss_cons ?s1 (pss_cons ?s2 (pss_cons ?s3 ?s4)), ?kk⟩
  case s1 => exact ps_set (i := 2) scGd.nd rfl (Or.inl rfl) (pv 0)
  case s2 => exact ps_set (i := 3) scGd.nd rfl (Or.inl rfl) (pv 1)
  case s3 => exact ps_while PassesOwn.never (pt_cmpR op_ne (pv 2) pe_int (nomark _)) (pss_cons (ps_set (i := 4) scGd.nd rfl (Or.inl rfl) (pe_op op_mod (pv 3) (pv 2))) (pss_cons (ps_set (i := 3) scGd.nd rfl (Or.inl rfl) (pv 2)) (pss_one (ps_set (i := 2) scGd.nd rfl (Or.inl rfl) (pv 4)))))
  case s4 => exact pss_one (ps_ret (pv 3))
  case' kk => skip
  refine ⟨_, rfl, _, rfl, ?_⟩
  refine while_by (fun σ H' => H' = H /\ ∃ (r d : Int) (v4 : Option V), σ = [some (.int a), some (.int b), some (.int r), some (.int d), v4] /\ 0 <= r /\ 0 < d /\ Int.gcd r d = Int.gcd a b) (fun σ _ => match σ with | [_, _, some (.int r), _, _] => r.toNat | _ => 0) ⟨rfl, a, b, none, rfl, ha, hb, rfl⟩ ?_ ?_
  ·rintro σ H' ⟨rfl, r, d, v4, rfl, hr0, hd, e⟩
   refine ⟨_, rfl, rfl, _, rfl, ?_⟩
   refine ite2 (fun c => ?_) (fun c => ?_)
   ·have hr1 : 0 < r := by
     have : r ≠ 0 := by
      intro z
      subst z
      simp at c
     omega
    refine ⟨_, rfl, _, rfl, _, _, rfl, rfl, hr1, _, rfl, _, rfl, ?_⟩
    have h1 := Int.emod_nonneg d (Int.ne_of_gt hr1)
    have h2 := Int.emod_lt_of_pos d hr1
    refine ⟨⟨rfl, _, _, _, rfl, h1, hr1, ?_⟩, ?_⟩
    ·rw [<- e, Int.gcd_comm (d % r) r, gcd_step (Int.le_of_lt hd) hr1, Int.gcd_comm]
    ·show (d % r).toNat < r.toNat
     omega
   ·have hr1 : r = 0 := by simpa using c
    subst hr1
    refine ⟨_, rfl, ?_⟩
    have e2 : (Int.gcd a b : Int) = d := by
     rw [<- e, Int.gcd_zero_left]
     omega
    rw [<- e2]
    exact k
  ·intro σ H' Q1 Q2 hq h
   obtain ⟨x, e, h⟩ := h
   exact ⟨x, e, h.1, h.2.choose, h.2.choose_spec.1, hq _ _ h.2.choose_spec.2⟩
theorem scFrac : FnScope ["top", "below", "divisor"] ["top", "below"] (defScope sFrac) := ⟨rfl, rfl, rfl, by decide +kernel, rfl, by decide +kernel, by decide +kernel⟩
def spFrac : Sp := fun vs H Q _ => ∃ a b : Int, vs = [.int a, .int b] /\ 0 <= a /\ 0 < b /\ b < 2 ^ 200 /\ ∀ t, H t = none -> Q (.ref t) (upd H t (.tup [.int (fr a b).1, .int (fr a b).2]))
theorem ok_frac {f : Addr} {fd : FuncData} (F : Fun K "fraction_of" "fraction_of" sFrac f fd) (cG : Cal P w K mg base 1 "greatest_divisor" ["one", "other"] spGd) : FnOk P w K mg base CX0 2 f fd ["top", "below"] spFrac := by
 refine F.ok scFrac (fun vs H Q E h => ?_) (fun cdv A outer s H vs Q E hr h => ?_)
 ·obtain ⟨a, b, rfl, _⟩ := h
  rfl
 ·obtain ⟨a, b, rfl, ha, hb, hb2, k⟩ := h
  have g : 0 < (Int.gcd a b : Int) /\ (Int.gcd a b : Int) < 2 ^ 200 := by
   have h1 : 0 < Int.gcd a b := Int.gcd_pos_of_ne_zero_right a (by omega)
   have h3 := Int.le_of_dvd hb (Int.gcd_dvd_right a b)
   omega
  refine ⟨_, pss_cons (ps_set (i := 2) scFrac.nd rfl (Or.inl rfl) (pe_fn cG hr (pa_cons (pv 0) (pa_cons (pv 1) pa_nil)))) (pss_one (ps_ret (pe_tup (pa_cons (pe_op op_fdivL (pv 0) (pv 2)) (pa_cons (pe_op op_fdivL (pv 1) (pv 2)) pa_nil))))), ?_⟩
  refine ⟨_, rfl, _, rfl, a, b, rfl, ha, hb, ?_⟩
  exact ⟨_, rfl, _, rfl, _, _, rfl, rfl, g, _, rfl, _, rfl, _, _, rfl, rfl, g, by show 2 <= sizeLine; decide, k⟩
theorem scLess : FnScope ["one", "other"] ["one", "other"] (defScope sLess) := ⟨rfl, rfl, rfl, by decide +kernel, rfl, by decide +kernel, by decide +kernel⟩
def FrAt (H : Hp) (a : Addr) (x : Int × Int) : Prop := H a = some (.tup [.int x.1, .int x.2])
theorem FrAt.same {H H' : Hp} {a : Addr} {x : Int × Int} (h : FrAt H a x) (s : Same H H') : FrAt H' a x := s _ _ h
def ltF (x y : Int × Int) : Bool := decide (x.1 * y.2 < y.1 * x.2)
def sm (x : Int × Int) : Prop := (0 <= x.1 /\ x.1 < 2 ^ 200) /\ 0 < x.2 /\ x.2 < 2 ^ 200
def spLess : Sp := fun vs H Q _ => ∃ (a b : Addr) (x y : Int × Int), vs = [.ref a, .ref b] /\ FrAt H a x /\ FrAt H b y /\ sm x /\ sm y /\ Q (.bl (ltF x y)) H
theorem ok_less {f : Addr} {fd : FuncData} (F : Fun K "is_less" "is_less" sLess f fd) : FnOk P w K mg base CX0 1 f fd ["one", "other"] spLess := by
 refine F.ok scLess (fun vs H Q E h => ?_) (fun cdv A outer s H vs Q E hr h => ?_)
 ·obtain ⟨a, b, x, y, rfl, _⟩ := h
  rfl
 ·obtain ⟨a, b, x, y, rfl, ha, hb, hx, hy, k⟩ := h
  refine ⟨_, pss_one (ps_ret (pe_cmpR op_lt (pe_op op_mulL (pe_ix ix_tup (pv 0) pe_int (fun _ _ => rfl)) (pe_ix ix_tup (pv 1) pe_int (fun _ _ => rfl))) (pe_op op_mulL (pe_ix ix_tup (pv 1) pe_int (fun _ _ => rfl)) (pe_ix ix_tup (pv 0) pe_int (fun _ _ => rfl))) (nomark _))), ?_⟩
  unfold sm at hx hy
  refine ⟨_, rfl, a, _, _, _, rfl, rfl, .of ha, rfl, _, rfl, b, _, _, _, rfl, rfl, .of hb, rfl, _, _, rfl, rfl, ⟨hx.1, Int.le_of_lt hy.2.1, hy.2.2⟩, ?_⟩
  exact ⟨_, rfl, b, _, _, _, rfl, rfl, .of hb, rfl, _, rfl, a, _, _, _, rfl, rfl, .of ha, rfl, _, _, rfl, rfl, ⟨hy.1, Int.le_of_lt hx.2.1, hx.2.2⟩, _, _, rfl, rfl, k⟩
end
end Ev
set_option Elab.async false
set_option linter.all false
set_option maxRecDepth 100000
namespace L2
open PySem PySem.Spec PyProof.Rows
def entsOf (w : World) (l : List (Str × Tok × Value)) : List DictEntry := l.map fun x => ⟨hashStr w x.1, .str x.1 x.2.1, x.2.2⟩
def KDict (K : PySem.W.Frag) (w : World) (d : Addr) (kvs : List (Str × V)) : Prop :=
 (d == sysModules) = false /\ (kvs.map (·.1)).Nodup /\ ∃ (l : List (Str × Tok × Value)) (o : Obj) (es : Array DictEntry) (ep : Nat), K.lookup d = some o /\ o.ExactDict /\ o.data = .dict es ep /\ es.toList = entsOf w l /\ Paired (fun (p : Str × V) (x : Str × Tok × Value) => p.1 = x.1 /\ RelV p.2 x.2.2) kvs l
theorem ents_keys {P : Program} {w : World} : ∀ {l : List (Str × Tok × Value)}, Pairs (mixKind P w) (entsOf w l) (l.map fun x => ((Sum.inr x.1 : Key), x.2.2))
 | [] => .nil
 | x :: l => .cons (mixKind_str P w x.1 x.2.1) rfl (ents_keys (l := l))
theorem kd_names {kvs : List (Str × V)} {l : List (Str × Tok × Value)} (h : Paired (fun (p : Str × V) (x : Str × Tok × Value) => p.1 = x.1 /\ RelV p.2 x.2.2) kvs l) : kvs.map (·.1) = l.map (·.1) := by
 induction h with
 | nil => rfl
 | cons a _ ih => rw [List.map_cons, List.map_cons, ih, a.1]
theorem KDict.of {P : Program} {K : PySem.W.Frag} {w : World} {d : Addr} {kvs : List (Str × V)} {h : Heap} (k : KDict K w d kvs) (X : K.In h) : ∃ l : List (Str × Tok × Value), Paired (fun (p : Str × V) (x : Str × Tok × Value) => p.1 = x.1 /\ RelV p.2 x.2.2) kvs l /\ h.DictOf (mixKind P w) d (l.map fun x => ((Sum.inr x.1 : Key), x.2.2)) := by
 obtain ⟨_, nd, l, o, es, ep, ho, hx, hd, he, hp⟩ := k
 refine ⟨l, hp, o, es, ep, X _ _ ho, hx, hd, fun e m => ?_, ?_, ?_⟩
 ·have m : e ∈ entsOf w l := by
   rw [<- he]
   simpa using m
  obtain ⟨x, _, rfl⟩ := List.mem_map.mp m
  exact ⟨Sum.inr x.1, mixKind_str P w x.1 x.2.1, rfl⟩
 ·rw [he]
  exact ents_keys
 ·rw [kd_names hp] at nd
  rw [List.map_map, List.nodup_iff_pairwise_ne, List.pairwise_map]
  rw [List.nodup_iff_pairwise_ne, List.pairwise_map] at nd
  exact nd.imp fun n e => n (Sum.inr.inj e)
theorem kd_some {kvs : List (Str × V)} {l : List (Str × Tok × Value)} (h : Paired (fun (p : Str × V) (x : Str × Tok × Value) => p.1 = x.1 /\ RelV p.2 x.2.2) kvs l) (nd : (kvs.map (·.1)).Nodup) {z : Str} {v : V} (m : (z, v) ∈ kvs) : ∃ u, valueAt (l.map fun x => ((Sum.inr x.1 : Key), x.2.2)) (Sum.inr z) = some u /\ RelV v u := by
 unfold valueAt
 induction h with
 | nil => cases m
 | @cons p x kvs l a _ ih =>
  rw [List.map_cons] at nd ⊢
  rw [List.find?_cons]
  obtain ⟨n1, n2⟩ := List.nodup_cons.mp nd
  by_cases e : x.1 = z
  ·rcases List.mem_cons.mp m with m | m
   ·subst m
    refine ⟨x.2.2, ?_, a.2⟩
    simp [e]
   ·exact absurd (by rw [a.1, e]; exact List.mem_map.mpr ⟨_, m, rfl⟩) n1
  ·rcases List.mem_cons.mp m with m | m
   ·subst m
    exact absurd a.1.symm e
   ·have := ih n2 m
    simp [e]
    simpa using this
theorem kd_isSome {kvs : List (Str × V)} {l : List (Str × Tok × Value)} (h : Paired (fun (p : Str × V) (x : Str × Tok × Value) => p.1 = x.1 /\ RelV p.2 x.2.2) kvs l) (z : Str) : (valueAt (l.map fun x => ((Sum.inr x.1 : Key), x.2.2)) (Sum.inr z)).isSome = decide (z ∈ kvs.map (·.1)) := by
 rw [kd_names h]
 unfold valueAt
 rw [Option.isSome_map, List.isSome_find?]
 rw [Bool.eq_iff_iff, List.any_eq_true, decide_eq_true_iff]
 constructor
 ·rintro ⟨kv, hm, e⟩
  obtain ⟨x, hx, rfl⟩ := List.mem_map.mp hm
  have e : (Sum.inr x.1 : Key) = Sum.inr z := by simpa using e
  exact List.mem_map.mpr ⟨x, hx, Sum.inr.inj e⟩
 ·intro m
  obtain ⟨x, hx, e⟩ := List.mem_map.mp m
  exact ⟨_, List.mem_map.mpr ⟨x, hx, rfl⟩, by simp [e]⟩
section
variable {X : Cx} {o i : Expr} {pos : Pos} {td ty : TE}
def tKIn (K : PySem.W.Frag) (w : World) (ty td : TE) : TE := fun σ H Q => ty σ H fun y H1 => td σ H1 fun x H2 => ∃ d kvs z, x = .ref d /\ KDict K w d kvs /\ y = .str z /\ Q (.bl (decide (z ∈ kvs.map (·.1)))) H2
theorem pc_kin (hi : PE X i ty) (ho : PE X o td) : PC X .In i o (tKIn X.K X.w ty td) := by
 intro pins s σ H Q I h
 refine thn (hi pins s σ H _ I h) fun iv s1 ⟨y, H1, I1, ry, q1⟩ => thn (ho pins s1 σ H1 _ I1 q1) fun u s2 ⟨x, H2, I2, rx, d, kvs, z, ex, kd, ey, q2⟩ => ?_
 subst ex
 subst ey
 obtain rfl : u = Value.ref d := rx
 obtain ⟨l, hp, dd⟩ := kd.of (P := X.prog) I2.kIn
 refine wpAny_in_of (kV_is (k := Sum.inr z) ry) kd.1 dd.mapOf ?_
 rw [kd_isSome hp]
 exact ⟨.bl _, H2, I2.tok _, rfl, q2⟩
def tKGet (K : PySem.W.Frag) (w : World) (td ty : TE) : TE := fun σ H Q => td σ H fun x H1 => ty σ H1 fun y H2 => ∃ d kvs z v, x = .ref d /\ KDict K w d kvs /\ y = .str z /\ (z, v) ∈ kvs /\ Q v H2
theorem pe_kget (ho : PE X o td) (hi : PE X i ty) (hs : NoSl i) : PE X (.Subscript o i pos) (tKGet X.K X.w td ty) := by
 intro pins s σ H Q I h
 refine subD_of PySem.F.slot_dict_getitem.lookup hs (thn (ho pins s σ H _ I h) fun u s1 ⟨x, H1, I1, rx, q1⟩ => thn (hi pins s1 σ H1 _ I1 q1) fun iv s2 ⟨y, H2, I2, ry, d, kvs, z, v, ex, kd, ey, hm, q2⟩ => ?_)
 subst ex
 subst ey
 obtain rfl : u = Value.ref d := rx
 obtain ⟨l, hp, dd⟩ := kd.of (P := X.prog) I2.kIn
 obtain ⟨w', hw, rw'⟩ := kd_some hp kd.2.1 hm
 exact ⟨dd.mapOf.typeIs, wpAny_getItem_of (kV_is (k := Sum.inr z) ry) dd.mapOf hw ⟨v, H2, I2.tok _, rw', q2⟩⟩
end
end L2
set_option Elab.async false
set_option linter.all false
set_option maxRecDepth 100000
namespace Ev
open PySem L2
abbrev Rl := Str × Str × Str × Option Str
def rl : List Rl := [("least one high", "least", "one", some "high"), ("least one fall", "least", "one", some "fall"), ("least one calm", "least", "one", some "calm"), ("least all high", "least", "all", some "high"), ("least all fall", "least", "all", some "fall"), ("least all calm", "least", "all", some "calm"), ("below one high", "below", "one", some "high"), ("below one fall", "below", "one", some "fall"), ("below one calm", "below", "one", some "calm"), ("below all high", "below", "all", some "high"), ("below all fall", "below", "all", some "fall"), ("below all calm", "below", "all", some "calm"), ("shares one", "shares", "one", none), ("shares all", "shares", "all", none), ("turns high", "turns", "all", some "high"), ("turns fall", "turns", "all", some "fall"), ("turns calm", "turns", "all", some "calm")]
def optV : Option Str -> V
 | some x => .str x
 | none => .non
def rnames : List Str := rl.map (·.1)
theorem rnames_nd : rnames.Nodup := by decide +kernel
def rkv (as : List Addr) : List (Str × V) := List.zipWith (fun (r : Rl) a => (r.1, V.ref a)) rl as
structure RulesAt (K : PySem.W.Frag) (w : World) (mg : Str -> Option Value) (d : Addr) (as : List Addr) : Prop where
 mg : mg "RULES" = some (.ref d)
 len : as.length = 17
 kd : KDict K w d (rkv as)
 tup : Paired (fun a (r : Rl) => ∀ H, SqT K H a [.str r.2.1, .str r.2.2.1, optV r.2.2.2]) as rl
theorem rkv_names {as : List Addr} (h : as.length = 17) : (rkv as).map (·.1) = rnames := by
 have : ∀ (rs : List Rl) (as : List Addr), as.length = rs.length -> (List.zipWith (fun (r : Rl) a => (r.1, V.ref a)) rs as).map (·.1) = rs.map (·.1) := by
  intro rs
  induction rs with
  | nil => intro as _; rfl
  | cons r rs ih =>
   intro as e
   cases as with
   | nil => cases e
   | cons a as =>
    rw [List.zipWith_cons_cons, List.map_cons, List.map_cons, ih as (by simpa using e)]
 exact this rl as h
theorem rkv_at {K : PySem.W.Frag} : ∀ {rs : List Rl} {as : List Addr}, Paired (fun a (r : Rl) => ∀ H, SqT K H a [.str r.2.1, .str r.2.2.1, optV r.2.2.2]) as rs -> ∀ r ∈ rs, ∃ a, (r.1, V.ref a) ∈ List.zipWith (fun (r : Rl) a => (r.1, V.ref a)) rs as /\ ∀ H, SqT K H a [.str r.2.1, .str r.2.2.1, optV r.2.2.2]
 | _, _, .nil, r, h => by cases h
 | r0 :: rs, a :: as, .cons h t, r, m => by
  rw [List.zipWith_cons_cons]
  rcases List.mem_cons.mp m with rfl | m
  ·exact ⟨a, List.mem_cons_self, h⟩
  ·obtain ⟨b, hb, hs⟩ := rkv_at t r m
   exact ⟨b, List.mem_cons_of_mem _ hb, hs⟩
def inB (ns : List Str) : Option Str -> Bool
 | some x => decide (x ∈ ns)
 | none => false
section
variable {P : Program} {w : World} {K : PySem.W.Frag} {mg : Str -> Option Value} {base : Heap}
theorem scIsRule : FnScope ["thing"] ["thing"] (defScope sIsRule) := ⟨rfl, rfl, rfl, by decide +kernel, rfl, by decide +kernel, by decide +kernel⟩
def spIsRule : Sp := fun vs H Q _ => ∃ r ∈ rl, vs = [.str r.1] /\ Q (.bl true) H
theorem ok_isRule {f d : Addr} {as : List Addr} {fd : FuncData} (F : Fun K "is_rule" "is_rule" sIsRule f fd) (B : Bi mg) (R : RulesAt K w mg d as) : FnOk P w K mg base CX0 1 f fd ["thing"] spIsRule := by
 refine F.ok scIsRule (fun vs H Q E h => ?_) (fun cdv A outer s H vs Q E hr h => ?_)
 ·obtain ⟨r, hr, rfl, _⟩ := h
  rfl
 ·obtain ⟨r, hr', rfl, k⟩ := h
  refine ⟨_, pss_one (ps_ret (pe_and (pe_callB call_isi (by rfl) B.isi PyProof.Rows.Boot.«isinstance» (pa_cons (pv 0) (pa_cons (pe_bltn (v := .ty "str") (by rfl) B.str PyProof.Rows.Boot.«str» rfl) pa_nil))) (pe_one (pe_cmp (pc_kin (pv 0) (pe_glob (v := .ref d) (by rfl) R.mg rfl)))))), ?_⟩
  refine ⟨_, rfl, _, _, _, _, rfl, .str r.1, rfl, _, rfl, iteT ⟨_, rfl, d, _, r.1, rfl, R.kd, rfl, ?_⟩⟩
  rw [rkv_names R.len, show decide (r.1 ∈ rnames) = true from decide_eq_true (List.mem_map.mpr ⟨r, hr', rfl⟩)]
  exact k
theorem scWords : FnScope ["rule"] ["rule"] (defScope sWords) := ⟨rfl, rfl, rfl, by decide +kernel, rfl, by decide +kernel, by decide +kernel⟩
def spWords (K : PySem.W.Frag) : Sp := fun vs H Q _ => ∃ r ∈ rl, vs = [.str r.1] /\ ∀ a, (∀ H', SqT K H' a [.str r.2.1, .str r.2.2.1, optV r.2.2.2]) -> Q (.ref a) H
theorem ok_words {f d : Addr} {as : List Addr} {fd : FuncData} (F : Fun K "checked_words" "checked_words" sWords f fd) (R : RulesAt K w mg d as) (cI : Cal P w K mg base 1 "is_rule" ["thing"] spIsRule) : FnOk P w K mg base CX0 2 f fd ["rule"] (spWords K) := by
 refine F.ok scWords (fun vs H Q E h => ?_) (fun cdv A outer s H vs Q E hr h => ?_)
 ·obtain ⟨r, hr, rfl, _⟩ := h
  rfl
 ·obtain ⟨r, hr', rfl, k⟩ := h
  refine ⟨_, pss_cons (ps_if (pt_not (pt_val (pe_fn cI hr (pa_cons (pv 0) pa_nil)))) (pss_one ps_never) pss_nil) (pss_one (ps_ret (pe_kget (pe_glob (v := .ref d) (by rfl) R.mg rfl) (pv 0) (fun _ _ => rfl)))), ?_⟩
  obtain ⟨a, ha, hs⟩ := rkv_at R.tup r hr'
  exact ⟨_, rfl, r, hr', rfl, _, rfl, iteF ⟨_, rfl, d, _, r.1, .ref a, rfl, R.kd, rfl, ha, k a hs⟩⟩
def guB (gs : List Str) (r : Rl) : Bool := decide (r.2.1 = "shares") || (inB gs r.2.2.2 && (decide (r.2.1 = "turns") || decide (r.2.2.1 = "one")))
theorem scGuard : FnScope ["rule", "guards", "words"] ["rule", "guards"] (defScope sGuard) := ⟨rfl, rfl, rfl, by decide +kernel, rfl, by decide +kernel, by decide +kernel⟩
def spGuard (K : PySem.W.Frag) : Sp := fun vs H Q E => ∃ r ∈ rl, ∃ t gs, vs = [.str r.1, .ref t] /\ H t = some (.tup (gs.map V.str)) /\ Q (.bl (guB gs r)) H
theorem rl_some : ∀ r ∈ rl, r.2.1 ≠ "shares" -> r.2.2.2.isSome = true := by decide +kernel
theorem in_strs (x : Str) (gs : List Str) : inV (.str x) (gs.map V.str) = decide (x ∈ gs) := by
 unfold inV
 induction gs with
 | nil => rfl
 | cons g gs ih =>
  rw [List.map_cons, List.any_cons, ih]
  have : eqV (V.str g) (V.str x) = decide (g = x) := by
   unfold eqV
   by_cases e : g = x
   ·simp [e]
   ·simp [e]
  rw [this]
  by_cases e : g = x
  ·simp [e]
  ·have e2 : ¬ x = g := fun z => e z.symm
   simp [e, e2]
theorem strs_flat (gs : List Str) : (gs.map V.str).all flatV = true := by
 rw [List.all_eq_true]
 intro v hv
 obtain ⟨x, _, rfl⟩ := List.mem_map.mp hv
 rfl
theorem ok_guard {f : Addr} {fd : FuncData} (F : Fun K "is_shares_or_guarded_by" "is_shares_or_guarded_by" sGuard f fd) (cW : Cal P w K mg base 2 "checked_words" ["rule"] (spWords K)) : FnOk P w K mg base CX0 3 f fd ["rule", "guards"] (spGuard K) := by
 refine F.ok scGuard (fun vs H Q E h => ?_) (fun cdv A outer s H vs Q E hr h => ?_)
 ·obtain ⟨r, hr, t, gs, rfl, _⟩ := h
  rfl
 ·obtain ⟨r, hr', t, gs, rfl, ht, k⟩ := h
  refine' ⟨_, pss_cons ?s1 (pss_cons ?s2 ?s3), ?kk⟩
  case s1 => exact ps_set (i := 2) scGuard.nd rfl (Or.inl rfl) (pe_fn cW hr (pa_cons (pv 0) pa_nil))
  case s2 => exact ps_if (pt_cmpR op_eq (pe_ix ix_tup (pv 2) pe_int (fun _ _ => rfl)) pe_str (nomark _)) (pss_one (ps_ret pe_bl)) pss_nil
  case s3 => exact pss_one (ps_ret (pe_and (pe_cmpR op_in_seq (pe_ix ix_tup (pv 2) pe_int (fun _ _ => rfl)) (pv 1) (by with_unfolding_all rfl)) (pe_one (pe_or (pe_cmpR op_eq (pe_ix ix_tup (pv 2) pe_int (fun _ _ => rfl)) pe_str (nomark _)) (pe_one (pe_cmpR op_eq (pe_ix ix_tup (pv 2) pe_int (fun _ _ => rfl)) pe_str (nomark _)))))))
  case' kk => skip
  refine ⟨_, rfl, r, hr', rfl, fun a ha => ?_⟩
  have deq : ∀ x y : Str, decide (V.str x = V.str y) = decide (x = y) := fun x y => by
   by_cases e : x = y
   ·simp [e]
   ·simp [e]
  refine ⟨_, rfl, a, _, _, _, rfl, rfl, ha H, rfl, rfl, _, rfl, ?_⟩
  rw [deq]
  unfold guB at k
  refine ite2 (fun c => ?_) (fun c => ?_)
  ·rw [c, Bool.true_or] at k
   exact k
  ·have c' : decide (r.2.1 = "shares") = false := by simpa using c
   rw [c', Bool.false_or] at k
   have hs := rl_some r hr' (by simpa using c)
   obtain ⟨g, eg⟩ := Option.isSome_iff_exists.mp hs
   rw [eg] at k ha
   refine ⟨_, rfl, a, _, _, _, rfl, rfl, ha H, rfl, _, rfl, t, _, rfl, .inr (.of ht), rfl, strs_flat gs, _, rfl, ?_⟩
   rw [if_neg Bool.false_ne_true, show inV (optV (some g)) (gs.map V.str) = decide (g ∈ gs) from in_strs g gs]
   have k : Q (.bl (decide (g ∈ gs) && (decide (r.2.1 = "turns") || decide (r.2.2.1 = "one")))) H := k
   refine ite2 (fun c2 => ?_) (fun c2 => ?_)
   ·rw [c2, Bool.true_and] at k
    refine ⟨_, rfl, a, _, _, _, rfl, rfl, ha H, rfl, rfl, _, rfl, ?_⟩
    rw [deq]
    refine ite2 (fun c3 => ?_) (fun c3 => ?_)
    ·rw [c3, Bool.true_or] at k
     exact k
    ·rw [show decide (r.2.1 = "turns") = false by simpa using c3, Bool.false_or] at k
     refine ⟨_, rfl, a, _, _, _, rfl, rfl, ha H, rfl, rfl, ?_⟩
     rw [deq]
     exact k
   ·rw [show decide (g ∈ gs) = false by simpa using c2, Bool.false_and] at k
    exact k
theorem scLet : FnScope ["rule"] ["rule"] (defScope sLet) := ⟨rfl, rfl, rfl, by decide +kernel, rfl, by decide +kernel, by decide +kernel⟩
def spLet : Sp := fun vs H Q _ => ∃ r ∈ rl, vs = [.str r.1] /\ ∀ H', Same H H' -> Q (.bl (guB ["fall", "calm"] r)) H'
theorem ok_let {f : Addr} {fd : FuncData} (F : Fun K "is_let_by" "is_let_by" sLet f fd) (cG : Cal P w K mg base 3 "is_shares_or_guarded_by" ["rule", "guards"] (spGuard K)) : FnOk P w K mg base CX0 4 f fd ["rule"] spLet := by
 refine F.ok scLet (fun vs H Q E h => ?_) (fun cdv A outer s H vs Q E hr h => ?_)
 ·obtain ⟨r, hr, rfl, _⟩ := h
  rfl
 ·obtain ⟨r, hr', rfl, k⟩ := h
  refine ⟨_, pss_one (ps_ret (pe_fn cG hr (pa_cons (pv 0) (pa_cons (pe_tup (pa_cons pe_str (pa_cons pe_str pa_nil))) pa_nil)))), ?_⟩
  refine ⟨_, rfl, by show 2 <= sizeLine; decide, fun t ht => ?_⟩
  exact ⟨r, hr', t, ["fall", "calm"], rfl, upd_same, k _ (Same.new ht)⟩
theorem scCGuard : FnScope ["rule"] ["rule"] (defScope sCGuard) := ⟨rfl, rfl, rfl, by decide +kernel, rfl, by decide +kernel, by decide +kernel⟩
def spCGuard : Sp := fun vs H Q _ => ∃ r ∈ rl, vs = [.str r.1] /\ guB ["fall", "calm"] r = true /\ ∀ H', Same H H' -> Q (optV r.2.2.2) H'
theorem ok_cguard {f : Addr} {fd : FuncData} (F : Fun K "checked_guard" "checked_guard" sCGuard f fd) (cL : Cal P w K mg base 4 "is_let_by" ["rule"] spLet) (cW : Cal P w K mg base 2 "checked_words" ["rule"] (spWords K)) : FnOk P w K mg base CX0 5 f fd ["rule"] spCGuard := by
 refine F.ok scCGuard (fun vs H Q E h => ?_) (fun cdv A outer s H vs Q E hr h => ?_)
 ·obtain ⟨r, hr, rfl, _⟩ := h
  rfl
 ·obtain ⟨r, hr', rfl, g, k⟩ := h
  have hr2 : Room 2 _ := hr.mono (by decide)
  refine ⟨_, pss_cons (ps_if (pt_not (pt_val (pe_fn cL hr (pa_cons (pv 0) pa_nil)))) (pss_one ps_never) pss_nil) (pss_one (ps_ret (pe_ix ix_tup (pe_fn cW hr2 (pa_cons (pv 0) pa_nil)) pe_int (fun _ _ => rfl)))), ?_⟩
  refine ⟨_, rfl, r, hr', rfl, fun H1 s1 => ⟨_, rfl, ?_⟩⟩
  rw [g]
  refine iteF ⟨_, rfl, r, hr', rfl, fun a ha => ?_⟩
  exact ⟨a, _, _, _, rfl, rfl, ha H1, rfl, k _ s1⟩
theorem scCWeight : FnScope ["thing"] ["thing"] (defScope sCWeight) := ⟨rfl, rfl, rfl, by decide +kernel, rfl, by decide +kernel, by decide +kernel⟩
def spCWeight : Sp := fun vs H Q _ => ∃ x : Int, vs = [.int x] /\ 1 <= x /\ x <= 1000000000 /\ Q .non H
theorem ok_cweight {f : Addr} {fd : FuncData} {tk : Tok} (F : Fun K "check_weight" "check_weight" sCWeight f fd) (mW : mg "MOST_WEIGHT" = some (.int 1000000000 tk)) (cW : Cal P w K mg base 2 "is_whole_within" ["thing", "least", "most"] spWhole) : FnOk P w K mg base CX0 3 f fd ["thing"] spCWeight := by
 refine F.ok scCWeight (fun vs H Q E h => ?_) (fun cdv A outer s H vs Q E hr h => ?_)
 ·obtain ⟨r, rfl, _⟩ := h
  rfl
 ·obtain ⟨x, rfl, h1, h2, k⟩ := h
  refine ⟨_, pss_one (ps_if (pt_not (pt_val (pe_fn cW hr (pa_cons (pv 0) (pa_cons pe_int (pa_cons (pe_glob (v := .int 1000000000) (by rfl) mW ⟨_, rfl⟩) pa_nil)))))) (pss_one ps_never) pss_nil), ?_⟩
  refine ⟨_, rfl, x, 1, 1000000000, rfl, _, rfl, ?_⟩
  rw [decide_eq_true h1, decide_eq_true h2]
  exact iteF k
end
end Ev
set_option Elab.async false
set_option linter.all false
set_option maxRecDepth 100000
namespace Ev
open PySem L2
def bnd (g : Option Str) (wt m s r : Int) : Int × Int := if g = some "fall" then (wt * (s + r), 2 * s * r) else if g = some "calm" then (wt * (s + r) - 1, s * r) else (wt * (s + r) * (m + 1) - 1, s * r)
theorem bnd_ok {g : Option Str} {wt m s r : Int} (w1 : 1 <= wt) (w2 : wt <= 1000000000) (m0 : 0 <= m) (m8 : m <= 1000) (s1 : 1 <= s) (s2 : s <= 1000) (r1 : 1 <= r) (r2 : r <= 1000) : 0 <= (bnd g wt m s r).1 /\ 0 < (bnd g wt m s r).2 /\ (bnd g wt m s r).2 <= 2000000 := by
 have a : 0 < s * r := Int.mul_pos (by omega) (by omega)
 have b : s * r <= 1000 * 1000 := Int.mul_le_mul s2 r2 (by omega) (by decide)
 have c : 1 * 2 <= wt * (s + r) := Int.mul_le_mul w1 (by omega) (by decide) (by omega)
 have d : wt * (s + r) * 1 <= wt * (s + r) * (m + 1) := Int.mul_le_mul_of_nonneg_left (by omega) (by omega)
 have e : 2 * s * r = 2 * (s * r) := Int.mul_assoc _ _ _
 unfold bnd
 split
 ·exact ⟨by show 0 <= wt * (s + r); omega, by show 0 < 2 * s * r; omega, by show 2 * s * r <= _; omega⟩
 ·split
  ·exact ⟨by show 0 <= wt * (s + r) - 1; omega, by show 0 < s * r; omega, by show s * r <= _; omega⟩
  ·exact ⟨by show 0 <= wt * (s + r) * (m + 1) - 1; omega, by show 0 < s * r; omega, by show s * r <= _; omega⟩
def isMost (hs : List (Str × Int)) (ts : List (Str × Str)) (m : Int) : Prop := m ∈ lens hs ts /\ ∀ a ∈ lens hs ts, a <= m
theorem isMost.pos {hs : List (Str × Int)} {ts : List (Str × Str)} {m : Int} (h : isMost hs ts m) (G : Good hs ts) : 0 <= m /\ m <= 1000 := by
 obtain ⟨n, hn, rfl⟩ := List.mem_map.mp h.1
 have : (near (nmsOf hs) (tsOf ts) n).length <= (nmsOf hs).length := List.length_filter_le _ _
 have := G.nlen
 have := G.h8
 omega
theorem isMost.eq {hs : List (Str × Int)} {ts : List (Str × Str)} {m m' : Int} (h : isMost hs ts m) (h' : isMost hs ts m') : m = m' := by
 have := h.2 _ h'.1
 have := h'.2 _ h.1
 omega
section
variable {P : Program} {w : World} {K : PySem.W.Frag} {mg : Str -> Option Value} {base : Heap}
theorem scAlong : FnScope ["web", "weight", "guard", "tie", "s", "r", "burden"] ["web", "weight", "guard", "tie"] (defScope sAlong) := ⟨rfl, rfl, rfl, by decide +kernel, rfl, by decide +kernel, by decide +kernel⟩
def spAlong (K : PySem.W.Frag) (C : Addr) : Sp := fun vs H Q _ => ∃ (p t : Addr) (wt m : Int) (g : Option Str) (tt : Str × Str) (hs : List (Str × Int)) (ts : List (Str × Str)) (fp : List Addr), vs = [.ref p, .int wt, optV g, .ref t] /\ WebAt K C H p hs ts fp /\ Good hs ts /\ H t = some (.tup ((kT tt).map kV)) /\ tt.1 ∈ hs.map (·.1) /\ tt.2 ∈ hs.map (·.1) /\ 1 <= wt /\ wt <= 1000000000 /\ isMost hs ts m /\
 ∀ a H', Same H H' -> H a = none -> FrAt H' a (redF (bnd g wt m (strOf hs tt.1) (strOf hs tt.2)).1 (bnd g wt m (strOf hs tt.1) (strOf hs tt.2)).2) -> Q (.ref a) H'
theorem dec_opt (g : Option Str) (x : Str) : scal (optV g) (.str x) = true /\ decide (optV g = .str x) = decide (g = some x) := by
 cases g with
 | none => exact ⟨rfl, by rw [decide_eq_false (by intro z; cases z), decide_eq_false (by intro z; cases z)]⟩
 | some y =>
  refine ⟨rfl, ?_⟩
  show decide (V.str y = V.str x) = _
  by_cases e : y = x
  ·simp [e]
  ·simp [e]
theorem ok_along {f C : Addr} {fd : FuncData} (F : Fun K "gap_along" "gap_along" sAlong f fd) (T : Txt K mg C) (cS : CalM P w K mg base C 2 "strength" ["self", "hand"] (spStrength K C)) (cM : CalM P w K mg base C 1 "most_neighbours" ["self"] (spMost K C)) (cF : Cal P w K mg base 2 "fraction_of" ["top", "below"] spFrac) : FnOk P w K mg base CX0 3 f fd ["web", "weight", "guard", "tie"] (spAlong K C) := by
 refine F.ok scAlong (fun vs H Q E h => ?_) (fun cdv A outer s H vs Q E hr h => ?_)
 ·obtain ⟨p, t, wt, m, g, tt, hs, ts, fp, rfl, _⟩ := h
  rfl
 ·obtain ⟨p, t, wt, m, g, tt, hs, ts, fp, rfl, W, G, ht, i1, i2, w1, w2, M, k⟩ := h
  have sz := sizeLine_eq
  have hr1 : Room 1 _ := hr.mono (by decide)
  refine' ⟨_, ?r0, ?kk⟩
  case' r0 => refine' pss_cons ?s1 ?r1
  case' r1 => refine' pss_cons ?s2 ?r2
  case' r2 => refine' pss_cons ?s3 ?r3
  case' r3 => refine' pss_cons ?s4 ?r4
  case' r4 => refine' pss_cons ?s5 ?r5
  case' r5 => refine' pss_one ?s6
  case s1 => exact ps_set (i := 4) scAlong.nd rfl (Or.inl rfl) (pe_mt cS T.cl hr (pv 0) (pa_cons (pe_ix ix_tup (pv 3) pe_int (fun _ _ => rfl)) pa_nil))
  case s2 => exact ps_set (i := 5) scAlong.nd rfl (Or.inl rfl) (pe_mt cS T.cl hr (pv 0) (pa_cons (pe_ix ix_tup (pv 3) pe_int (fun _ _ => rfl)) pa_nil))
  case s3 => exact ps_set (i := 6) scAlong.nd rfl (Or.inl rfl) (pe_op op_mul (pv 1) (pe_op op_add (pv 4) (pv 5)))
  case s4 => exact ps_if (pt_cmpR op_eq (pv 2) pe_str (nomark _)) (pss_one (ps_ret (pe_fn cF hr (pa_cons (pv 6) (pa_cons (pe_op op_mul (pe_op op_mul pe_int (pv 4)) (pv 5)) pa_nil))))) pss_nil
  case s5 => exact ps_if (pt_cmpR op_eq (pv 2) pe_str (nomark _)) (pss_one (ps_ret (pe_fn cF hr (pa_cons (pe_op op_sub (pv 6) pe_int) (pa_cons (pe_op op_mul (pv 4) (pv 5)) pa_nil))))) pss_nil
  case s6 => exact ps_ret (pe_fn cF hr (pa_cons (pe_op op_sub (pe_op op_mul (pv 6) (pe_op op_add (pe_mt0 cM T.cl hr1 (pv 0)) pe_int)) pe_int) (pa_cons (pe_op op_mul (pv 4) (pv 5)) pa_nil)))
  case' kk => skip
  have ht' : H t = some (.tup [.str tt.1, .str tt.2]) := ht
  have m1 := strOf_mem i1
  have m2 := strOf_mem i2
  have g1 := (G.hok _ m1).2
  have g2 := (G.hok _ m2).2
  dsimp only at g1 g2
  have ok := bnd_ok (g := g) w1 w2 (M.pos G).1 (M.pos G).2 g1.1 g1.2 g2.1 g2.2
  generalize strOf hs tt.1 = sa at m1 g1 ok k
  generalize strOf hs tt.2 = sb at m2 g2 ok k
  obtain ⟨dx, d1, l2, d3, zs, as, efp, e1, e2, e3, e4, e5, e6, e7⟩ := W.ex
  have hnS : (flds d1 l2 d3).lookup ("strength" : Str) = none := flds_no _ _ _ (by decide +kernel) (by decide +kernel) (by decide +kernel)
  have hnM : (flds d1 l2 d3).lookup ("most_neighbours" : Str) = none := flds_no _ _ _ (by decide +kernel) (by decide +kernel) (by decide +kernel)
  refine ⟨_, rfl, p, dx, _, rfl, e1, hnS, _, rfl, t, _, _, _, rfl, rfl, .of ht', rfl, p, tt.1, sa, hs, ts, fp, rfl, W, G.hnd, m1, ?_⟩
  refine ⟨_, rfl, p, dx, _, rfl, e1, hnS, _, rfl, t, _, _, _, rfl, rfl, .of ht', rfl, p, tt.2, sb, hs, ts, fp, rfl, W, G.hnd, m2, ?_⟩
  refine ⟨_, rfl, _, rfl, _, rfl, _, _, rfl, rfl, _, _, rfl, rfl, .inl ⟨by omega, by omega⟩, ?_⟩
  refine ⟨_, rfl, (dec_opt g "fall").1, _, rfl, ?_⟩
  rw [(dec_opt g "fall").2]
  unfold bnd at ok k
  refine ite2 (fun c => ?_) (fun c => ?_)
  ·have c' : g = some "fall" := by simpa using c
   rw [if_pos c'] at ok k
   refine ⟨_, rfl, _, rfl, _, _, rfl, rfl, .inl ⟨by decide, by decide⟩, _, rfl, _, _, rfl, rfl, .inr ⟨by omega, by omega⟩, _, _, rfl, ok.1, ok.2.1, Int.lt_of_le_of_lt ok.2.2 (by decide), fun a ha => k a _ (Same.new ha) ha upd_same⟩
  ·have c' : ¬ g = some "fall" := by simpa using c
   rw [if_neg c'] at ok k
   refine ⟨_, rfl, (dec_opt g "calm").1, _, rfl, ?_⟩
   rw [(dec_opt g "calm").2]
   refine ite2 (fun c2 => ?_) (fun c2 => ?_)
   ·have c2' : g = some "calm" := by simpa using c2
    rw [if_pos c2'] at ok k
    exact ⟨_, rfl, _, _, rfl, rfl, _, rfl, _, rfl, _, _, rfl, rfl, .inr ⟨by omega, by omega⟩, _, _, rfl, ok.1, ok.2.1, Int.lt_of_le_of_lt ok.2.2 (by decide), fun a ha => k a _ (Same.new ha) ha upd_same⟩
   ·have c2' : ¬ g = some "calm" := by simpa using c2
    rw [if_neg c2'] at ok k
    refine ⟨_, rfl, _, rfl, p, dx, _, rfl, e1, hnM, p, hs, ts, fp, rfl, W, by rw [G.nlen]; exact G.h1, by have := G.nlen; have := G.h8; omega, fun m' H1 s1 hm1 hm2 => ?_⟩
    obtain rfl : m = m' := M.eq ⟨hm1, hm2⟩
    have mp := M.pos G
    exact ⟨_, _, rfl, rfl, _, _, rfl, rfl, .inr ⟨by omega, by omega⟩, _, _, rfl, rfl, _, rfl, _, rfl, _, _, rfl, rfl, .inr ⟨by omega, by omega⟩, _, _, rfl, ok.1, ok.2.1, Int.lt_of_le_of_lt ok.2.2 (by decide), fun a ha => k a _ (s1.trans (Same.new ha)) (s1.free ha) upd_same⟩
end
end Ev
set_option Elab.async false
set_option linter.all false
set_option maxRecDepth 100000
namespace Ev
open PySem L2
def own1 (g : Option Str) (wt m : Int) (hs : List (Str × Int)) (t : Str × Str) : Int × Int := bnd g wt m (strOf hs t.1) (strOf hs t.2)
structure Ok (wt m : Int) (hs : List (Str × Int)) (ts : List (Str × Str)) : Prop where
 w1 : 1 <= wt
 w2 : wt <= 1000000000
 G : Good hs ts
 M : isMost hs ts m
theorem tsOf_in {hs : List (Str × Int)} {ts : List (Str × Str)} (G : Good hs ts) {t : Str × Str} (h : t ∈ tsOf ts) : t.1 ∈ hs.map (·.1) /\ t.2 ∈ hs.map (·.1) := by
 obtain ⟨t0, h0, e⟩ := tsOf_mem.mp h
 have := G.tin t0 h0
 rcases ord2_or t0.1 t0.2 with z | z
 ·rw [z] at e
  subst e
  exact this
 ·rw [z] at e
  subst e
  exact ⟨this.2, this.1⟩
section
variable {wt m : Int} {hs : List (Str × Int)} {ts : List (Str × Str)} {g : Option Str} {t : Str × Str}
theorem Ok.own (O : Ok wt m hs ts) (h1 : t.1 ∈ hs.map (·.1)) (h2 : t.2 ∈ hs.map (·.1)) : 0 <= (own1 g wt m hs t).1 /\ 0 < (own1 g wt m hs t).2 /\ (own1 g wt m hs t).2 <= 2000000 := by
 have g1 := (O.G.hok _ (strOf_mem h1)).2
 have g2 := (O.G.hok _ (strOf_mem h2)).2
 exact bnd_ok O.w1 O.w2 (O.M.pos O.G).1 (O.M.pos O.G).2 g1.1 g1.2 g2.1 g2.2
end
end Ev
set_option Elab.async false
set_option linter.all false
set_option maxRecDepth 100000
namespace L2
open PySem PySem.Spec PyProof.Rows PySem.W
theorem rel_key {P : Program} {w : World} {k : Key} {key : Value} (h : (mixKind P w).is k key = true) : RelV (kV k) key := by
 have e2 : keyIs k key = true := h
 rcases keyIs_shape e2 with ⟨i, t, rfl, rfl⟩ | ⟨x, t, rfl, rfl⟩
 ·exact ⟨t, rfl⟩
 ·exact ⟨t, rfl⟩
def Itk (d : Addr) (o : Obj) (kvs : List (Key × V)) : It := ⟨fun i H => H d = some (.frz o (.dK kvs)) /\ i < kvs.length, fun i H y H' => H' = H /\ ∃ k x, kvs[i]? = some (k, x) /\ y = kV k, fun i H => H d = some (.frz o (.dK kvs)) /\ kvs.length <= i⟩
theorem turn_keys {P : Program} {w : World} {K : PySem.W.Frag} {tg : Expr} (d it : Addr) (o : Obj) (kvs : List (Key × V)) {es : Array DictEntry} {ep : Nat} (ho : o.data = .dict es ep) : Turn P w K tg (Itk d o kvs) [it] it (fun i h => h.IsKeyIter it d i kvs.length ep) where
 mem := by simp
 obj := fun i h st b hb => by
  obtain rfl : b = it := by simpa using hb
  obtain ⟨o, e, c, d⟩ := st
  exact ⟨o, e, fun v z => by rw [d] at z; cases z⟩
 keep := fun i h h' st k => st.at fun o e => k it (by simp) o e
 item := by
  intro X hP hw hK hc i pins s σ H E I hf st hg
  subst hP hw hK
  obtain ⟨hd, hi⟩ := hg
  obtain ⟨vs, rel, dat⟩ := dictAt_frz I hd ho
  obtain ⟨⟨k, x⟩, hx⟩ : ∃ p, kvs[i]? = some p := ⟨kvs[i], by simp [hi]⟩
  obtain ⟨u, hu, ru⟩ := kv_get rel i hx
  obtain ⟨f0, f1, f2, f3, f4, f5⟩ := hf it (by simp)
  rw [rel.length] at st
  refine wpAny_pyNext_dict_item st dat hu fun key h' hk st' sb => ?_
  have I1 : Inv X pins σ H { s with heap := h' } := I.turned (t' := s.toks) (fun b o hb e => (sb.2 b hb).trans e) f0 f1 f3 f4 f5
  obtain ⟨o', e, c, dd⟩ := id st'
  refine ⟨key, rfl, go_of (s := { s with heap := h' }) e c dd (by decide) ⟨kV k, H, I1, rel_key hk, ⟨rfl, k, x, hx, rfl⟩, ?_, fun b hb => (hf b hb).1⟩⟩
  show h'.IsKeyIter it d (i + 1) kvs.length ep
  rw [rel.length]
  exact st'
 done := by
  intro X hP hw hK hc i pins s σ H E I hf st hg
  subst hP hw hK
  obtain ⟨hd, hi⟩ := hg
  obtain ⟨vs, rel, dat⟩ := dictAt_frz I hd ho
  obtain ⟨f0, f1, f2, f3, f4, f5⟩ := hf it (by simp)
  rw [rel.length] at st hi
  exact wpAny_pyNext_dict_end (I.ok.hd hc) st dat (by simp; omega) fun h' eb => ⟨rfl, I.turned (t' := s.toks) (fun b o hb e => eb b o hb e) f0 f1 f3 f4 f5⟩
 self := fun _ _ _ _ _ st h => wpAny_pyIter_keyiter st h
def iKeys (tv : TE) : TI := fun σ H R => tv σ H fun x H1 => ∃ d kvs, x = .ref d /\ H1 d = some (.dK kvs) /\ ∀ o, R (Itk d o kvs) (upd H1 d (.frz o (.dK kvs)))
theorem pi_keys {X : Cx} {tg e : Expr} {tv : TE} (he : PE X e tv) : PI X tg e (iKeys tv) := by
 intro pins s σ H R I h
 refine thn (he pins s σ H _ I h) fun u s1 ⟨x, H1, I1, r1, d, kvs, ex, hd, q⟩ => ?_
 subst ex
 cases r1
 obtain ⟨o, ho, I2⟩ := I1.freeze hd
 obtain ⟨z, hne, vs, rel, o', es, ep, ho', c', dt, r⟩ := dk_of I1.hok hd
 rw [ho] at ho'
 cases ho'
 refine wpAny_pyIter_dict (knd := mixKind X.prog X.w) (kvs := vs) (ep := ep) hne ⟨o, es, ho, c', dt, r⟩ ?_
 refine ⟨s1.heap.objs.size, [s1.heap.objs.size], _, _, _, rfl, I2.kept (t' := s1.toks) fun b o e => Heap.get?_push_of_some _ e, turn_keys d _ o kvs dt, ?_, fun b hb => ?_, q o⟩
 ·rw [rel.length]
  exact ⟨_, Heap.get?_push_size _ rfl, rfl, rfl⟩
 ·obtain rfl : b = s1.heap.objs.size := by simpa using hb
  exact I2.fpOk (Nat.le_refl _) (I2.hok.fresh (Nat.le_refl _))
end L2
set_option Elab.async false
set_option linter.all false
set_option maxRecDepth 100000
namespace L2
open PySem PySem.Spec PyProof.Rows PySem.W
section
variable {prog : Program} {w : World} {A : Around}
end
end L2
set_option Elab.async false
set_option linter.all false
set_option maxRecDepth 100000
namespace L2
open PySem PySem.Spec PyProof.Rows PySem.W
section
variable {X : Cx}
def rEqNil (K : PySem.W.Frag) : V -> V -> Hp -> VK -> Prop := fun x y H Q => ∃ a b xs, x = .ref a /\ y = .ref b /\ SqL K H a xs /\ SqL K H b [] /\ Q (.bl xs.isEmpty) H
theorem op_eqNil (hu : X.A.units + 0 + 1 < cLine) : OpR X (compareOp .Eq) (rEqNil X.K) := by
 intro pins s σ H x y v u Q I rx ry h
 obtain ⟨a, b, xs, rfl, rfl, t, t', hq⟩ := h
 cases xs with
 | nil => exact op_eqL cmpS hu pins s σ H (.ref a) (.ref b) v u Q I rx ry ⟨[], [], ⟨a, [], rfl, t, .nil⟩, ⟨b, [], rfl, t', .nil⟩, hq⟩
 | cons z zs =>
  cases rx
  cases ry
  obtain ⟨us, r, pl, _⟩ := I.list t
  obtain ⟨vs, r', pl', _⟩ := I.list t'
  have l1 := r.length
  have l2 := r'.length
  exact SeqAt.eq_list_lengthsAt pl.isList pl'.isList (by simp only [List.size_toArray, bne_iff_ne]; simp at l1 l2; omega) (by omega) ⟨.bl _, H, I, rfl, hq⟩
end
end L2
namespace Ev
open PySem L2
def mKV (ns : List Str) (g : Str -> V) : List (Key × V) := ns.map fun n => (Sum.inr n, g n)
theorem mKV_keys (ns : List Str) (g : Str -> V) : (mKV ns g).map (·.1) = ns.map Sum.inr := by
 unfold mKV
 rw [List.map_map]
 rfl
theorem mKV_len (ns : List Str) (g : Str -> V) : (mKV ns g).length = ns.length := List.length_map _
theorem mKV_get {ns : List Str} {g : Str -> V} {n : Str} (h : n ∈ ns) : valV (mKV ns g) (Sum.inr n) = some (g n) := by
 induction ns with
 | nil => cases h
 | cons m ns ih =>
  by_cases e : m = n
  ·subst e
   exact valV_pos rfl
  ·have : valV (mKV (m :: ns) g) (Sum.inr n) = valV (mKV ns g) (Sum.inr n) := valV_neg fun z => e (Sum.inr.inj z)
   rw [this]
   rcases List.mem_cons.mp h with z | z
   ·exact absurd z.symm e
   ·exact ih z
theorem mKV_congr {ns : List Str} {g k : Str -> V} (h : ∀ n ∈ ns, g n = k n) : mKV ns g = mKV ns k := List.map_congr_left fun n hn => by rw [h n hn]
theorem mKV_put {ns : List Str} {g : Str -> V} {n : Str} {v : V} (h : n ∈ ns) : putK (mKV ns g) (Sum.inr n) v = mKV ns fun m => if m = n then v else g m := by
 unfold putK
 rw [if_pos]
 ·unfold mKV
  rw [List.map_map]
  refine List.map_congr_left fun m _ => ?_
  by_cases e : m = n
  ·subst e
   simp
  ·have : ¬ ((Sum.inr m : Key) = Sum.inr n) := fun z => e (Sum.inr.inj z)
   simp [e]
 ·refine List.any_eq_true.mpr ⟨(Sum.inr n, g n), List.mem_map.mpr ⟨n, h, rfl⟩, by simp⟩
theorem mKV_new {ns : List Str} {g : Str -> V} {n : Str} {v : V} (h : n ∉ ns) : putK (mKV ns g) (Sum.inr n) v = mKV (ns ++ [n]) fun m => if m = n then v else g m := by
 rw [putK_new _ (valV_none_of (by
  rw [mKV_keys]
  intro m
  obtain ⟨x, hx, e⟩ := List.mem_map.mp m
  exact h (Sum.inr.inj e ▸ hx)))]
 unfold mKV
 rw [List.map_append]
 congr 1
 ·refine List.map_congr_left fun m hm => ?_
  have e : ¬ m = n := fun z => h (z ▸ hm)
  simp [e]
 ·simp
theorem mKV_at {ns : List Str} {g : Str -> V} {i : Nat} {k : Key} {x : V} (h : (mKV ns g)[i]? = some (k, x)) : ∃ n, ns[i]? = some n /\ k = Sum.inr n /\ x = g n := by
 unfold mKV at h
 rw [List.getElem?_map] at h
 cases e : ns[i]? with
 | none => rw [e] at h; cases h
 | some n =>
  rw [e] at h
  have h := Option.some.inj h
  exact ⟨n, rfl, (congrArg Prod.fst h).symm, (congrArg Prod.snd h).symm⟩
end Ev
set_option Elab.async false
set_option linter.all false
set_option maxRecDepth 100000
namespace Ev
open PySem L2
theorem countP_one {b : Str} {p : Str -> Bool} : ∀ {ns : List Str}, ns.Nodup -> b ∈ ns -> p b = false -> ns.countP (fun o => decide (o = b) || p o) = ns.countP p + 1
 | [], _, h, _ => by cases h
 | x :: ns, nd, h, hp => by
  obtain ⟨n1, n2⟩ := List.nodup_cons.mp nd
  rw [List.countP_cons, List.countP_cons]
  by_cases e : x = b
  ·subst e
   have : ns.countP (fun o => decide (o = x) || p o) = ns.countP p := List.countP_congr fun o ho => by
    have : ¬ o = x := fun z => n1 (z ▸ ho)
    simp [this]
   rw [this]
   simp [hp]
  ·have h' : b ∈ ns := by
    rcases List.mem_cons.mp h with z | z
    ·exact absurd z.symm e
    ·exact z
   rw [countP_one n2 h' hp]
   simp [e]
   omega
def endsOf (ts : List (Str × Str)) : List Str := ts.map (·.1) ++ ts.map (·.2)
theorem ends_cons (t : Str × Str) (ts : List (Str × Str)) (n : Str) : (endsOf (t :: ts)).count n = (endsOf ts).count n + (if t.1 = n then 1 else 0) + (if t.2 = n then 1 else 0) := by
 unfold endsOf
 rw [List.count_append, List.count_append, List.map_cons, List.map_cons, List.count_cons, List.count_cons]
 simp only [beq_iff_eq]
 omega
def hasB (ts : List (Str × Str)) (n o : Str) : Bool := decide (∃ t ∈ ts, ord2 t.1 t.2 = ord2 n o)
theorem count_has {ns : List Str} (nd : ns.Nodup) (n : Str) : ∀ {ts : List (Str × Str)}, (∀ t ∈ ts, goodT t /\ t.1 ∈ ns /\ t.2 ∈ ns) -> (ts.map kO).Nodup -> ns.countP (hasB ts n) = (endsOf ts).count n
 | [], _, _ => by
  have : ns.countP (hasB [] n) = 0 := List.countP_eq_zero.mpr fun o _ => by simp [hasB]
  rw [this]
  rfl
 | t :: ts, h, hk => by
  obtain ⟨k1, k2⟩ := List.nodup_cons.mp hk
  have ih := count_has nd n (fun u hu => h u (List.mem_cons_of_mem _ hu)) k2
  obtain ⟨⟨_, _, ne⟩, m1, m2⟩ := h t List.mem_cons_self
  rw [ends_cons, <- ih]
  have key : ∀ b, b ∈ ns -> b ≠ n -> ord2 t.1 t.2 = ord2 n b -> ns.countP (hasB (t :: ts) n) = ns.countP (hasB ts n) + 1 := fun b hb nb e => by
   have nb' : hasB ts n b = false := by
    unfold hasB
    refine decide_eq_false fun ⟨u, hu, eu⟩ => k1 (List.mem_map.mpr ⟨u, hu, ?_⟩)
    show kT (ord2 u.1 u.2) = kT (ord2 t.1 t.2)
    rw [eu, e]
   rw [<- countP_one nd hb nb']
   refine List.countP_congr fun o ho => ?_
   unfold hasB
   simp only [List.exists_mem_cons, Bool.or_eq_true, decide_eq_true_eq, List.mem_cons, exists_eq_or_imp]
   refine or_congr ⟨fun z => ?_, fun z => by rw [z, e]⟩ Iff.rfl
   rw [e] at z
   rcases kO_two (a := n) (b := b) (c := n) (d := o) (congrArg kT z) with ⟨_, q⟩ | ⟨q1, q2⟩
   ·exact q.symm
   ·exact absurd q2 nb
  by_cases e1 : t.1 = n
  ·have e2 : ¬ t.2 = n := fun z => ne (e1.trans z.symm)
   rw [key t.2 m2 e2 (by rw [e1]), if_pos e1, if_neg e2]
  ·by_cases e2 : t.2 = n
   ·rw [key t.1 m1 e1 (by rw [e2, ord2_comm]), if_neg e1, if_pos e2]
   ·rw [if_neg e1, if_neg e2]
    refine List.countP_congr fun o ho => ?_
    unfold hasB
    simp only [decide_eq_true_eq, List.mem_cons, exists_eq_or_imp]
    refine ⟨fun z => z.resolve_left fun z => ?_, .inr⟩
    rcases kO_two (a := t.1) (b := t.2) (c := n) (d := o) (congrArg kT z) with ⟨q, _⟩ | ⟨_, q⟩
    ·exact e1 q
    ·exact e2 q
theorem near_count {hs : List (Str × Int)} {ts : List (Str × Str)} (G : Good hs ts) (n : Str) : (near (nmsOf hs) (tsOf ts) n).length = (endsOf ts).count n := by
 have hm : ∀ x, x ∈ hs.map (·.1) -> x ∈ nmsOf hs := fun x hx => (nms_perm hs).mem_iff.mpr hx
 rw [<- count_has G.nnd n (fun t ht => ⟨G.tok t ht, hm _ (G.tin t ht).1, hm _ (G.tin t ht).2⟩) G.tnd]
 unfold near
 rw [<- List.countP_eq_length_filter]
 refine List.countP_congr fun o _ => ?_
 unfold hasB
 rw [decide_eq_true_iff, decide_eq_true_iff, tsOf_mem]
theorem most_of {hs : List (Str × Int)} {ts : List (Str × Str)} (G : Good hs ts) {m : Int} (h1 : m ∈ (hs.map (·.1)).map fun n => ((endsOf ts).count n : Int)) (h2 : ∀ a ∈ (hs.map (·.1)).map fun n => ((endsOf ts).count n : Int), a <= m) : isMost hs ts m := by
 have e : lens hs ts = (nmsOf hs).map fun n => ((endsOf ts).count n : Int) := List.map_congr_left fun n _ => by rw [near_count G]
 unfold isMost
 rw [e]
 have p := (nms_perm hs).map fun n => ((endsOf ts).count n : Int)
 exact ⟨p.mem_iff.mpr h1, fun a ha => h2 a (p.mem_iff.mp ha)⟩
end Ev
set_option Elab.async false
set_option linter.all false
set_option maxRecDepth 100000
namespace Ev
open PySem L2
abbrev Te := Str × Str
def Eg (es : List Te) (c : Te -> Int) (u v : Str) (x : Int) : Prop := ∃ t ∈ es, c t = x /\ (t = (u, v) ∨ t = (v, u))
theorem Eg.symm {es : List Te} {c : Te -> Int} {u v : Str} {x : Int} (h : Eg es c u v x) : Eg es c v u x := by
 obtain ⟨t, ht, e, q⟩ := h
 exact ⟨t, ht, e, q.symm⟩
theorem Eg.mono {es es' : List Te} {c c' : Te -> Int} {u v : Str} {x : Int} (m : ∀ t ∈ es, t ∈ es' /\ c t = c' t) (h : Eg es c u v x) : Eg es' c' u v x := by
 obtain ⟨t, ht, e, q⟩ := h
 exact ⟨t, (m t ht).1, by rw [<- (m t ht).2]; exact e, q⟩
inductive Wk (es : List Te) (c : Te -> Int) (a : Str) : Str -> Nat -> Int -> Prop
 | nil : Wk es c a a 0 0
 | step {u v : Str} {n : Nat} {k x : Int} : Wk es c a u n k -> Eg es c u v x -> Wk es c a v (n + 1) (k + x)
theorem Wk.mono {es es' : List Te} {c c' : Te -> Int} {a v : Str} {n : Nat} {k : Int} (m : ∀ t ∈ es, t ∈ es' /\ c t = c' t) (h : Wk es c a v n k) : Wk es' c' a v n k := by
 induction h with
 | nil => exact .nil
 | step _ e ih => exact .step ih (e.mono m)
theorem Wk.front {es : List Te} {c : Te -> Int} {a u v : Str} {n : Nat} {k x : Int} (e : Eg es c a u x) (h : Wk es c u v n k) : Wk es c a v (n + 1) (x + k) := by
 induction h with
 | nil =>
  have := Wk.step Wk.nil e
  rw [Int.zero_add] at this
  rw [Int.add_zero]
  exact this
 | step _ e2 ih =>
  rw [<- Int.add_assoc]
  exact .step ih e2
theorem Wk.symm {es : List Te} {c : Te -> Int} {a v : Str} {n : Nat} {k : Int} (h : Wk es c a v n k) : Wk es c v a n k := by
 induction h with
 | nil => exact .nil
 | step _ e ih =>
  rw [Int.add_comm]
  exact .front e.symm ih
theorem Wk.le {es : List Te} {c : Te -> Int} {a v : Str} {n : Nat} {k G : Int} (hG : ∀ t ∈ es, 0 <= c t /\ c t <= G) (h : Wk es c a v n k) : 0 <= k /\ k <= n * G := by
 induction h with
 | nil => simp
 | @step u v n k x _ e ih =>
  obtain ⟨t, ht, rfl, _⟩ := e
  have := hG t ht
  rw [Int.natCast_add, Int.add_mul]
  simp only [Int.natCast_one, Int.one_mul]
  omega
inductive Pt (es : List Te) (c : Te -> Int) (a : Str) : List Str -> Str -> Int -> Prop
 | one : Pt es c a [a] a 0
 | more {p : List Str} {u v : Str} {k x : Int} : Pt es c a p u k -> Eg es c u v x -> v ∉ p -> Pt es c a (p ++ [v]) v (k + x)
theorem Pt.walk {es : List Te} {c : Te -> Int} {a v : Str} {p : List Str} {k : Int} (h : Pt es c a p v k) : ∃ n, Wk es c a v n k := by
 induction h with
 | one => exact ⟨0, .nil⟩
 | more _ e _ ih =>
  obtain ⟨n, w⟩ := ih
  exact ⟨n + 1, .step w e⟩
theorem Pt.nodup {es : List Te} {c : Te -> Int} {a v : Str} {p : List Str} {k : Int} (h : Pt es c a p v k) : p.Nodup := by
 induction h with
 | one => simp
 | @more p u v k x _ _ n ih =>
  rw [List.nodup_append]
  refine ⟨ih, by simp, fun y hy z hz e => ?_⟩
  have : z = v := by simpa using hz
  subst this
  subst e
  exact n hy
theorem Pt.sub {es : List Te} {c : Te -> Int} {a v : Str} {p ns : List Str} {k : Int} (ha : a ∈ ns) (hn : ∀ t ∈ es, t.1 ∈ ns /\ t.2 ∈ ns) (h : Pt es c a p v k) : ∀ y ∈ p, y ∈ ns := by
 induction h with
 | one => simpa using ha
 | @more p u v k x _ e _ ih =>
  intro y hy
  rcases List.mem_append.mp hy with hy | hy
  ·exact ih y hy
  ·obtain ⟨t, ht, _, q⟩ := e
   have : y = v := by simpa using hy
   subst this
   rcases q with rfl | rfl
   ·exact (hn _ ht).2
   ·exact (hn _ ht).1
theorem sub_len : ∀ {p ns : List Str}, p.Nodup -> (∀ y ∈ p, y ∈ ns) -> p.length <= ns.length
 | [], _, _, _ => Nat.zero_le _
 | x :: p, ns, nd, h => by
  have n := List.nodup_cons.mp nd
  have hx : x ∈ ns := h x (by simp)
  have := sub_len (p := p) (ns := ns.erase x) n.2 fun y hy => (List.mem_erase_of_ne (fun e => n.1 (by rw [<- e]; exact hy))).mpr (h y (by simp [hy]))
  rw [List.length_erase_of_mem hx] at this
  have : 0 < ns.length := List.length_pos_of_mem hx
  simp only [List.length_cons]
  omega
theorem Pt.len {es : List Te} {c : Te -> Int} {a v : Str} {p ns : List Str} {k : Int} (ha : a ∈ ns) (hn : ∀ t ∈ es, t.1 ∈ ns /\ t.2 ∈ ns) (h : Pt es c a p v k) : p.length <= ns.length := sub_len h.nodup (h.sub ha hn)
theorem Pt.last {es : List Te} {c : Te -> Int} {a v : Str} {p : List Str} {k : Int} (h : Pt es c a p v k) : p.getLast? = some v := by
 cases h with
 | one => rfl
 | more _ _ _ => simp
theorem Pt.mem {es : List Te} {c : Te -> Int} {a v : Str} {p : List Str} {k : Int} (h : Pt es c a p v k) : v ∈ p := by
 cases h with
 | one => simp
 | more _ _ _ => simp
theorem Pt.pre {es : List Te} {c : Te -> Int} {a v : Str} {p : List Str} {k : Int} (hG : ∀ t ∈ es, 0 <= c t) (h : Pt es c a p v k) : ∀ y ∈ p, ∃ p' k', Pt es c a p' y k' /\ k' <= k := by
 induction h with
 | one =>
  intro y hy
  have : y = a := by simpa using hy
  subst this
  exact ⟨_, _, .one, Int.le_refl _⟩
 | @more p u v k x q e n ih =>
  intro y hy
  rcases List.mem_append.mp hy with hy | hy
  ·obtain ⟨p', k', h1, h2⟩ := ih y hy
   obtain ⟨t, ht, rfl, _⟩ := e
   have := hG t ht
   exact ⟨p', k', h1, by omega⟩
  ·have : y = v := by simpa using hy
   subst this
   exact ⟨_, _, .more q e n, Int.le_refl _⟩
theorem Wk.path {es : List Te} {c : Te -> Int} {a v : Str} {n : Nat} {k : Int} (hG : ∀ t ∈ es, 0 <= c t) (h : Wk es c a v n k) : ∃ p k', Pt es c a p v k' /\ k' <= k := by
 induction h with
 | nil => exact ⟨_, _, .one, Int.le_refl _⟩
 | @step u v n k x _ e ih =>
  obtain ⟨p, k', h1, h2⟩ := ih
  by_cases hv : v ∈ p
  ·obtain ⟨p', k'', h3, h4⟩ := h1.pre hG v hv
   obtain ⟨t, ht, rfl, _⟩ := e
   have := hG t ht
   exact ⟨p', k'', h3, by omega⟩
  ·exact ⟨_, _, .more h1 e hv, by omega⟩
def IsD (es : List Te) (c : Te -> Int) (a b : Str) : Option Int -> Prop
 | none => ∀ n k, ¬ Wk es c a b n k
 | some x => (∃ n, Wk es c a b n x) /\ ∀ n k, Wk es c a b n k -> x <= k
theorem IsD.unique {es es' : List Te} {c c' : Te -> Int} {a b : Str} {o o' : Option Int} (m : ∀ t, t ∈ es ↔ t ∈ es') (hc : ∀ t ∈ es, c t = c' t) (h : IsD es c a b o) (h' : IsD es' c' b a o') : o = o' := by
 have f : ∀ {n k}, Wk es c a b n k -> Wk es' c' b a n k := fun h => (h.mono fun t ht => ⟨(m t).mp ht, hc t ht⟩).symm
 have g : ∀ {n k}, Wk es' c' b a n k -> Wk es c a b n k := fun h => (h.mono fun t ht => ⟨(m t).mpr ht, (hc t ((m t).mpr ht)).symm⟩).symm
 cases o with
 | none =>
  cases o' with
  | none => rfl
  | some y => exact absurd (g h'.1.choose_spec) (h _ _)
 | some x =>
  cases o' with
  | none => exact absurd (f h.1.choose_spec) (h' _ _)
  | some y =>
   have h1 := h.2 _ _ (g h'.1.choose_spec)
   have h2 := h'.2 _ _ (f h.1.choose_spec)
   exact congrArg some (by omega)
def touch (t near : Te) : Bool := (decide (t.1 = near.1) || decide (t.1 = near.2)) || (decide (t.2 = near.1) || decide (t.2 = near.2))
def stp (t : Te) (c : Te -> Int) (m : Int) (near : Te) : Int := if touch t near = true /\ m < c near then c near else m
theorem stp_spec (t : Te) (c : Te -> Int) : ∀ (l : List Te) (m : Int), m <= l.foldl (stp t c) m /\ (∀ near ∈ l, touch t near = true -> c near <= l.foldl (stp t c) m) /\ (l.foldl (stp t c) m = m ∨ ∃ near ∈ l, touch t near = true /\ l.foldl (stp t c) m = c near)
 | [], m => ⟨Int.le_refl _, (fun _ h => by cases h), .inl rfl⟩
 | x :: l, m => by
  obtain ⟨h1, h2, h3⟩ := stp_spec t c l (stp t c m x)
  show m <= l.foldl (stp t c) (stp t c m x) /\ _ /\ (l.foldl (stp t c) (stp t c m x) = m ∨ ∃ near ∈ x :: l, touch t near = true /\ l.foldl (stp t c) (stp t c m x) = c near)
  have q : m <= stp t c m x /\ (touch t x = true -> c x <= stp t c m x) /\ (stp t c m x = m ∨ touch t x = true /\ stp t c m x = c x) := by
   unfold stp
   by_cases c1 : touch t x = true /\ m < c x
   ·rw [if_pos c1]
    exact ⟨by omega, fun _ => Int.le_refl _, .inr ⟨c1.1, rfl⟩⟩
   ·rw [if_neg c1]
    exact ⟨Int.le_refl _, fun z => by
     have : ¬ m < c x := fun y => c1 ⟨z, y⟩
     omega, .inl rfl⟩
  refine ⟨Int.le_trans q.1 h1, fun near hn tn => ?_, ?_⟩
  ·rcases List.mem_cons.mp hn with rfl | hn
   ·exact Int.le_trans (q.2.1 tn) h1
   ·exact h2 near hn tn
  ·rcases h3 with e | ⟨near, hn, tn, e⟩
   ·rw [e]
    rcases q.2.2 with e2 | ⟨t2, e2⟩
    ·exact .inl e2
    ·exact .inr ⟨x, by simp, t2, e2⟩
   ·exact .inr ⟨near, by simp [hn], tn, e⟩
def mx (es : List Te) (c : Te -> Int) (t : Te) : Int := es.foldl (stp t c) 0
theorem touch_self (t : Te) : touch t t = true := by simp [touch]
theorem mx_eq {es es' : List Te} {c c' : Te -> Int} {t : Te} {m : Int} (hm : ∀ t, t ∈ es ↔ t ∈ es') (hc : ∀ t ∈ es, 0 <= c t /\ c t = c' t) (ht : t ∈ es) (e : m = 0 ∨ m = c t) : es.foldl (stp t c) m = mx es' c' t := by
 obtain ⟨h1, h2, h3⟩ := stp_spec t c es m
 obtain ⟨g1, g2, g3⟩ := stp_spec t c' es' 0
 have a1 := h2 t ht (touch_self t)
 have a2 := g2 t ((hm t).mp ht) (touch_self t)
 have p := hc t ht
 unfold mx
 refine Int.le_antisymm ?_ ?_
 ·rcases h3 with z | ⟨near, hn, tn, z⟩
  ·rw [z]
   omega
  ·rw [z, (hc near hn).2]
   exact g2 near ((hm near).mp hn) tn
 ·rcases g3 with z | ⟨near, hn, tn, z⟩
  ·rw [z]
   omega
  ·rw [z, <- (hc near ((hm near).mpr hn)).2]
   exact h2 near ((hm near).mpr hn) tn
theorem mx_le {es : List Te} {c : Te -> Int} {t : Te} {G : Int} (hG : ∀ t ∈ es, 0 <= c t /\ c t <= G) (h0 : 0 <= G) : 0 <= mx es c t /\ mx es c t <= G := by
 obtain ⟨h1, h2, h3⟩ := stp_spec t c es 0
 refine ⟨h1, ?_⟩
 rcases h3 with z | ⟨near, hn, _, z⟩
 ·show es.foldl (stp t c) 0 <= G
  rw [z]; exact h0
 ·show es.foldl (stp t c) 0 <= G
  rw [z]; exact (hG near hn).2
abbrev Fo := Str -> Option Int
def put1 (f : Fo) (u v : Str) (x : Int) : Fo := fun n => match f u with
 | none => f n
 | some y => if n = v then (match f v with
  | none => some (y + x)
  | some z => some (if y + x < z then y + x else z)) else f n
def Ls (f : Fo) (v : Str) (k : Int) : Prop := ∃ z, f v = some z /\ z <= k
theorem put1_le {f : Fo} {u v : Str} {x : Int} {n : Str} {k : Int} (h : Ls f n k) : Ls (put1 f u v x) n k := by
 obtain ⟨z, e, l⟩ := h
 unfold Ls put1
 cases f u with
 | none => exact ⟨z, e, l⟩
 | some y =>
  by_cases c : n = v
  ·subst c
   simp only [e, if_true]
   refine ⟨_, rfl, ?_⟩
   split <;> omega
  ·simp only [if_neg c]
   exact ⟨z, e, l⟩
theorem put1_at {f : Fo} {u v : Str} {x k : Int} (h : Ls f u k) : Ls (put1 f u v x) v (k + x) := by
 obtain ⟨y, e, l⟩ := h
 unfold Ls put1
 simp only [e, if_true]
 cases f v with
 | none => exact ⟨_, rfl, by omega⟩
 | some z => exact ⟨_, rfl, by split <;> omega⟩
theorem put1_wk {es : List Te} {c : Te -> Int} {a : Str} {N : Nat} {f : Fo} {u v : Str} {x : Int} (e : Eg es c u v x) (h : ∀ n k, f n = some k -> ∃ m, m <= N /\ Wk es c a n m k) : ∀ n k, put1 f u v x n = some k -> ∃ m, m <= N + 1 /\ Wk es c a n m k := by
 have up : ∀ n k, f n = some k -> ∃ m, m <= N + 1 /\ Wk es c a n m k := fun n k q => by
  obtain ⟨m, hm, w⟩ := h n k q
  exact ⟨m, by omega, w⟩
 intro n k q
 unfold put1 at q
 cases hu : f u with
 | none =>
  rw [hu] at q
  exact up n k q
 | some y =>
  rw [hu] at q
  obtain ⟨m, hm, w⟩ := h u y hu
  have w2 := Wk.step w e
  by_cases c1 : n = v
  ·subst c1
   simp only [if_true] at q
   cases hv : f n with
   | none =>
    rw [hv] at q
    cases q
    exact ⟨m + 1, by omega, w2⟩
   | some z =>
    rw [hv] at q
    dsimp only at q
    by_cases c2 : y + x < z
    ·rw [if_pos c2] at q
     cases q
     exact ⟨m + 1, by omega, w2⟩
    ·rw [if_neg c2] at q
     cases q
     exact up n _ hv
  ·simp only [if_neg c1] at q
   exact up n k q
def put2 (c : Te -> Int) (f : Fo) (t : Te) : Fo := put1 (put1 f t.1 t.2 (c t)) t.2 t.1 (c t)
theorem put2_le {c : Te -> Int} {f : Fo} {t : Te} {n : Str} {k : Int} (h : Ls f n k) : Ls (put2 c f t) n k := put1_le (put1_le h)
theorem fold_le {c : Te -> Int} {n : Str} {k : Int} : ∀ {l : List Te} {f : Fo}, Ls f n k -> Ls (l.foldl (put2 c) f) n k
 | [], _, h => h
 | t :: l, f, h => (fold_le (l := l) (f := put2 c f t) (put2_le h) : Ls (l.foldl (put2 c) (put2 c f t)) n k)
theorem fold_at {c : Te -> Int} {u v : Str} {x k : Int} : ∀ {l : List Te} {f : Fo}, Ls f u k -> Eg l c u v x -> Ls (l.foldl (put2 c) f) v (k + x)
 | [], _, _, h => by
  obtain ⟨t, ht, _⟩ := h
  cases ht
 | t :: l, f, h, e => by
  obtain ⟨t', ht, ec, q⟩ := e
  rcases List.mem_cons.mp ht with rfl | ht
  ·show Ls (l.foldl (put2 c) (put2 c f t')) v (k + x)
   refine fold_le ?_
   unfold put2
   rcases q with rfl | rfl
   ·exact put1_le (by rw [<- ec]; exact put1_at h)
   ·rw [<- ec]
    exact put1_at (put1_le h)
  ·exact (fold_at (l := l) (f := put2 c f t) (put2_le h) ⟨t', ht, ec, q⟩ : Ls (l.foldl (put2 c) (put2 c f t)) v (k + x))
def rounds (es : List Te) (c : Te -> Int) (f : Fo) : Nat -> Fo
 | 0 => f
 | r + 1 => es.foldl (put2 c) (rounds es c f r)
def start (a : Str) : Fo := fun n => if n = a then some 0 else none
theorem rounds_le {es : List Te} {c : Te -> Int} {a v : Str} {p : List Str} {k : Int} (h : Pt es c a p v k) : ∀ r, p.length <= r + 1 -> Ls (rounds es c (start a) r) v k := by
 have up : ∀ {n k r d}, Ls (rounds es c (start a) r) n k -> Ls (rounds es c (start a) (r + d)) n k := fun {n k r d} q => by
  induction d with
  | zero => exact q
  | succ d ih => exact fold_le ih
 induction h with
 | one =>
  intro r _
  have : Ls (rounds es c (start a) 0) a 0 := ⟨0, by simp [rounds, start], Int.le_refl _⟩
  have := up (d := r) this
  rwa [Nat.zero_add] at this
 | @more p u v k x q e n ih =>
  intro r hr
  have hp : 0 < p.length := List.length_pos_of_mem q.mem
  simp only [List.length_append, List.length_singleton] at hr
  obtain ⟨r', rfl⟩ : ∃ r', r = r' + 1 := ⟨r - 1, by omega⟩
  exact fold_at (ih r' (by omega)) e
theorem bf_ends {es : List Te} {c : Te -> Int} {a b : Str} {ns : List Str} {f : Fo} {N : Nat} (hG : ∀ t ∈ es, 0 <= c t) (ha : a ∈ ns) (hn : ∀ t ∈ es, t.1 ∈ ns /\ t.2 ∈ ns) (ef : f = rounds es c (start a) ns.length) (hw : ∀ n k, f n = some k -> ∃ m, m <= N /\ Wk es c a n m k) : IsD es c a b (f b) := by
 have le : ∀ n k, Wk es c a b n k -> Ls f b k := fun n k w => by
  obtain ⟨p, k', h1, h2⟩ := w.path hG
  obtain ⟨z, e, l⟩ := rounds_le h1 ns.length (by have := h1.len ha hn; omega)
  exact ⟨z, by rw [ef]; exact e, by omega⟩
 cases hb : f b with
 | none =>
  intro n k w
  obtain ⟨z, e, _⟩ := le n k w
  rw [hb] at e
  cases e
 | some x =>
  obtain ⟨m, _, w⟩ := hw b x hb
  refine ⟨⟨m, w⟩, fun n k w => ?_⟩
  obtain ⟨z, e, l⟩ := le n k w
  rw [hb] at e
  cases e
  exact l
theorem least_of {es : List Te} {c : Te -> Int} {a b : Str} {o : Option Int} {ks : List Int} (hG : ∀ t ∈ es, 0 <= c t) (h : IsD es c a b o) (h1 : ∀ k ∈ ks, ∃ p, Pt es c a p b k) (h2 : ∀ p k, Pt es c a p b k -> k ∈ ks) : match o with
  | none => ks = []
  | some x => x ∈ ks /\ ∀ k ∈ ks, x <= k := by
 cases o with
 | none =>
  cases ks with
  | nil => rfl
  | cons k ks =>
   obtain ⟨p, hp⟩ := h1 k (by simp)
   obtain ⟨n, w⟩ := hp.walk
   exact absurd w (h n k)
 | some x =>
  refine ⟨?_, fun k hk => ?_⟩
  ·obtain ⟨n, w⟩ := h.1
   obtain ⟨p, k', q, l⟩ := w.path hG
   obtain ⟨n', w'⟩ := q.walk
   have := h.2 _ _ w'
   have e : x = k' := by omega
   rw [e]
   exact h2 p k' q
  ·obtain ⟨p, hp⟩ := h1 k hk
   obtain ⟨n, w⟩ := hp.walk
   exact h.2 n k w
end Ev
set_option Elab.async false
set_option linter.all false
set_option maxRecDepth 100000
namespace Ev
open PySem L2
def Cr (D : Int) (x : Int × Int) (k : Int) : Prop := x.1 * D = k * x.2 /\ 0 < x.2 /\ 0 <= x.1
theorem cr_fr {D k : Int} (hD : 0 < D) (hk : 0 <= k) : Cr D (fr k D) k /\ Int.gcd (fr k D).1 (fr k D).2 = 1 /\ (fr k D).1 <= k /\ (fr k D).2 <= D := by
 obtain ⟨g, g0, e1, e2, p, c⟩ := redF_ok (t := k) hD
 have hx : redF k D = fr k D := rfl
 rw [hx] at e1 e2 p c
 generalize fr k D = x at *
 have n1 : 0 <= x.1 := by
  by_cases z : 0 <= x.1
  ·exact z
  ·have : g * x.1 < 0 := Int.mul_neg_of_pos_of_neg g0 (by omega)
   omega
 refine ⟨⟨?_, p, n1⟩, c, ?_, ?_⟩
 ·rw [e2, e1]
  grind
 ·have := Int.mul_le_mul_of_nonneg_right (show 1 <= g by omega) n1
  omega
 ·have := Int.mul_le_mul_of_nonneg_right (show 1 <= g by omega) (Int.le_of_lt p)
  omega
theorem Cr.lt {D : Int} {x y : Int × Int} {a b : Int} (hD : 0 < D) (hx : Cr D x a) (hy : Cr D y b) : x.1 * y.2 < y.1 * x.2 ↔ a < b := by
 obtain ⟨x1, x2, x3⟩ := hx
 obtain ⟨y1, y2, y3⟩ := hy
 have e1 : x.1 * y.2 * D = a * (x.2 * y.2) := by grind
 have e2 : y.1 * x.2 * D = b * (x.2 * y.2) := by grind
 have p := Int.mul_pos x2 y2
 rw [<- Int.mul_lt_mul_right (a := D) hD (b := x.1 * y.2), e1, e2, Int.mul_lt_mul_right p]
theorem Cr.eq {D : Int} {x y : Int × Int} {a b : Int} (hD : 0 < D) (hx : Cr D x a) (hy : Cr D y b) : x.1 * y.2 = y.1 * x.2 ↔ a = b := by
 have h1 := hx.lt hD hy
 have h2 := hy.lt hD hx
 constructor
 ·intro e
  have n1 : ¬ a < b := fun z => by have := h1.mpr z; omega
  have n2 : ¬ b < a := fun z => by have := h2.mpr z; omega
  omega
 ·intro e
  have n1 : ¬ x.1 * y.2 < y.1 * x.2 := fun z => by have := h1.mp z; omega
  have n2 : ¬ y.1 * x.2 < x.1 * y.2 := fun z => by have := h2.mp z; omega
  omega
theorem Cr.fr {D : Int} {x : Int × Int} {k : Int} (hD : 0 < D) (hk : 0 <= k) (hx : Cr D x k) : Ev.fr x.1 x.2 = Ev.fr k D := by
 obtain ⟨h1, h2, h3⟩ := hx
 obtain ⟨⟨c1, c2, c3⟩, c4, _, _⟩ := cr_fr hD hk
 rw [show Ev.fr k D = ((Ev.fr k D).1, (Ev.fr k D).2) from rfl]
 refine red_unique c3 c2 h3 h2 c4 ?_
 generalize Ev.fr k D = y at *
 have e : (y.1 * x.2) * D = (x.1 * y.2) * D := by grind
 exact Int.eq_of_mul_eq_mul_right (by omega) e
theorem Cr.add {D : Int} {x y : Int × Int} {a b : Int} (hx : Cr D x a) (hy : Cr D y b) : Cr D (x.1 * y.2 + y.1 * x.2, x.2 * y.2) (a + b) := by
 obtain ⟨x1, x2, x3⟩ := hx
 obtain ⟨y1, y2, y3⟩ := hy
 refine ⟨?_, Int.mul_pos x2 y2, Int.add_nonneg (Int.mul_nonneg x3 (Int.le_of_lt y2)) (Int.mul_nonneg y3 (Int.le_of_lt x2))⟩
 show (x.1 * y.2 + y.1 * x.2) * D = (a + b) * (x.2 * y.2)
 grind
structure DOk (hs : List (Str × Int)) (D : Int) : Prop where
 pos : 0 < D
 big : D < 2 ^ 82
 dvd : ∀ u ∈ hs.map (·.1), ∀ v ∈ hs.map (·.1), u ≠ v -> 2 * strOf hs u * strOf hs v ∣ D
def c0 (g : Option Str) (wt m D : Int) (hs : List (Str × Int)) (t : Te) : Int := (own1 g wt m hs t).1 * (D / (own1 g wt m hs t).2)
def cst (l : Bool) (g : Option Str) (wt m D : Int) (hs : List (Str × Int)) (es : List Te) (t : Te) : Int := if l = true then mx es (c0 g wt m D hs) t else c0 g wt m D hs t
section
variable {wt m D : Int} {hs : List (Str × Int)} {ts : List (Str × Str)} {g : Option Str} {t : Str × Str}
theorem own_dvd (O : DOk hs D) (h1 : t.1 ∈ hs.map (·.1)) (h2 : t.2 ∈ hs.map (·.1)) (n : t.1 ≠ t.2) : (own1 g wt m hs t).2 ∣ D := by
 have d := O.dvd _ h1 _ h2 n
 have d2 : strOf hs t.1 * strOf hs t.2 ∣ D := Int.dvd_trans ⟨2, by rw [Int.mul_assoc, Int.mul_comm]⟩ d
 unfold own1 bnd
 split
 ·exact d
 ·split
  ·exact d2
  ·exact d2
theorem own_top (O : Ok wt m hs ts) (h1 : t.1 ∈ hs.map (·.1)) (h2 : t.2 ∈ hs.map (·.1)) : (own1 g wt m hs t).1 < 2 ^ 51 := by
 have g1 := (O.G.hok _ (strOf_mem h1)).2
 have g2 := (O.G.hok _ (strOf_mem h2)).2
 have w1 := O.w1
 have w2 := O.w2
 have m1 := O.M.pos O.G
 unfold own1
 dsimp only at g1 g2
 generalize strOf hs t.1 = s at *
 generalize strOf hs t.2 = r at *
 have a : wt * (s + r) <= 1000000000 * 2000 := Int.mul_le_mul w2 (by omega) (by omega) (by decide)
 have a0 : 0 <= wt * (s + r) := Int.mul_nonneg (by omega) (by omega)
 have b : wt * (s + r) * (m + 1) <= 1000000000 * 2000 * 1001 := Int.mul_le_mul a (by omega) (by omega) (by decide)
 unfold bnd
 split
 ·show wt * (s + r) < _
  omega
 ·split
  ·show wt * (s + r) - 1 < _
   omega
  ·show wt * (s + r) * (m + 1) - 1 < _
   omega
theorem c0_cr (O : Ok wt m hs ts) (DO : DOk hs D) (h1 : t.1 ∈ hs.map (·.1)) (h2 : t.2 ∈ hs.map (·.1)) (n : t.1 ≠ t.2) : Cr D (own1 g wt m hs t) (c0 g wt m D hs t) := by
 obtain ⟨a, b, c⟩ := O.own (g := g) h1 h2
 obtain ⟨e, he⟩ := own_dvd (g := g) (wt := wt) (m := m) DO h1 h2 n
 refine ⟨?_, b, a⟩
 unfold c0
 have : D / (own1 g wt m hs t).2 = e := Int.ediv_eq_of_eq_mul_right (by omega) he
 rw [this]
 rw [he]
 grind
theorem c0_le (O : Ok wt m hs ts) (DO : DOk hs D) (h1 : t.1 ∈ hs.map (·.1)) (h2 : t.2 ∈ hs.map (·.1)) : 0 <= c0 g wt m D hs t /\ c0 g wt m D hs t <= 2 ^ 133 := by
 obtain ⟨a, b, c⟩ := O.own (g := g) h1 h2
 have t1 := own_top (g := g) O h1 h2
 have p := DO.pos
 have q := DO.big
 have d1 : 0 <= D / (own1 g wt m hs t).2 := Int.ediv_nonneg (by omega) (by omega)
 have d2 : D / (own1 g wt m hs t).2 <= D := Int.ediv_le_self _ (by omega)
 refine ⟨Int.mul_nonneg a d1, ?_⟩
 have := Int.mul_le_mul (show (own1 g wt m hs t).1 <= 2 ^ 51 by omega) (show D / (own1 g wt m hs t).2 <= 2 ^ 82 by omega) d1 (by decide)
 unfold c0
 omega
theorem gap_fr (O : Ok wt m hs ts) (DO : DOk hs D) (h1 : t.1 ∈ hs.map (·.1)) (h2 : t.2 ∈ hs.map (·.1)) (n : t.1 ≠ t.2) : redF (own1 g wt m hs t).1 (own1 g wt m hs t).2 = fr (c0 g wt m D hs t) D := (c0_cr O DO h1 h2 n).fr DO.pos (c0_le O DO h1 h2).1
def Tes (hs : List (Str × Int)) (es : List Te) : Prop := ∀ t ∈ es, t.1 ∈ hs.map (·.1) /\ t.2 ∈ hs.map (·.1) /\ t.1 ≠ t.2
theorem tes_of (G : Good hs ts) : Tes hs (tsOf ts) := fun t ht => by
 have a := tsOf_in G ht
 obtain ⟨t0, h0, e⟩ := tsOf_mem.mp ht
 have b := (G.tok t0 h0).2.2
 refine ⟨a.1, a.2, ?_⟩
 rcases ord2_or t0.1 t0.2 with z | z
 ·rw [z] at e
  subst e
  exact b
 ·rw [z] at e
  subst e
  exact Ne.symm b
theorem cst_le {l : Bool} {es : List Te} (O : Ok wt m hs ts) (DO : DOk hs D) (T : Tes hs es) : ∀ t ∈ es, 0 <= cst l g wt m D hs es t /\ cst l g wt m D hs es t <= 2 ^ 133 := fun t ht => by
 unfold cst
 split
 ·exact mx_le (fun t ht => c0_le O DO (T t ht).1 (T t ht).2.1) (by decide)
 ·exact c0_le O DO (T t ht).1 (T t ht).2.1
end
def dOf (hs : List (Str × Int)) : Int := 2 * (hs.map (·.2)).foldr (· * ·) 1
theorem prod_dvd : ∀ {l : List Int} {a : Int}, a ∈ l -> a ∣ l.foldr (· * ·) 1
 | x :: l, a, h => by
  rcases List.mem_cons.mp h with rfl | h
  ·exact ⟨_, rfl⟩
  ·exact Int.dvd_trans (prod_dvd h) ⟨x, by show x * _ = _; rw [Int.mul_comm]⟩
theorem prod_two : ∀ {hs : List (Str × Int)} {u v : Str × Int}, u ∈ hs -> v ∈ hs -> u ≠ v -> u.2 * v.2 ∣ (hs.map (·.2)).foldr (· * ·) 1
 | x :: l, u, v, hu, hv, n => by
  show _ ∣ x.2 * (l.map (·.2)).foldr (· * ·) 1
  rcases List.mem_cons.mp hu with e1 | hu2
  ·rcases List.mem_cons.mp hv with e2 | hv2
   ·exact absurd (e1.trans e2.symm) n
   ·rw [e1]
    exact Int.mul_dvd_mul (Int.dvd_refl _) (prod_dvd (List.mem_map_of_mem hv2))
  ·rcases List.mem_cons.mp hv with e2 | hv2
   ·rw [e2, Int.mul_comm]
    exact Int.mul_dvd_mul (Int.dvd_refl _) (prod_dvd (List.mem_map_of_mem hu2))
   ·exact Int.dvd_trans (prod_two hu2 hv2 n) ⟨x.2, Int.mul_comm _ _⟩
theorem prod_le : ∀ {l : List Int}, (∀ x ∈ l, 1 <= x /\ x <= 1000) -> 0 < l.foldr (· * ·) 1 /\ l.foldr (· * ·) 1 <= 1000 ^ l.length
 | [], _ => by simp
 | x :: l, h => by
  obtain ⟨a, b⟩ := prod_le (l := l) fun y hy => h y (by simp [hy])
  have q := h x (by simp)
  show 0 < x * l.foldr (· * ·) 1 /\ x * l.foldr (· * ·) 1 <= 1000 ^ (l.length + 1)
  refine ⟨Int.mul_pos (by omega) a, ?_⟩
  rw [Int.pow_succ, Int.mul_comm (1000 ^ l.length)]
  exact Int.mul_le_mul q.2 b (Int.le_of_lt a) (by decide)
theorem dOf_ok {hs : List (Str × Int)} {ts : List (Str × Str)} (G : Good hs ts) : DOk hs (dOf hs) := by
 obtain ⟨a, b⟩ := prod_le (l := hs.map (·.2)) fun x hx => by
  obtain ⟨h, hh, rfl⟩ := List.mem_map.mp hx
  exact (G.hok h hh).2
 rw [List.length_map] at b
 have h8 := G.h8
 have c : (1000 : Int) ^ hs.length <= 1000 ^ 8 := by
  have h := Nat.pow_le_pow_right (n := 1000) (by decide) h8
  exact_mod_cast h
 refine ⟨?_, ?_, fun u hu v hv n => ?_⟩
 ·unfold dOf
  omega
 ·unfold dOf
  have : (1000 : Int) ^ 8 = 1000000000000000000000000 := by decide
  omega
 ·unfold dOf
  rw [Int.mul_assoc]
  refine Int.mul_dvd_mul (Int.dvd_refl _) ?_
  exact prod_two (strOf_mem hu) (strOf_mem hv) (fun e => n (congrArg Prod.fst e))
end Ev
set_option Elab.async false
set_option linter.all false
set_option maxRecDepth 100000
namespace EvD
open PySem PySem.W PyProof.Rows
section
variable {prog : Program} {w : World} {A : Around} {E : Value -> Shared -> Prop} {s : Shared}
theorem rawI_view (d : Addr) (hd : (d == sysModules) = false) : MeetsIn prog w (Builtin.«dict.items» ⟨[.ref d], []⟩) (fun _ R s => (∃ es ep, Raw s.heap d es ep) /\ R (.ok (.ret (.ref s.heap.objs.size))) { s with heap := s.heap.push { cls := .type "dict_items", data := .fields #[.ref d] } }) :=
 .of_wp fun A R s ⟨⟨es, ep, x⟩, h⟩ => by
  unfold Builtin.«dict.items» Builtin.Dict.noArgs
  refine wpAny_bind (wpAny_bind (wpAny_notOrdered_dict x.ty (show wpAny _ _ (pure d) _ _ s from wpAny_pure (show wpAny _ _ (Builtin.Dict.showsAll d >>= _) _ _ s from ?_))))
  unfold Builtin.Dict.showsAll
  rw [if_neg (by rw [hd]; decide)]
  exact wpAny_bind (wpAny_pure (wpAny_bind (wpAny_newObj_type (wpAny_pure ⟨_, rfl, h⟩))))
theorem rawI_iter {v d : Addr} {es : Array DictEntry} {ep : Nat} {Q : Value -> Shared -> Prop} (hv : s.heap.IsItemsView v d) (x : Raw s.heap d es ep)
  (q : Q (.ref s.heap.objs.size) { s with heap := s.heap.push { cls := .type "dict_itemiterator", data := .fields #[.none, .bool false, .ref d, .int 0 0, .int es.size 0, .int ep 0, .none, .none] } }) :
  wpAny (model prog w) A (pyIter (.ref v)) Q E s := by
 obtain ⟨ov, hov, hcv, hdv⟩ := id hv
 obtain ⟨o, ho, hc, hdat⟩ := id x
 refine wpAny_pyIter_slot hv.typeIs F.slot_dict_items_iter (wpAny_call_entry F.slot_dict_items_iter hv.typeIs F.entry_dict_items_iter ?_ (F.args_dict_items_iter_1 _))
 unfold Builtin.«dict_items.__iter__» Builtin.Dict_items.dictOf Builtin.Dict_items.newIterator
 refine wpAny_bind (wpAny_pure (wpAny_bind (wpAny_bind (wpAny_field hov hdv (x := .ref d) rfl (wpAny_pure (wpAny_bind (wpAny_bind (wpAny_dictEntries ho hdat (wpAny_bind (wpAny_dictEpoch ho hdat ?_))))))))))
 simp only [show Builtin.Dict_items.ownsTuple "dict_itemiterator" = true by decide, if_true]
 refine wpAny_newObj_type (wpAny_pure ⟨_, rfl, "dict_itemiterator", _, ⟨_, Heap.get?_push_size _ rfl, rfl⟩, F.slot_dict_itemiterator_next.lookup, ?_⟩) (by
  simp only [sizeOk, Builtin.Dict_items.ownedTupleFields, List.size_toArray, List.length_append, List.length_cons, List.length_nil, sizeLine_eq]
  omega)
 simpa [rawInt, Builtin.Dict_items.ownedTupleFields] using q
theorem rawI_next {it d : Addr} {i ep : Nat} {es : Array DictEntry} {ok ov : Value} {Q : Option Value -> Shared -> Prop} (hit : IsItemIter s.heap it d i es.size ep ok ov) (x : Raw s.heap d es ep) (hi : i < es.size)
  (hQ : ∀ h', IsItemIterOut h' it d (i + 1) es.size ep es[i].key es[i].val s.heap.objs.size -> h'.get? s.heap.objs.size = some { cls := .type "tuple", data := .seq #[es[i].key, es[i].val] } -> (∀ b o, b ≠ it -> s.heap.get? b = some o -> h'.get? b = some o) -> Q (some (.ref s.heap.objs.size)) { s with heap := h' }) :
  wpAny (model prog w) A (pyNext (.ref it)) Q E s := by
 obtain ⟨hp, g, dr, tk, os⟩ := s
 obtain ⟨od, hod, hcd, hdd⟩ := id x
 have hT : Shared.TypeIs ⟨hp, g, dr, tk, os⟩ (.ref it) "dict_itemiterator" := ⟨_, hit, rfl⟩
 unfold pyNext
 refine wpAny_bind (wpAny_attempt (wpAny_callSpecial?_slot (name := Str.ofString "__next__") hT F.slot_dict_itemiterator_next (wpAny_call_entry F.slot_dict_itemiterator_next hT F.entry_dict_itemiterator_next ?_ (F.args_dict_itemiterator_next_1 _))))
 refine wpAny_bind (wpAny_pure (wpAny_bind (wpAny_bind ?_)))
 first | refine wpAny_bind (wpAny_typeNameOfWhole_itemiter hT (wpAny_pure (wpAny_bind (wpAny_fieldsOf hit rfl ?_)))) | refine wpAny_bind (wpAny_typeNameOf_itemiter hT (wpAny_pure (wpAny_bind (wpAny_fieldsOf hit rfl ?_))))
 simp only [show Builtin.Dict_items.ownsTuple "dict_itemiterator" = true by decide, if_true]
 refine (show wpAny _ _ (if (Value.ref d == Value.none) = true then _ else _) _ _ _ from ?_)
 rw [if_neg (fun z => by cases z)]
 refine wpAny_bind (wpAny_pure (wpAny_bind (wpAny_dictEntries hod hdd ?_)))
 rw [if_neg (by simp)]
 refine wpAny_bind (wpAny_pure (wpAny_bind (wpAny_dictEpoch hod hdd ?_)))
 rw [if_neg (by simp)]
 refine wpAny_pure ?_
 simp only [show ¬ ((i : Int) < 0) from by omega, if_false, Int.toNat_natCast, Array.getElem?_eq_getElem hi]
 refine wpAny_bind ?_
 first | refine wpAny_bind (wpAny_typeNameOfWhole_itemiter hT (wpAny_pure (wpAny_bind (wpAny_isOneOf_itemiter hT ?_)))) | refine wpAny_bind (wpAny_typeNameOf_itemiter hT (wpAny_pure (wpAny_bind (wpAny_isOneOf_itemiter hT ?_))))
 refine (show wpAny _ _ (setField (.ref it) 3 (rawInt ((i : Int) + 1)) >>= _) _ _ ⟨hp, g, dr, tk, os⟩ from wpAny_bind (wpAny_setField_rec hit (by simp) fun h1 he1 hs1 => ?_))
 replace hs1 : Heap.SameBut it hp h1 := hs1
 replace he1 : IsItemIter h1 it d (i + 1) es.size ep ok ov := by
  have e : ((i + 1 : Nat) : Int) = (i : Int) + 1 := by omega
  unfold IsItemIter
  rw [e]
  simpa [rawInt] using he1
 have hT1 : Shared.TypeIs ⟨h1, g, dr, tk, os⟩ (.ref it) "dict_itemiterator" := ⟨_, he1, rfl⟩
 refine wpAny_bind (wpAny_holding (wpAny_bind (wpAny_isOneOf_itemiter hT1 (wpAny_bind (wpAny_isOneOf_itemiter hT1 ?_)))))
 refine (show wpAny _ _ (Builtin.Dict_items.pairFromOwner (.ref it) 6 es[i].key es[i].val) _ _ ⟨h1, g, dr, tk, os⟩ from ?_)
 unfold Builtin.Dict_items.pairFromOwner
 refine wpAny_bind (wpAny_newTuple ?_)
 have he2 : IsItemIter (h1.push { cls := .type "tuple", data := .seq #[es[i].key, es[i].val] }) it d (i + 1) es.size ep ok ov := Heap.get?_push_of_some _ he1
 generalize hh2 : h1.push { cls := .type "tuple", data := .seq #[es[i].key, es[i].val] } = h2 at he2
 have hz1 : h1.objs.size = hp.objs.size := hs1.1
 have hil : it < hp.objs.size := Heap.lt_size hit
 have ht2 : h2.get? hp.objs.size = some { cls := .type "tuple", data := .seq #[es[i].key, es[i].val] } := by
  rw [<- hh2, <- hz1]
  exact Heap.get?_push_size _ rfl
 have hk2 : ∀ b o, b ≠ it -> hp.get? b = some o -> h2.get? b = some o := fun b o hb e => by
  rw [<- hh2]
  exact Heap.get?_push_of_some _ (hs1.extBut b o hb e)
 refine (show wpAny _ _ (Builtin.Dict_items.ownedTupleIsFree (.ref it) >>= _) _ _ ⟨h2, g, dr, tk, os⟩ from ?_)
 rw [hz1]
 clear hh2 he1 hs1 hT1 hz1 h1
 refine wpAny_bind ?_
 unfold Builtin.Dict_items.ownedTupleIsFree
 refine wpAny_bind (wpAny_field he2 rfl (x := .none) rfl (wpAny_pure ?_))
 simp only [if_true]
 refine wpAny_bind (wpAny_field he2 rfl (x := ok) rfl (wpAny_bind (wpAny_field he2 rfl (x := ov) rfl (wpAny_bind (wpAny_setField_rec he2 (by simp) fun h3 he3 hs3 => ?_)))))
 replace hs3 : Heap.SameBut it h2 h3 := hs3
 replace he3 : IsItemIter h3 it d (i + 1) es.size ep es[i].key ov := he3
 refine wpAny_bind (wpAny_setField_rec he3 (by simp) fun h4 he4 hs4 => ?_)
 replace hs4 : Heap.SameBut it h3 h4 := hs4
 replace he4 : IsItemIter h4 it d (i + 1) es.size ep es[i].key es[i].val := he4
 refine wpAny_bind (wpAny_setField_rec he4 (by simp) fun h5 he5 hs5 => ?_)
 replace hs5 : Heap.SameBut it h4 h5 := hs5
 replace he5 : IsItemIterOut h5 it d (i + 1) es.size ep es[i].key es[i].val hp.objs.size := he5
 refine wpAny_bind (wpAny_setField_rec he5 (by simp) fun h6 he6 hs6 => ?_)
 replace hs6 : Heap.SameBut it h5 h6 := hs6
 replace he6 : IsItemIterOut h6 it d (i + 1) es.size ep es[i].key es[i].val hp.objs.size := he6
 have up : ∀ b o, b ≠ it -> h2.get? b = some o -> h6.get? b = some o := fun b o hb e => hs6.extBut b o hb (hs5.extBut b o hb (hs4.extBut b o hb (hs3.extBut b o hb e)))
 exact wpAny_bind (wpAny_letGo (wpAny_pure (wpAny_pure ⟨_, rfl, wpAny_pure (hQ h6 he6 (up _ _ (Nat.ne_of_gt hil) ht2) fun b o hb e => up b o hb (hk2 b o hb e))⟩)))
theorem rawI_stop {it d : Addr} {i ep : Nat} {es : Array DictEntry} {ok ov : Value} {Q : Option Value -> Shared -> Prop} (hh : A.handled = none) (hit : IsItemIter s.heap it d i es.size ep ok ov) (x : Raw s.heap d es ep) (hi : es.size <= i)
  (q : ∀ h', Heap.ExtBut it s.heap h' -> Q none { s with heap := h' }) : wpAny (model prog w) A (pyNext (.ref it)) Q E s := by
 obtain ⟨od, hod, hcd, hdd⟩ := id x
 have hT : s.TypeIs (.ref it) "dict_itemiterator" := ⟨_, hit, rfl⟩
 unfold pyNext
 refine wpAny_bind (wpAny_attempt (wpAny_callSpecial?_slot (name := Str.ofString "__next__") hT F.slot_dict_itemiterator_next (wpAny_call_entry F.slot_dict_itemiterator_next hT F.entry_dict_itemiterator_next ?_ (F.args_dict_itemiterator_next_1 _))))
 refine wpAny_bind (wpAny_pure (wpAny_bind (wpAny_bind ?_)))
 first | refine wpAny_bind (wpAny_typeNameOfWhole_itemiter hT (wpAny_pure (wpAny_bind (wpAny_fieldsOf hit rfl ?_)))) | refine wpAny_bind (wpAny_typeNameOf_itemiter hT (wpAny_pure (wpAny_bind (wpAny_fieldsOf hit rfl ?_))))
 simp only [show Builtin.Dict_items.ownsTuple "dict_itemiterator" = true by decide, if_true]
 refine (show wpAny _ _ (if (Value.ref d == Value.none) = true then _ else _) _ _ s from ?_)
 rw [if_neg (fun z => by cases z)]
 refine wpAny_bind (wpAny_pure (wpAny_bind (wpAny_dictEntries hod hdd ?_)))
 rw [if_neg (by simp)]
 refine wpAny_bind (wpAny_pure (wpAny_bind (wpAny_dictEpoch hod hdd ?_)))
 rw [if_neg (by simp)]
 refine wpAny_pure ?_
 simp only [show ¬ ((i : Int) < 0) from by omega, if_false, Int.toNat_natCast, Array.getElem?_eq_none hi]
 refine wpAny_bind ?_
 first | refine wpAny_bind (wpAny_typeNameOfWhole_itemiter hT (wpAny_pure ?g)) | refine wpAny_bind (wpAny_typeNameOf_itemiter hT (wpAny_pure ?g))
 refine (show wpAny _ _ (setField (.ref it) 2 .none >>= _) _ _ s from wpAny_bind (wpAny_setField hit rfl (by simp) (show wpAny _ _ (newExc (.type "StopIteration") [] >>= _) _ _ _ from wpAny_bind ?_)))
 simp only [newExc, newTuple]
 refine wpAny_bind (wpAny_newObj_type (wpAny_bind (m := firstArgMember _ _) (wpAny_of_eq (a := Value.none) (by first | rfl | (simp only [firstArgMember]; rfl)) (wpAny_newObj_type ?_ (by size_fits)))) (by size_fits))
 simp only [raiseNew]
 refine wpAny_bind (wpAny_handled ?_)
 rw [show A.in1.handled = none from hh]
 refine wpAny_bind (wpAny_pure (wpAny_throw ?_))
 exact wpAny_bind (wpAny_isInstance (T := "StopIteration") (b := true) ⟨_, Heap.get?_push_size _ rfl, rfl⟩ isSubtype_stop (wpAny_pure (q _ (((Heap.SameBut.update ..).extBut.push _).push _))))
end
end EvD
set_option Elab.async false
set_option linter.all false
set_option maxRecDepth 100000
namespace L2
open PySem PySem.Spec PyProof.Rows PySem.W
section
variable {X : Cx} {pins : List (Addr × Obj)} {σ : St} {H : Hp} {s : Shared} {d : Addr} {kvs : List (List Key × V)}
theorem Inv.freezeT (I : Inv X pins σ H s) (h : H d = some (.dT kvs)) : ∃ o, s.heap.get? d = some o /\ Inv X pins σ (upd H d (.frz o (.dT kvs))) s := by
 obtain ⟨z, hd, xs, rel, o, es, ep, ho, r⟩ := (show ObjOk X.prog X.w H s.heap d (.dT kvs) from I.hok d _ h)
 have other : ∀ {b u}, H b = some u -> u ≠ .dT kvs -> upd H d (.frz o (.dT kvs)) b = some u := fun {b u} e ne => by rw [upd_ne (ne_of e h ne)]; exact e
 refine ⟨o, ho, I.un (h' := s.heap) (t' := s.toks) ⟨fun b u q _ _ _ => q, fun b u q _ _ _ => ⟨u.slots, q⟩, fun b u q n _ => ?_, fun b u q _ => ⟨u, q⟩, fun b xs q => other q (by simp), fun b u v q => other q (by simp), fun b ps q => ⟨#[], by rw [Array.append_empty]; exact other q (by simp)⟩⟩ fun b u q => ?_⟩
 ·by_cases e : b = d
  ·subst e; rw [h] at n; cases n
  ·rw [upd_ne e]; exact n
 ·by_cases e : b = d
  ·subst e
   rw [upd_same] at q
   cases q
   exact ⟨ho, (I.hok b _ h).stay (fun c v _ z => z) (fun c z => other z (by simp)) fun c xs z => other z (by simp)⟩
  ·rw [upd_ne e] at q
   exact (I.hok b u q).stay (fun c v _ z => z) (fun c z => other z (by simp)) fun c xs z => other z (by simp)
theorem Inv.thawT {o : Obj} (I : Inv X pins σ H s) (h : H d = some (.frz o (.dT kvs))) (h0 : ∀ o u, X.H₀ d ≠ some (.frz o u)) : Inv X pins σ (upd H d (.dT kvs)) s := by
 have other : ∀ {b u}, H b = some u -> (∀ o v, u ≠ .frz o v) -> upd H d (.dT kvs) b = some u := fun {b u} e ne => by rw [upd_ne (ne_of e h (ne _ _))]; exact e
 have none' : ∀ {b}, H b = none -> upd H d (.dT kvs) b = none := fun {b} e => by
  rw [upd_ne (fun z => by subst z; rw [h] at e; cases e)]; exact e
 refine ⟨I.ok, I.os, I.bare, ⟨I.base.keep, I.base.slot, fun b u q n hx => none' (I.base.free b u q n hx), I.base.there, fun b xs q => other (I.base.tups b xs q) (by simp), fun b u v q => ?_, fun b ps q => ?_⟩, I.loc, I.cell, none' I.free, fun x c e => none' (I.freeC x c e), fun p hp => ?_, fun b u q => ?_, I.len⟩
 ·have := I.base.frzs b u v q
  rw [upd_ne (fun z => by subst z; exact h0 _ _ q)]
  exact this
 ·obtain ⟨more, e⟩ := I.base.tbls b ps q
  exact ⟨more, other e (by simp)⟩
 ·obtain ⟨a1, a2, a3⟩ := I.pin p hp
  exact ⟨a1, none' a2, a3⟩
 ·by_cases e : b = d
  ·subst e
   rw [upd_same] at q
   cases q
   obtain ⟨ho, r⟩ := I.hok b _ h
   exact r.stay (fun c v _ z => z) (fun c z => other z (by simp)) fun c xs z => other z (by simp)
  ·rw [upd_ne e] at q
   exact (I.hok b u q).stay (fun c v _ z => z) (fun c z => other z (by simp)) fun c xs z => other z (by simp)
theorem raw_frz {o : Obj} {es : Array DictEntry} {ep : Nat} (I : Inv X pins σ H s) (h : H d = some (.frz o (.dT kvs))) (ho : o.data = .dict es ep) : kvs.length = es.size /\ (d == sysModules) = false /\ EvD.Raw s.heap d es ep /\ ∀ i k x, kvs[i]? = some (k, x) -> ∃ (hi : i < es.size) (b : Addr), es[i].key = .ref b /\ H b = some (.tup (k.map kV)) /\ RelV x es[i].val := by
 obtain ⟨hg, z, hd, xs, rel, o', es', ep', ho', hc, hdat, hes, nd⟩ := (show ObjOk X.prog X.w H s.heap d (.frz o (.dT kvs)) from I.hok d _ h)
 rw [hg] at ho'
 cases ho'
 rw [ho] at hdat
 cases hdat
 have l1 := size_of_entries hes
 have l2 := Paired.length rel
 refine ⟨by omega, hd, ⟨o, hg, hc, ho⟩, fun i k x hx => ?_⟩
 have hi : i < kvs.length := (List.getElem?_eq_some_iff.mp hx).1
 have hi2 : i < xs.length := by omega
 have hi3 : i < es.size := by omega
 have gen : ∀ {kvs : List (List Key × V)} {xs : List (List Key × Addr × Value)}, KT H kvs xs -> ∀ (i : Nat) {p q}, kvs[i]? = some p -> xs[i]? = some q -> p.1 = q.1 /\ H q.2.1 = some (.tup (p.1.map kV)) /\ RelV p.2 q.2.2 := fun {kvs xs} r => by
  induction r with
  | nil => intro i p q h1; cases h1
  | cons h t ih =>
   intro i p q h1 h2
   cases i with
   | zero => cases h1; cases h2; exact h
   | succ i => exact ih i h1 h2
 obtain ⟨g1, g2, g3⟩ := gen rel i hx (List.getElem?_eq_getElem hi2)
 have e := entry_at hes i
 rw [List.getElem?_eq_getElem hi2, Array.getElem?_eq_getElem hi3] at e
 have e' : es[i] = entryOfKey (tupleKind (mixKind X.prog X.w)) xs[i] := Option.some.inj e
 exact ⟨hi3, xs[i].2.1, by rw [e']; rfl, g2, by rw [e']; exact g3⟩
end
def ItmT (d : Addr) (o : Obj) (kvs : List (List Key × V)) : It := ⟨fun i H => H d = some (.frz o (.dT kvs)) /\ i < kvs.length, fun i H y H' => ∃ t b k x, y = .ref t /\ H t = none /\ kvs[i]? = some (k, x) /\ H b = some (.tup (k.map kV)) /\ H' = upd H t (.tup [.ref b, x]), fun i H => H d = some (.frz o (.dT kvs)) /\ kvs.length <= i⟩
theorem turn_itemsT {P : Program} {w : World} {K : PySem.W.Frag} {elts : List Expr} {kk : Nat} {pos : Pos} (d it : Addr) (o : Obj) (kvs : List (List Key × V)) {es : Array DictEntry} {ep : Nat} (ho : o.data = .dict es ep) : Turn P w K (.Tuple elts kk pos) (ItmT d o kvs) [it] it (fun i h => ∃ ok ov, IsItemIter h it d i es.size ep ok ov) where
 mem := by simp
 obj := fun i h st b hb => by
  obtain rfl : b = it := by simpa using hb
  obtain ⟨ok, ov, q⟩ := st
  exact ⟨_, q, fun v z => by cases z⟩
 keep := fun i h h' st k => by
  obtain ⟨ok, ov, q⟩ := st
  exact ⟨ok, ov, k it (by simp) _ q⟩
 item := by
  intro X hP hw hK hc i pins s σ H E I hf st hg
  subst hP hw hK
  obtain ⟨hd, hi⟩ := hg
  obtain ⟨l1, _, raw, ent⟩ := raw_frz I hd ho
  obtain ⟨⟨k, x⟩, hx⟩ : ∃ p, kvs[i]? = some p := ⟨kvs[i], by simp [hi]⟩
  obtain ⟨hi3, b0, e1, e2, e3⟩ := ent i k x hx
  obtain ⟨ok, ov, st⟩ := st
  have itl : it < s.heap.objs.size := Heap.lt_size st
  refine EvD.rawI_next st raw hi3 fun h' out ht kp => ?_
  refine ⟨_, rfl, wpAny_letOwnedTupleGo_items (s := { s with heap := h' }) out fun h2 st2 sb => ?_⟩
  have nT : s.heap.objs.size ≠ it := Nat.ne_of_gt itl
  have I1 : Inv X pins σ (upd H s.heap.objs.size (.tup [.ref b0, x])) { s with heap := h2 } := I.turnedN (t' := s.toks) (fp := [it]) (its := [es[i].key, es[i].val]) (fun b o hb q => (sb.2 b (by simpa using hb)).trans (kp b o (by simpa using hb) q)) hf (Nat.le_refl _) (by show 2 <= sizeLine; decide) (.cons e1 (.cons e3 .nil)) ⟨⟨_, (sb.2 _ nT).trans ht, rfl, _, rfl⟩, _, (sb.2 _ nT).trans ht, rfl⟩
  refine ⟨.ref _, _, I1, rfl, ⟨_, b0, k, x, rfl, I.hok.fresh (Nat.le_refl _), hx, e2, rfl⟩, ⟨_, _, st2⟩, fun b hb => ?_⟩
  have e : b = it := by simpa using hb
  rw [upd_ne (fun z => nT (z.symm.trans e))]
  exact (hf b hb).1
 done := by
  intro X hP hw hK hc i pins s σ H E I hf st hg
  subst hP hw hK
  obtain ⟨hd, hi⟩ := hg
  obtain ⟨l1, _, raw, ent⟩ := raw_frz I hd ho
  obtain ⟨f0, f1, f2, f3, f4, f5⟩ := hf it (by simp)
  obtain ⟨ok, ov, st⟩ := st
  exact EvD.rawI_stop (I.ok.hd hc) st raw (by omega) fun h' eb => ⟨rfl, I.turned (t' := s.toks) (fun b o hb e => eb b o hb e) f0 f1 f3 f4 f5⟩
 self := fun A i s Q E st h => by
  obtain ⟨ok, ov, q⟩ := st
  exact kcp_self q h
def iItemsT (tv : TE) : TI := fun σ H R => tv σ H fun x H1 => ∃ v d kvs, x = .ref v /\ H1 v = some (itemsV v d) /\ H1 d = some (.dT kvs) /\ ∀ o, R (ItmT d o kvs) (upd H1 d (.frz o (.dT kvs)))
theorem pi_itemsT {X : Cx} {elts : List Expr} {kk : Nat} {p2 : Pos} {e : Expr} {tv : TE} (he : PE X e tv) : PI X (.Tuple elts kk p2) e (iItemsT tv) := by
 intro pins s σ H R I h
 refine thn (he pins s σ H _ I h) fun u s1 ⟨x, H1, I1, r1, v, d, kvs, ex, hv, hd, q⟩ => ?_
 subst ex
 cases r1
 obtain ⟨iv, _, _⟩ := I1.hok v _ hv
 obtain ⟨o, ho, I2⟩ := I1.freezeT hd
 obtain ⟨z, _, xs, rel, o', es, ep, ho', c', dt, r⟩ := (show ObjOk X.prog X.w H1 s1.heap d (.dT kvs) from I1.hok d _ hd)
 rw [ho] at ho'
 cases ho'
 refine EvD.rawI_iter iv ⟨o, ho, c', dt⟩ ?_
 refine ⟨s1.heap.objs.size, [s1.heap.objs.size], _, _, _, rfl, I2.kept (t' := s1.toks) fun b o e => Heap.get?_push_of_some _ e, turn_itemsT d _ o kvs dt, ⟨.none, .none, Heap.get?_push_size _ rfl⟩, fun b hb => ?_, q o⟩
 obtain rfl : b = s1.heap.objs.size := by simpa using hb
 exact I2.fpOk (Nat.le_refl _) (I2.hok.fresh (Nat.le_refl _))
def iItemsTF (tv : TE) : TI := fun σ H R => tv σ H fun x H1 => ∃ v d o kvs, x = .ref v /\ H1 v = some (itemsV v d) /\ H1 d = some (.frz o (.dT kvs)) /\ R (ItmT d o kvs) H1
theorem pi_itemsTF {X : Cx} {elts : List Expr} {kk : Nat} {p2 : Pos} {e : Expr} {tv : TE} (he : PE X e tv) : PI X (.Tuple elts kk p2) e (iItemsTF tv) := by
 intro pins s σ H R I h
 refine thn (he pins s σ H _ I h) fun u s1 ⟨x, H1, I1, r1, v, d, o, kvs, ex, hv, hd, q⟩ => ?_
 subst ex
 cases r1
 obtain ⟨iv, _, _⟩ := I1.hok v _ hv
 obtain ⟨hg, z, _, xs, rel, o', es, ep, ho', c', dt, r⟩ := (show ObjOk X.prog X.w H1 s1.heap d (.frz o (.dT kvs)) from I1.hok d _ hd)
 rw [hg] at ho'
 cases ho'
 refine EvD.rawI_iter iv ⟨o, hg, c', dt⟩ ?_
 refine ⟨s1.heap.objs.size, [s1.heap.objs.size], _, _, _, rfl, I1.kept (t' := s1.toks) fun b o e => Heap.get?_push_of_some _ e, turn_itemsT d _ o kvs dt, ⟨.none, .none, Heap.get?_push_size _ rfl⟩, fun b hb => ?_, q⟩
 obtain rfl : b = s1.heap.objs.size := by simpa using hb
 exact I1.fpOk (Nat.le_refl _) (I1.hok.fresh (Nat.le_refl _))
theorem for_itemsT {d : Addr} {o : Obj} {kvs : List (List Key × V)} {g : TG} {tb : TS} {D : Ends} {σ : St} {H : Hp} (Pv : Nat -> St -> Hp -> Prop) (h0 : Pv 0 σ H) (hl : ∀ i σ H, i <= kvs.length -> Pv i σ H -> H d = some (.frz o (.dT kvs)))
  (hs : ∀ i k x σ H, kvs[i]? = some (k, x) -> Pv i σ H -> ∀ t b, H t = none -> H b = some (.tup (k.map kV)) -> g (.ref t) σ (upd H t (.tup [.ref b, x])) fun σ2 H2 => tb { D with nx := Pv (i + 1), ct := Pv (i + 1), bk := D.nx } σ2 H2) (hd : ∀ σ H, Pv kvs.length σ H -> D.nx σ H) :
  ∃ W : Nat -> Nat -> St -> Hp -> Prop, (∃ m, W 0 m σ H) /\ ∀ i m σ H, W i m σ H ->
   ((ItmT d o kvs).stop i H /\ D.nx σ H) ∨ ((ItmT d o kvs).go i H /\ ∃ N : St -> Hp -> Prop, (∀ σ' H', N σ' H' -> ∃ m', m' < m /\ W (i + 1) m' σ' H') /\ ∀ x H', (ItmT d o kvs).yld i H x H' -> g x σ H' fun σ2 H2 => tb { D with nx := N, ct := N, bk := D.nx } σ2 H2) := by
 refine ⟨fun i m σ H => m = kvs.length - i /\ i <= kvs.length /\ Pv i σ H, ⟨kvs.length, by simp, Nat.zero_le _, h0⟩, ?_⟩
 rintro i m σ H ⟨rfl, hi, p⟩
 have q := hl i σ H hi p
 by_cases hlt : i < kvs.length
 ·refine .inr ⟨⟨q, hlt⟩, Pv (i + 1), fun σ' H' p' => ⟨kvs.length - (i + 1), by omega, rfl, hlt, p'⟩, fun x H' y => ?_⟩
  obtain ⟨t, b, k, x, rfl, ht, hx, hb, rfl⟩ := y
  exact hs i k x σ H hx p t b ht hb
 ·have e : i = kvs.length := by omega
  subst e
  exact .inl ⟨⟨q, Nat.le_refl _⟩, hd σ H p⟩
def ItkT (d : Addr) (o : Obj) (kvs : List (List Key × V)) : It := ⟨fun i H => H d = some (.frz o (.dT kvs)) /\ i < kvs.length, fun i H y H' => H' = H /\ ∃ b k x, kvs[i]? = some (k, x) /\ H b = some (.tup (k.map kV)) /\ y = .ref b, fun i H => H d = some (.frz o (.dT kvs)) /\ kvs.length <= i⟩
theorem turn_keysT {P : Program} {w : World} {K : PySem.W.Frag} {tg : Expr} (d it : Addr) (o : Obj) (kvs : List (List Key × V)) {es : Array DictEntry} {ep : Nat} (ho : o.data = .dict es ep) : Turn P w K tg (ItkT d o kvs) [it] it (fun i h => i <= es.size /\ h.IsKeyIter it d i es.size ep) where
 mem := by simp
 obj := fun i h st b hb => by
  obtain rfl : b = it := by simpa using hb
  obtain ⟨_, o, e, c, d⟩ := st
  exact ⟨o, e, fun v z => by rw [d] at z; cases z⟩
 keep := fun i h h' st k => ⟨st.1, st.2.at fun o e => k it (by simp) o e⟩
 item := by
  intro X hP hw hK hc i pins s σ H E I hf st hg
  subst hP hw hK
  obtain ⟨hd, hi⟩ := hg
  obtain ⟨l1, _, raw, ent⟩ := raw_frz I hd ho
  obtain ⟨⟨k, x⟩, hx⟩ : ∃ p, kvs[i]? = some p := ⟨kvs[i], by simp [hi]⟩
  obtain ⟨hi3, b0, e1, e2, e3⟩ := ent i k x hx
  obtain ⟨f0, f1, f2, f3, f4, f5⟩ := hf it (by simp)
  refine EvD.raw_next st.2 raw hi3 fun h' st' sb => ?_
  have I1 : Inv X pins σ H { s with heap := h' } := I.turned (t' := s.toks) (fun b o hb e => (sb.2 b hb).trans e) f0 f1 f3 f4 f5
  obtain ⟨o', e, c, dd⟩ := id st'
  exact ⟨es[i].key, rfl, go_of (s := { s with heap := h' }) e c dd (by decide) ⟨.ref b0, H, I1, e1, ⟨rfl, b0, k, x, hx, e2, rfl⟩, ⟨hi3, st'⟩, fun b hb => (hf b hb).1⟩⟩
 done := by
  intro X hP hw hK hc i pins s σ H E I hf st hg
  subst hP hw hK
  obtain ⟨hd, hi⟩ := hg
  obtain ⟨l1, _, raw, ent⟩ := raw_frz I hd ho
  obtain ⟨f0, f1, f2, f3, f4, f5⟩ := hf it (by simp)
  have ei : i = es.size := by have := st.1; omega
  subst ei
  exact EvD.raw_stop (I.ok.hd hc) st.2 raw fun h' eb => ⟨rfl, I.turned (t' := s.toks) (fun b o hb e => eb b o hb e) f0 f1 f3 f4 f5⟩
 self := fun _ _ _ _ _ st h => wpAny_pyIter_keyiter st.2 h
def iKeysT (tv : TE) : TI := fun σ H R => tv σ H fun x H1 => ∃ d kvs, x = .ref d /\ H1 d = some (.dT kvs) /\ ∀ o, R (ItkT d o kvs) (upd H1 d (.frz o (.dT kvs)))
theorem pi_keysT {X : Cx} {tg e : Expr} {tv : TE} (he : PE X e tv) : PI X tg e (iKeysT tv) := by
 intro pins s σ H R I h
 refine thn (he pins s σ H _ I h) fun u s1 ⟨x, H1, I1, r1, d, kvs, ex, hd, q⟩ => ?_
 subst ex
 cases r1
 obtain ⟨o, ho, I2⟩ := I1.freezeT hd
 obtain ⟨z, hne, xs, rel, o', es, ep, ho', c', dt, r⟩ := (show ObjOk X.prog X.w H1 s1.heap d (.dT kvs) from I1.hok d _ hd)
 rw [ho] at ho'
 cases ho'
 refine EvD.raw_iter hne ⟨o, ho, c', dt⟩ ?_
 refine ⟨s1.heap.objs.size, [s1.heap.objs.size], _, _, _, rfl, I2.kept (t' := s1.toks) fun b o e => Heap.get?_push_of_some _ e, turn_keysT d _ o kvs dt, ⟨Nat.zero_le _, _, Heap.get?_push_size _ rfl, rfl, rfl⟩, fun b hb => ?_, q o⟩
 obtain rfl : b = s1.heap.objs.size := by simpa using hb
 exact I2.fpOk (Nat.le_refl _) (I2.hok.fresh (Nat.le_refl _))
def iKeysTF (tv : TE) : TI := fun σ H R => tv σ H fun x H1 => ∃ d o kvs, x = .ref d /\ H1 d = some (.frz o (.dT kvs)) /\ R (ItkT d o kvs) H1
theorem pi_keysTF {X : Cx} {tg e : Expr} {tv : TE} (he : PE X e tv) : PI X tg e (iKeysTF tv) := by
 intro pins s σ H R I h
 refine thn (he pins s σ H _ I h) fun u s1 ⟨x, H1, I1, r1, d, o, kvs, ex, hd, q⟩ => ?_
 subst ex
 cases r1
 obtain ⟨hg, z, hne, xs, rel, o', es, ep, ho', c', dt, r⟩ := (show ObjOk X.prog X.w H1 s1.heap d (.frz o (.dT kvs)) from I1.hok d _ hd)
 rw [hg] at ho'
 cases ho'
 refine EvD.raw_iter hne ⟨o, hg, c', dt⟩ ?_
 refine ⟨s1.heap.objs.size, [s1.heap.objs.size], _, _, _, rfl, I1.kept (t' := s1.toks) fun b o e => Heap.get?_push_of_some _ e, turn_keysT d _ o kvs dt, ⟨Nat.zero_le _, _, Heap.get?_push_size _ rfl, rfl, rfl⟩, fun b hb => ?_, q⟩
 obtain rfl : b = s1.heap.objs.size := by simpa using hb
 exact I1.fpOk (Nat.le_refl _) (I1.hok.fresh (Nat.le_refl _))
theorem for_keysT {d : Addr} {o : Obj} {kvs : List (List Key × V)} {g : TG} {tb : TS} {D : Ends} {σ : St} {H : Hp} (Pv : Nat -> St -> Hp -> Prop) (h0 : Pv 0 σ H) (hl : ∀ i σ H, i <= kvs.length -> Pv i σ H -> H d = some (.frz o (.dT kvs)))
  (hs : ∀ i k x σ H, kvs[i]? = some (k, x) -> Pv i σ H -> ∀ b, H b = some (.tup (k.map kV)) -> g (.ref b) σ H fun σ2 H2 => tb { D with nx := Pv (i + 1), ct := Pv (i + 1), bk := D.nx } σ2 H2) (hd : ∀ σ H, Pv kvs.length σ H -> D.nx σ H) :
  ∃ W : Nat -> Nat -> St -> Hp -> Prop, (∃ m, W 0 m σ H) /\ ∀ i m σ H, W i m σ H ->
   ((ItkT d o kvs).stop i H /\ D.nx σ H) ∨ ((ItkT d o kvs).go i H /\ ∃ N : St -> Hp -> Prop, (∀ σ' H', N σ' H' -> ∃ m', m' < m /\ W (i + 1) m' σ' H') /\ ∀ x H', (ItkT d o kvs).yld i H x H' -> g x σ H' fun σ2 H2 => tb { D with nx := N, ct := N, bk := D.nx } σ2 H2) := by
 refine ⟨fun i m σ H => m = kvs.length - i /\ i <= kvs.length /\ Pv i σ H, ⟨kvs.length, by simp, Nat.zero_le _, h0⟩, ?_⟩
 rintro i m σ H ⟨rfl, hi, p⟩
 have q := hl i σ H hi p
 by_cases hlt : i < kvs.length
 ·refine .inr ⟨⟨q, hlt⟩, Pv (i + 1), fun σ' H' p' => ⟨kvs.length - (i + 1), by omega, rfl, hlt, p'⟩, fun x H' y => ?_⟩
  obtain ⟨rfl, b, k, v, hx, hb, rfl⟩ := y
  exact hs i k v σ _ hx p b hb
 ·have e : i = kvs.length := by omega
  subst e
  exact .inl ⟨⟨q, Nat.le_refl _⟩, hd σ H p⟩
theorem comp_keysT {d : Addr} {o : Obj} {kvs : List (List Key × V)} {g : TG} {tc : TT} {te : TE} {own : Nat} {fv : List (Option V)} {dec : V -> Hp -> List (Option V) -> Prop} {D : Addr} {H : Hp} {Q : VK} {σ0 : St} (hσ : σ0 = List.replicate own none ++ fv) (G : GOk g own fv dec) (Pv : Nat -> List V -> Hp -> Prop)
  (h0 : Pv 0 [] (upd H D (.lst []))) (hl : ∀ i out H', i <= kvs.length -> Pv i out H' -> H' d = some (.frz o (.dT kvs))) (hd : ∀ out H', Pv kvs.length out H' -> Q (.ref D) H')
  (hgo : ∀ i k x b out H', kvs[i]? = some (k, x) -> H' b = some (.tup (k.map kV)) -> Pv i out H' -> ∃ o3, dec (.ref b) H' o3 /\ o3.length = own /\ ∀ Nx : Hp -> Prop, (∀ out' H2, Pv (i + 1) out' H2 -> Nx H2) ->
   tc (o3 ++ fv) H' fun b H4 => if b = true then te (o3 ++ fv) H4 fun y H5 => ∃ out2, H5 D = some (.lst out2) /\ out2.length < sizeLine /\ Nx (upd H5 D (.lst (out2 ++ [y]))) else Nx H4) :
  CompW (ItkT d o kvs) g tc te σ0 D H Q := by
 refine comp_it hσ G kvs.length Pv h0 (fun out H' p => ⟨⟨hl _ _ _ (Nat.le_refl _) p, Nat.le_refl _⟩, hd out H' p⟩) fun i out H' hi p => ?_
 have q := hl i out H' (Nat.le_of_lt hi) p
 refine ⟨⟨q, hi⟩, fun x H2 y => ?_⟩
 obtain ⟨e, b, k, v, hx, hb, rfl⟩ := y
 subst e
 exact hgo i k v b out _ hx hb p
def tThawT (t : TE) : TE := fun σ H Q => ∃ d kvs, H d = some (.dT kvs) /\ t σ H fun v H1 => ∃ o, H1 d = some (.frz o (.dT kvs)) /\ Q v (upd H1 d (.dT kvs))
theorem pe_thawT {X : Cx} {e : Expr} {t : TE} (h : PE X e t) : PE X e (tThawT t) := by
 intro pins s σ H Q I q
 obtain ⟨d, kvs, hd, q⟩ := q
 refine thn (h pins s σ H _ I q) fun u s' ⟨v, H1, I1, r, o, hf, q1⟩ => ⟨v, _, I1.thawT hf (fun o u z => ?_), r, q1⟩
 have := I.base.frzs _ _ _ z
 rw [hd] at this
 cases this
def tThawST (t : TS) : TS := fun D σ H => ∃ d kvs, H d = some (.dT kvs) /\ t { nx := fun σ1 H1 => ∃ o, H1 d = some (.frz o (.dT kvs)) /\ D.nx σ1 (upd H1 d (.dT kvs)), rt := fun v H1 => ∃ o, H1 d = some (.frz o (.dT kvs)) /\ D.rt v (upd H1 d (.dT kvs)) } σ H
theorem ps_thawT {X : Cx} {st : Stmt} {t : TS} (h : PS X st t) : PS X st (tThawST t) := by
 intro pins s σ H D I q
 obtain ⟨d, kvs, hd, q⟩ := q
 have nf : ∀ o u, X.H₀ d ≠ some (.frz o u) := fun o u z => by
  have := I.base.frzs _ _ _ z
  rw [hd] at this
  cases this
 refine thn (h pins s σ H _ I q) fun f s' p => ?_
 cases f with
 | next =>
  obtain ⟨σ1, H1, I1, o, hf, q1⟩ := p
  exact ⟨σ1, _, I1.thawT hf nf, q1⟩
 | brk =>
  obtain ⟨σ1, H1, I1, q1⟩ := p
  exact False.elim q1
 | cont =>
  obtain ⟨σ1, H1, I1, q1⟩ := p
  exact False.elim q1
 | ret u =>
  obtain ⟨v, σ1, H1, I1, r, o, hf, q1⟩ := p
  exact ⟨v, σ1, _, I1.thawT hf nf, r, q1⟩
def tViewT (td : TE) : TE := fun σ H Q => td σ H fun x H1 => ∃ d kvs, x = .ref d /\ Rd H1 d (.dT kvs) /\ ∀ v, H1 v = none -> Q (.ref v) (upd H1 v (itemsV v d))
theorem pe_itemsT {X : Cx} {o : Expr} {td : TE} {apos cpos : Pos} (ho : PE X o td) (hbase : attributeBase o "items" X.env (eval o X.env) = eval o X.env := by rfl) (hline : (apos.endLine == cpos.line) = true := by rfl) : PE X (.Call (.Attribute o "items" apos) [] [] cpos) (tViewT td) := by
 intro pins s σ H Q I h
 refine wpAny_Call_method0_late hbase hline (thn (ho pins s σ H _ I h) fun v s1 ⟨x, H1, I1, r1, d, kvs, e, hd, q⟩ => ?_)
 subst e
 cases r1
 obtain ⟨t1, t2, t3⟩ := isD_at I1 (.inr ⟨kvs, hd⟩)
 obtain ⟨_, _, xs, rel, oo, es, ep, h1, h2, h3, _⟩ := (show ObjOk X.prog X.w H1 s1.heap d (.dT kvs) from rd_of I1.hok hd)
 refine ⟨"dict", "dict.items", PySem.F.plainAttrs_dict, PySem.F.slot_dict_items, PySem.F.type_dict_items, t1, t2, Calls.callWith_builtin rfl (PySem.evalArgs_none ?_)⟩
 refine call_meetsIn PySem.F.slot_dict_items t1 PySem.F.entry_dict_items (PySem.F.args_dict_items_1 _) (EvD.rawI_view d t3) ⟨⟨es, ep, oo, h1, h2, h3⟩, ?_⟩
 exact ⟨.ref _, _, view_ok I1 _ ⟨_, Heap.get?_push_size _ rfl, rfl, rfl⟩ fun h1 h2 ⟨o, e, r⟩ k => ⟨o, k o e, r⟩, rfl, q _ I1.fresh⟩
end L2
set_option Elab.async false
set_option linter.all false
set_option maxRecDepth 100000
namespace EvD
open PySem PySem.W PyProof.Rows
section
variable {prog : Program} {w : World} {K : Type} [DecidableEq K] {knd : PySem.HeapKind prog w K} {A : Around}
def PairsH (knd : PySem.HeapKind prog w K) (h : Heap) : List Value -> List (K × Addr × Value) -> Prop := Paired fun v p => ∃ a, v = .ref a /\ IsTup h a #[.ref p.2.1, p.2.2] /\ knd.is h p.1 p.2.1
def mergeH (xs ps : List (K × Addr × Value)) : List (K × Addr × Value) := ps.foldl (fun acc p => storedH acc p.1 p.2.1 p.2.2) xs
theorem storedH_len (xs : List (K × Addr × Value)) (k : K) (a : Addr) (v : Value) : (storedH xs k a v).length <= xs.length + 1 := by
 unfold storedH
 split
 ·simp
 ·simp
theorem dictH_stay {h h' : Heap} {d : Addr} {xs : List (K × Addr × Value)} (q : h.DictOfH knd d xs) (k : ∀ o, h.get? d = some o -> h'.get? d = some o) (t : ∀ x a, knd.is h x a -> knd.is h' x a) : h'.DictOfH knd d xs := by
 obtain ⟨o, es, ep, ho, h1, h2, h3, h4, h5⟩ := q
 exact ⟨o, es, ep, k _ ho, h1, h2, h3, fun x hx => t _ _ (h4 x hx), h5⟩
def Firm (knd : PySem.HeapKind prog w K) : Prop := ∀ (h h' : Heap) (x : K) (a : Addr), knd.is h x a -> (∀ o, h.get? a = some o -> h'.get? a = some o) -> knd.is h' x a
def OfTup (knd : PySem.HeapKind prog w K) : Prop := ∀ (h : Heap) (x : K) (a : Addr), knd.is h x a -> ∃ ys, IsTup h a ys
theorem tupH_ne {h : Heap} {b d : Addr} {ys : Array Value} {xs : List (K × Addr × Value)} (t : IsTup h b ys) (q : h.DictOfH knd d xs) : b ≠ d := fun z => by
 obtain ⟨o, ho, hc, _⟩ := t
 obtain ⟨o2, es, ep, ho2, hc2, _⟩ := q
 subst z
 rw [ho] at ho2
 cases ho2
 have hc3 := hc2.1
 rw [hc] at hc3
 exact absurd hc3 (by decide)
theorem uplH_go {it l d : Addr} (fm : Firm knd) (ot : OfTup knd) (hu : knd.room A.in1) (hil : l ≠ it) (hdi : d ≠ it) (hdl : d ≠ l) (hh : A.handled = none) {its : List Value} (rest : List Value) : ∀ (ps : List (K × Addr × Value)) (i : Nat) (xs : List (K × Addr × Value)) (s : Shared) (R : Result -> Shared -> Prop) (tk : Tok), its.drop i = rest -> PairsH knd s.heap rest ps ->
  s.heap.IsListIter it l i -> s.heap.IsList l its.toArray -> s.heap.DictOfH knd d xs -> xs.length + ps.length <= 1000 ->
  (∀ h' tk', h'.DictOfH knd d (mergeH xs ps) -> (∀ b o, b ≠ d -> b ≠ it -> s.heap.get? b = some o -> h'.get? b = some o) -> R (.ok (.ret .none)) { s with heap := h', toks := tk' }) ->
  codeAny (model prog w) A (.builtin "dict.update.loop" ⟨[.ref d, .ref it, .int i tk, .none], []⟩) R s := by
 induction rest with
 | nil =>
  intro ps i xs s R tk e hp hit hl hd hz hR
  cases hp
  have hi : its.toArray[i]? = none := by
   have := congrArg List.length e
   simp only [List.length_drop, List.length_nil] at this
   simp
   omega
  refine codeAny_builtin entry_upl ?_
  rw [Around.under_plainId plain_upl _, upl_eq]
  refine wpAny_bind (wpAny_pyNext_list_end hh hit hl hi fun h' he => ?_)
  refine wpAny_bind (m := Builtin.Dict.addKeywords d []) (wpAny_pure (wpAny_pure (hR h' s.toks (dictH_stay hd (fun o q => he _ _ hdi q) fun x a q => fm _ _ _ _ q fun o e => he _ _ ?_ e) fun b o _ hb q => he b o hb q)))
  obtain ⟨ys, t⟩ := ot _ _ _ q
  exact tup_ne_iter t hit
 | cons v rest ih =>
  intro ps i xs s R tk e hp hit hl hd hz hR
  cases hp with
  | @cons _ p _ ps h0 hr =>
  obtain ⟨a, hv, ht, hk⟩ := h0
  obtain ⟨k, ka, x⟩ := p
  subst hv
  have hi : its.toArray[i]? = some (.ref a) := by
   have q : (its.drop i)[0]? = some (.ref a) := by rw [e]; rfl
   rw [List.getElem?_drop] at q
   simpa using q
  have e' : its.drop (i + 1) = rest := by
   rw [<- List.drop_drop, e]
   rfl
  simp only [List.length_cons] at hz
  refine codeAny_builtin entry_upl ?_
  rw [Around.under_plainId plain_upl _, upl_eq]
  refine wpAny_bind (wpAny_pyNext_list_item hit hl hi fun h1 hit1 hs1 => ?_)
  obtain ⟨oo, hot, hct, nt, hdt⟩ := id ht
  have hot1 : h1.get? a = some oo := hs1.extBut _ _ (tup_ne_iter ht hit) hot
  refine wpAny_bind (wpAny_holding (wpAny_bind (wpAny_tryCatch ?_)))
  unfold Builtin.Dict.pairItems
  refine wpAny_bind (wpAny_typeOf (T := "tuple") ⟨oo, hot1, hct⟩ ?_)
  rw [if_pos (by decide)]
  unfold seqItems?
  refine wpAny_bind (wpAny_bind (wpAny_load hot1 ?_))
  rw [hdt]
  refine wpAny_pure (wpAny_pure ?_)
  have key1 : ∀ x a, knd.is s.heap x a -> knd.is h1 x a := fun x a q => fm _ _ _ _ q fun o e => by
   obtain ⟨ys, t⟩ := ot _ _ _ q
   exact hs1.extBut _ _ (tup_ne_iter t hit) e
  have hd1 : h1.DictOfH knd d xs := dictH_stay hd (fun o q => hs1.extBut _ _ hdi q) key1
  refine (show wpAny _ _ (holding [Value.ref ka, x] (dictSet d (.ref ka) x)) _ _ _ from wpAny_holding (wpAny_dictSet_heap hu (key1 _ _ hk) hd1 (fun h2 hd2 hs2 => ?_) (by have := sizeLine_eq; omega)))
  have kp : ∀ b o, b ≠ d -> b ≠ it -> s.heap.get? b = some o -> h2.get? b = some o := fun b o h3 h4 q => hs2.extBut _ _ h3 (hs1.extBut _ _ h4 q)
  have hit2 := hit1.extBut hs2.extBut (Ne.symm hdi)
  have c1 : ((i : Int) + 1) = ((i + 1 : Nat) : Int) := by omega
  rw [c1]
  refine wpAny_pure ⟨plainId_quiet plain_upl _, ?_⟩
  refine ih ps (i + 1) (storedH xs k ka x) { s with heap := h2, toks := s.toks + knd.draws k } R 0 e' (L2.Paired.mapP hr fun v p ⟨b, e1, t1, k1⟩ => ⟨b, e1, ?_, fm _ _ _ _ k1 fun o q => ?_⟩) hit2 (hl.at fun o q => kp _ _ (Ne.symm hdl) hil q) hd2 (by have := storedH_len xs k ka x; omega) fun h' tk' hd' kp' => hR h' tk' hd' fun b o h3 h4 q => kp' b o h3 h4 (kp b o h3 h4 q)
  ·obtain ⟨o, ho, r⟩ := id t1
   exact ⟨o, kp _ _ (tupH_ne t1 hd) (tup_ne_iter t1 hit) ho, r⟩
  ·obtain ⟨ys, t⟩ := ot _ _ _ k1
   exact kp _ _ (tupH_ne t hd) (tup_ne_iter t hit) q
theorem call_dict_ofH {E : Value -> Shared -> Prop} {s : Shared} {l : Addr} {its : List Value} {n : Nat} {ps : List (K × Addr × Value)} {Q : Value -> Shared -> Prop} (fm : Firm knd) (ot : OfTup knd) (hu : knd.room A.in1.in1) (hh : A.handled = none) (ho : s.heap.get? l = some (seqObj "list" its.toArray n)) (hp : PairsH knd s.heap its ps) (hz : ps.length <= 1000)
  (h : ∀ h' tk', h'.DictOfH knd s.heap.objs.size (mergeH [] ps) -> (∀ b o, s.heap.get? b = some o -> h'.get? b = some o) -> Q (.ref s.heap.objs.size) { s with heap := h', toks := tk' }) :
  wpAny (model prog w) A (call (.type "dict") [.ref l]) Q E s := by
 refine callType_codes (Q₁ := fun obj s₁ => obj = .ref s.heap.objs.size /\ s₁ = { s with heap := s.heap.push { cls := .type "dict", data := .dict #[] } }) F.kt_called_dict (F.kt_typeCall_dict_1 _) F.entry_dict_init (kt_code_dict_new _ ⟨rfl, rfl⟩) ?_
 rintro obj s₁ ⟨rfl, rfl⟩
 have hnew : (s.heap.push { cls := .type "dict", data := .dict #[] }).DictOfH knd s.heap.objs.size [] := Heap.DictOfH.new s.heap
 have hl1 : (s.heap.push { cls := .type "dict", data := .dict #[] }).get? l = some (seqObj "list" its.toArray n) := Heap.get?_push_of_some _ ho
 refine ⟨hnew.typeIs, F.args_dict_init_2 _ _, ?_⟩
 unfold Builtin.«dict.__init__» Builtin.Dict.selfAndRest
 refine wpAny_bind (wpAny_bind (wpAny_notOrdered_dict hnew.typeIs ?_))
 refine (show wpAny _ _ (pure (s.heap.objs.size, [Value.ref l])) _ _ _ from wpAny_pure ?_)
 refine (show wpAny _ _ (Builtin.Dict.updateFrom "dict.__init__" s.heap.objs.size (.ref l) [] .none) _ _ _ from ?_)
 unfold Builtin.Dict.updateFrom
 refine wpAny_bind (wpAny_typeOf (T := "list") ⟨_, hl1, rfl⟩ ?_)
 rw [if_pos (by decide)]
 refine wpAny_bind (noKeys hl1 hh fun h2 tk2 k2 => ?_)
 simp only [Option.isNone_none, if_true]
 have hl2 : h2.get? l = some (seqObj "list" its.toArray n) := k2 _ _ hl1
 refine wpAny_bind (wpAny_rule (wpAny_bind (wpAny_pyIter_list ⟨_, hl2, rfl, _, rfl⟩ ?_)))
 refine wpAny_pure ⟨plainId_quiet plain_upl _, ?_⟩
 have all : ∀ {b o}, s.heap.get? b = some o -> (h2.push { cls := .type "list_iterator", data := .fields #[.ref l, .int 0 0] }).get? b = some o := fun q => Heap.get?_push_of_some _ (k2 _ _ (Heap.get?_push_of_some _ q))
 obtain ⟨o1, es1, ep1, ho1, r1, r2, r3, r4, r5⟩ := hnew
 have sz2 : s.heap.objs.size < h2.objs.size := Heap.lt_size (k2 _ _ ho1)
 have lz : l < s.heap.objs.size := Heap.lt_size ho
 refine uplH_go (A := A.in1) (knd := knd) (its := its) (it := h2.objs.size) (l := l) (d := s.heap.objs.size) fm ot hu (Nat.ne_of_lt (Nat.lt_trans lz sz2)) (Nat.ne_of_lt sz2) (Nat.ne_of_gt lz) hh its ps 0 [] _ _ 0 rfl (L2.Paired.mapP hp fun v p ⟨b, e1, t1, k1⟩ => ⟨b, e1, t1.keeps fun b o q => all q, fm _ _ _ _ k1 fun o q => all q⟩)
  ⟨_, Heap.get?_push_size _ rfl, rfl, rfl⟩ ⟨_, Heap.get?_push_of_some _ hl2, rfl, _, rfl⟩ ⟨o1, es1, ep1, Heap.get?_push_of_some _ (k2 _ _ ho1), r1, r2, r3, (by intro x hx; cases hx), r5⟩ (by simpa using hz) fun h' tk' hd' kp => ⟨rfl, h h' tk' hd' fun b o q => ?_⟩
 have bl : b < s.heap.objs.size := Heap.lt_size q
 exact kp b o (Nat.ne_of_lt bl) (Nat.ne_of_lt (Nat.lt_trans bl sz2)) (all q)
end
theorem firm_tup {prog : Program} {w : World} {K : Type} [DecidableEq K] (k : PySem.KeyKind prog w K) : Firm (tupleKind k) := fun h h' x a q e => by
 obtain ⟨o, ys, n, h1, h2⟩ := q
 exact ⟨o, ys, n, e o h1, h2⟩
theorem ofTup_tup {prog : Program} {w : World} {K : Type} [DecidableEq K] (k : PySem.KeyKind prog w K) : OfTup (tupleKind k) := fun h x a q => by
 obtain ⟨o, ys, n, h1, h2, h3, _⟩ := q
 exact ⟨ys, o, h1, h2, n, h3⟩
end EvD
namespace L2
open PySem PySem.Spec PyProof.Rows PySem.W
def PairsT (H : Hp) : List V -> List (List Key × V) -> Prop := Paired fun y p => ∃ a b, y = V.ref a /\ H a = some (.tup [.ref b, p.2]) /\ H b = some (.tup (p.1.map kV))
def mergeT (kvs more : List (List Key × V)) : List (List Key × V) := more.foldl (fun acc kv => putK acc kv.1 kv.2) kvs
theorem KT.mergeH {H : Hp} : ∀ {more : List (List Key × V)} {rs : List (List Key × Addr × Value)} {kvs : List (List Key × V)} {xs : List (List Key × Addr × Value)}, KT H more rs -> KT H kvs xs -> KT H (mergeT kvs more) (EvD.mergeH xs rs) := fun {more rs kvs xs} h => by
 induction h generalizing kvs xs with
 | nil => exact fun h => h
 | @cons p q _ _ h _ ih =>
  intro h2
  obtain ⟨k, y⟩ := p
  obtain ⟨k', b, u⟩ := q
  obtain ⟨h1, h3, h4⟩ := h
  have h1 : k = k' := h1
  subst h1
  exact ih (h2.put k h3 h4)
theorem length_mergeT : ∀ (more kvs : List (List Key × V)), (mergeT kvs more).length <= kvs.length + more.length
 | [], kvs => Nat.le_refl _
 | kv :: more, kvs => by
  have h1 := length_mergeT more (putK kvs kv.1 kv.2)
  have h2 := length_putK kvs kv.1 kv.2
  show (mergeT (putK kvs kv.1 kv.2) more).length <= _
  simp only [List.length_cons]
  omega
def rDictOfT : List V -> Hp -> VK -> Prop := fun xs H Q => ∃ p ys kvs, xs = [.ref p] /\ H p = some (.lst ys) /\ PairsT H ys kvs /\ kvs.length <= 1000 /\ ∀ l, H l = none -> Q (.ref l) (upd H l (.dT (mergeT [] kvs)))
theorem call_dictOfT {X : Cx} (hc : X.calm = true) (hu : X.A.units + 2 < cLine) : CallR X (.type "dict") rDictOfT := by
 intro pins s σ H xs us Q I r h
 obtain ⟨p, ys, kvs, rfl, hp, t, hz, q⟩ := h
 obtain ⟨u, rfl, ru⟩ := vals1 r
 cases ru
 obtain ⟨z, its, n, rv, hl, ho⟩ := I.lstM hp
 have gen : ∀ {ys : List V} {its : List Value} {kvs : List (List Key × V)}, Vals ys its -> PairsT H ys kvs -> ∃ ps, KT H kvs ps /\ EvD.PairsH (tupleKind (mixKind X.prog X.w)) s.heap its ps := fun {ys its kvs} rv t => by
  induction t generalizing its with
  | nil =>
   cases rv
   exact ⟨[], .nil, .nil⟩
  | @cons y p ys kvs h t ih =>
   cases rv with
   | cons r0 rv =>
    obtain ⟨ps, h1, h2⟩ := ih rv
    obtain ⟨a, b, e, sq, sb⟩ := h
    subst e
    cases r0
    obtain ⟨tv, rt, it, _⟩ := I.tuple (SqT.of sq)
    obtain ⟨key, x, e2, rk, rx⟩ := vals2 rt
    subst e2
    cases (show key = Value.ref b from rk)
    refine ⟨(p.1, b, x) :: ps, Paired.cons (show p.1 = p.1 /\ H b = some (.tup (p.1.map kV)) /\ RelV p.2 x from ⟨rfl, sb, rx⟩) h1, Paired.cons (show ∃ a', Value.ref a = .ref a' /\ IsTup s.heap a' #[.ref b, x] /\ (tupleKind (mixKind X.prog X.w)).is s.heap p.1 b from ⟨a, rfl, it, key_of I.hok sb⟩) h2⟩
 obtain ⟨ps, h1, h2⟩ := gen rv t
 have lp := Paired.length h1
 refine EvD.call_dict_ofH (knd := tupleKind (mixKind X.prog X.w)) (EvD.firm_tup _) (EvD.ofTup_tup _) (tupleKind_room_in1 (A := X.A.in1) (by show X.A.units + 1 + 1 < cLine; omega)) (I.ok.hd hc) ho h2 (by omega) fun h' tk hd kp => ?_
 obtain ⟨q1, es, ep, hq, g2, g3, g4, _, g5⟩ := hd
 refine ⟨.ref s.heap.objs.size, _, I.laid (t' := tk) kp (Nat.le_refl _) (show ObjOk X.prog X.w _ h' _ (.dT (mergeT [] kvs)) from ⟨?_, beq_eq_false_iff_ne.mpr (Ne.symm (Nat.ne_of_lt I.big)), _, (KT.mergeH h1 .nil).keeps fun c ys ec => ?_, q1, es, ep, hq, g2, g3, g4, g5⟩), rfl, q _ I.fresh⟩
 ·have := length_mergeT kvs []
  have := sizeLine_eq
  simp only [List.length_nil] at *
  omega
 ·rw [upd_ne (ne_of_none ec I.fresh)]
  exact ec
theorem mergeT_nd : ∀ (more kvs : List (List Key × V)), ((kvs ++ more).map (·.1)).Nodup -> mergeT kvs more = kvs ++ more
 | [], kvs, _ => (List.append_nil _).symm
 | kv :: more, kvs, nd => by
  show mergeT (putK kvs kv.1 kv.2) more = _
  have e : putK kvs kv.1 kv.2 = kvs ++ [kv] := by
   unfold putK
   rw [if_neg]
   intro h
   obtain ⟨q, hq, e⟩ := List.any_eq_true.mp h
   have e := of_decide_eq_true e
   rw [List.map_append, List.nodup_append] at nd
   exact nd.2.2 q.1 (List.mem_map_of_mem hq) kv.1 (by simp) e
  rw [e, mergeT_nd more (kvs ++ [kv]) (by simpa using nd)]
  simp
end L2
set_option Elab.async false
set_option linter.all false
set_option maxRecDepth 100000
namespace Ev
open PySem L2
def tKV (es : List Te) (g : Te -> V) : List (List Key × V) := es.map fun t => (kT t, g t)
theorem tKV_len (es : List Te) (g : Te -> V) : (tKV es g).length = es.length := List.length_map _
theorem tKV_get {es : List Te} {g : Te -> V} {t : Te} (h : t ∈ es) : valV (tKV es g) (kT t) = some (g t) := by
 induction es with
 | nil => cases h
 | cons m es ih =>
  by_cases e : m = t
  ·subst e
   exact valV_pos rfl
  ·have : valV (tKV (m :: es) g) (kT t) = valV (tKV es g) (kT t) := valV_neg fun z => e (kT_inj z)
   rw [this]
   rcases List.mem_cons.mp h with z | z
   ·exact absurd z.symm e
   ·exact ih z
theorem tKV_at {es : List Te} {g : Te -> V} {i : Nat} {k : List Key} {x : V} (h : (tKV es g)[i]? = some (k, x)) : ∃ t, es[i]? = some t /\ k = kT t /\ x = g t := by
 unfold tKV at h
 rw [List.getElem?_map] at h
 obtain ⟨t, ht, e⟩ := Option.map_eq_some_iff.mp h
 cases e
 exact ⟨t, ht, rfl, rfl⟩
theorem kT_nodup {es : List Te} (h : es.Nodup) (g : Te -> V) : ((tKV es g).map (·.1)).Nodup := by
 unfold tKV
 rw [List.map_map]
 exact List.Pairwise.map (R := fun a b : Te => a ≠ b) _ (fun a b ne z => ne (kT_inj z)) h
structure FzT (d : Addr) (o : Obj) (kvs : List (List Key × V)) (H H' : Hp) : Prop where
 at_ : H' d = some (.frz o (.dT kvs))
 sm : ∀ b u, b ≠ d -> H b = some u -> H' b = some u
section
variable {d : Addr} {o : Obj} {kvs : List (List Key × V)} {H H' H2 : Hp}
theorem FzT.start : FzT d o kvs H (upd H d (.frz o (.dT kvs))) := ⟨upd_same, fun b u ne e => by rw [upd_ne ne]; exact e⟩
theorem FzT.step (f : FzT d o kvs H H') (s : Same H' H2) : FzT d o kvs H H2 := ⟨s _ _ f.at_, fun b u ne e => s _ _ (f.sm b u ne e)⟩
theorem FzT.thaw (f : FzT d o kvs H H') (hd : H d = some (.dT kvs)) : Same H (upd H' d (.dT kvs)) := fun b u e => by
 by_cases z : b = d
 ·subst z
  rw [hd] at e
  cases e
  exact upd_same
 ·rw [upd_ne z]
  exact f.sm b u z e
theorem FzT.tup (f : FzT d o kvs H H') (hd : H d = some (.dT kvs)) {b : Addr} {xs : List V} (e : H b = some (.tup xs)) : H' b = some (.tup xs) := f.sm b _ (ne_of e hd (by intro z; cases z)) e
end
def GaV (H : Hp) (ga : Te -> Addr) (es : List Te) (c : Te -> Int) (D : Int) : Prop := ∀ t ∈ es, FrAt H (ga t) (fr (c t) D)
theorem GaV.same {H H' : Hp} {ga : Te -> Addr} {es : List Te} {c : Te -> Int} {D : Int} (h : GaV H ga es c D) (s : Same H H') : GaV H' ga es c D := fun t ht => (h t ht).same s
def TS (H H' : Hp) : Prop := ∀ b xs, H b = some (.tup xs) -> H' b = some (.tup xs)
theorem TS.of {H H' : Hp} (s : Same H H') : TS H H' := fun b xs e => s b _ e
theorem TS.trans {H H1 H2 : Hp} (a : TS H H1) (b : TS H1 H2) : TS H H2 := fun c xs e => b c xs (a c xs e)
theorem TS.lst {H : Hp} {R : Addr} {ys : List V} {o : HO} (h : H R = some (.lst ys)) : TS H (upd H R o) := fun b xs e => by
 rw [upd_ne (ne_of e h (by intro z; cases z))]
 exact e
theorem TS.dk {H : Hp} {R : Addr} {ys : List (Key × V)} {o : HO} (h : H R = some (.dK ys)) : TS H (upd H R o) := fun b xs e => by
 rw [upd_ne (ne_of e h (by intro z; cases z))]
 exact e
theorem TS.dt {H : Hp} {R : Addr} {ys : List (List Key × V)} {o : HO} (h : H R = some (.dT ys)) : TS H (upd H R o) := fun b xs e => by
 rw [upd_ne (ne_of e h (by intro z; cases z))]
 exact e
theorem GaV.ts {H H' : Hp} {ga : Te -> Addr} {es : List Te} {c : Te -> Int} {D : Int} (h : GaV H ga es c D) (s : TS H H') : GaV H' ga es c D := fun t ht => s _ _ (h t ht)
theorem pairsT_ts {H H' : Hp} {ys : List V} {kvs : List (List Key × V)} (h : PairsT H ys kvs) (s : TS H H') : PairsT H' ys kvs := Paired.mapP h fun y p ⟨a, b, e, h1, h2⟩ => ⟨a, b, e, s _ _ h1, s _ _ h2⟩
theorem tKV_more {es : List Te} {i : Nat} {t : Te} (nd : es.Nodup) (ht : es[i]? = some t) (ga : Te -> Addr) (b : Addr) : tKV (es.take (i + 1)) (fun u => .ref (if u = t then b else ga u)) = tKV (es.take i) (fun u => .ref (ga u)) ++ [(kT t, .ref b)] := by
 have e := take_succ_map (fun u : Te => (kT u, V.ref (if u = t then b else ga u))) ht
 unfold tKV
 rw [e]
 have n : t ∉ es.take i := by
  obtain ⟨hi, rfl⟩ := List.getElem?_eq_some_iff.mp ht
  intro z
  obtain ⟨j, hj, ej⟩ := List.getElem_of_mem z
  rw [List.getElem_take] at ej
  have := (List.getElem_inj nd).mp ej
  rw [List.length_take] at hj
  omega
 rw [List.map_congr_left (g := fun u : Te => (kT u, V.ref (ga u))) fun u hu => by
  have z : ¬ u = t := fun z => n (by rw [<- z]; exact hu)
  rw [if_neg z]]
 simp
theorem GaV.more {H : Hp} {es : List Te} {i : Nat} {t : Te} {ga : Te -> Addr} {c : Te -> Int} {D : Int} {b : Addr} (ht : es[i]? = some t) (h : GaV H ga (es.take i) c D) (hb : FrAt H b (fr (c t) D)) : GaV H (fun u => if u = t then b else ga u) (es.take (i + 1)) c D := fun u hu => by
 by_cases e : u = t
 ·subst e
  simp only [if_true]
  exact hb
 ·simp only [if_neg e]
  obtain ⟨hi, rfl⟩ := List.getElem?_eq_some_iff.mp ht
  rw [List.take_succ_eq_append_getElem hi] at hu
  rcases List.mem_append.mp hu with hu | hu
  ·exact h u hu
  ·exact absurd (by simpa using hu) e
theorem sm_fr {D k : Int} (hD : 0 < D) (hb : D < 2 ^ 82) (h0 : 0 <= k) (h1 : k < 2 ^ 200) : sm (fr k D) := by
 obtain ⟨⟨_, b, c⟩, _, d, e⟩ := cr_fr hD h0
 exact ⟨⟨c, by omega⟩, b, by omega⟩
theorem lt_fr {D a b : Int} (hD : 0 < D) (ha : 0 <= a) (hb : 0 <= b) : ltF (fr a D) (fr b D) = decide (a < b) := decide_eq_decide.mpr ((cr_fr hD ha).1.lt hD (cr_fr hD hb).1)
section
variable {P : Program} {w : World} {K : PySem.W.Frag} {mg : Str -> Option Value} {base : Heap}
theorem scSum2 : FnScope ["one", "other"] ["one", "other"] (defScope sSum2) := ⟨rfl, rfl, rfl, by decide +kernel, rfl, by decide +kernel, by decide +kernel⟩
def spSum2 : Sp := fun vs H Q _ => ∃ (a b : Addr) (D x y : Int), vs = [.ref a, .ref b] /\ FrAt H a (fr x D) /\ FrAt H b (fr y D) /\ 0 < D /\ D < 2 ^ 82 /\ 0 <= x /\ x < 2 ^ 190 /\ 0 <= y /\ y < 2 ^ 190 /\ ∀ t, H t = none -> Q (.ref t) (upd H t (.tup [.int (fr (x + y) D).1, .int (fr (x + y) D).2]))
theorem ok_sum2 {f : Addr} {fd : FuncData} (F : Fun K "sum_of_two" "sum_of_two" sSum2 f fd) (cF : Cal P w K mg base 2 "fraction_of" ["top", "below"] spFrac) : FnOk P w K mg base CX0 3 f fd ["one", "other"] spSum2 := by
 refine F.ok scSum2 (fun vs H Q E h => ?_) (fun cdv A outer s H vs Q E hr h => ?_)
 ·obtain ⟨a, b, D, x, y, rfl, _⟩ := h
  rfl
 ·obtain ⟨a, b, D, x, y, rfl, ha, hb, D0, D1, x0, x1, y0, y1, k⟩ := h
  refine ⟨_, pss_one (ps_ret (pe_fn cF hr (pa_cons (pe_op op_add (pe_op op_mulL (pe_ix ix_tup (pv 0) pe_int (fun _ _ => rfl)) (pe_ix ix_tup (pv 1) pe_int (fun _ _ => rfl))) (pe_op op_mulL (pe_ix ix_tup (pv 1) pe_int (fun _ _ => rfl)) (pe_ix ix_tup (pv 0) pe_int (fun _ _ => rfl)))) (pa_cons (pe_op op_mulL (pe_ix ix_tup (pv 0) pe_int (fun _ _ => rfl)) (pe_ix ix_tup (pv 1) pe_int (fun _ _ => rfl))) pa_nil)))), ?_⟩
  have cx := (cr_fr D0 x0).1
  have cy := (cr_fr D0 y0).1
  have bx := (cr_fr D0 x0).2.2.2
  have by' := (cr_fr D0 y0).2.2.2
  have mx := sm_fr D0 D1 x0 (by omega)
  have my := sm_fr D0 D1 y0 (by omega)
  have cs := cx.add cy
  have e := cs.fr D0 (by omega)
  unfold sm at mx my
  generalize fr x D = p at *
  generalize fr y D = q at *
  have hm : p.2 * q.2 <= 2 ^ 82 * 2 ^ 82 := Int.mul_le_mul (by omega) (by omega) (by omega) (by decide)
  rw [<- e] at k
  refine ⟨_, rfl, a, _, _, _, rfl, rfl, .of ha, rfl, _, rfl, b, _, _, _, rfl, rfl, .of hb, rfl, _, _, rfl, rfl, ⟨mx.1, Int.le_of_lt my.2.1, my.2.2⟩, ?_⟩
  refine ⟨_, rfl, b, _, _, _, rfl, rfl, .of hb, rfl, _, rfl, a, _, _, _, rfl, rfl, .of ha, rfl, _, _, rfl, rfl, ⟨my.1, Int.le_of_lt mx.2.1, mx.2.2⟩, _, _, rfl, rfl, ?_⟩
  refine ⟨_, rfl, a, _, _, _, rfl, rfl, .of ha, rfl, _, rfl, b, _, _, _, rfl, rfl, .of hb, rfl, _, _, rfl, rfl, ⟨⟨Int.le_of_lt mx.2.1, mx.2.2⟩, Int.le_of_lt my.2.1, my.2.2⟩, ?_⟩
  exact ⟨_, _, rfl, cs.2.2, cs.2.1, by omega, k⟩
theorem scAlone : FnScope ["web", "weight", "rule", "guard"] ["web", "weight", "rule"] (defScope sAlone) := ⟨rfl, rfl, rfl, by decide +kernel, rfl, by decide +kernel, by decide +kernel⟩
def GapsAt (H : Hp) (d : Addr) (es : List Te) (c : Te -> Int) (D : Int) : Prop := ∃ ga : Te -> Addr, H d = some (.dT (tKV es fun t => .ref (ga t))) /\ GaV H ga es c D
def spAlone (K : PySem.W.Frag) (C : Addr) : Sp := fun vs H Q _ => ∃ (p : Addr) (wt m D : Int) (hs : List (Str × Int)) (ts : List (Str × Str)) (fp : List Addr), ∃ r ∈ rl, vs = [.ref p, .int wt, .str r.1] /\ guB ["fall", "calm"] r = true /\ WebAt K C H p hs ts fp /\ Ok wt m hs ts /\ DOk hs D /\
 ∀ d H', Same H H' -> H d = none -> GapsAt H' d (tsOf ts) (c0 r.2.2.2 wt m D hs) D -> Q (.ref d) H'
theorem tsOf_nodup {hs : List (Str × Int)} {ts : List (Str × Str)} (G : Good hs ts) : (tsOf ts).Nodup := by
 have h : ((tsOf ts).map kT).Nodup := by
  rw [tsOf_keys]
  exact (sortKs_perm _).nodup_iff.mpr G.tnd
 exact List.Pairwise.of_map kT (fun a b ne z => ne (by rw [z])) h
theorem ok_alone {f C : Addr} {fd : FuncData} (F : Fun K "gaps_alone" "gaps_alone" sAlone f fd) (B : Bi mg) (T : Txt K mg C) (cG : Cal P w K mg base 5 "checked_guard" ["rule"] spCGuard) (cT : CalM P w K mg base C 2 "ties" ["self"] (spTiesM K C)) (cA : Cal P w K mg base 3 "gap_along" ["web", "weight", "guard", "tie"] (spAlong K C)) : FnOk P w K mg base CX0 6 f fd ["web", "weight", "rule"] (spAlone K C) := by
 refine F.ok scAlone (fun vs H Q E h => ?_) (fun cdv A outer s H vs Q E hr h => ?_)
 ·obtain ⟨p, wt, m, D, hs, ts, fp, r, hr, rfl, _⟩ := h
  rfl
 ·obtain ⟨p, wt, m, D, hs, ts, fp, r, hr', rfl, gu, W, O, DO, k⟩ := h
  have sz := sizeLine_eq
  have hu2 := Nat.lt_of_le_of_lt (Nat.add_le_add_left (by decide : 2 <= 64) _) hr.units
  refine' ⟨_, pss_cons ?s1 (pss_one ?s2), ?kk⟩
  case s1 => exact ps_set (i := 3) scAlone.nd rfl (Or.inr rfl) (pe_fn cG hr (pa_cons (pv 2) pa_nil))
  case' s2 => refine' ps_ret (pe_callTy (call_dictOfT rfl hu2) (by rfl) B.dict PyProof.Rows.Boot.«dict» (pa_cons (pe_comp ["tie", "guard", "web", "weight"] 1 [3, 0, 1] (pi_list (pe_mt0 cT T.cl (hr.mono (by decide)) (pv 0))) (fun fp s H => pg_name (i := 0) (show (["tie", "guard", "web", "weight"] : List Str).Nodup by decide +kernel) rfl (Or.inl rfl)) (fun fp s H => pts_nil) (fun fp s H => ?e1)) pa_nil))
  case e1 => exact pe_tup (pa_cons (pv 0) (pa_cons (pe_fn cA (hr.mono (by decide)) (pa_cons (pv 2) (pa_cons (pv 3) (pa_cons (pv 1) (pa_cons (pv 0) pa_nil))))) pa_nil))
  case' kk => skip
  obtain ⟨dx, d1, l2, d3, zs, as, efp, e1, e2, e3, e4, e5, e6, e7⟩ := W.ex
  have hnT : (flds d1 l2 d3).lookup ("ties" : Str) = none := flds_no _ _ _ (by decide +kernel) (by decide +kernel) (by decide +kernel)
  refine ⟨_, rfl, r, hr', rfl, gu, fun H1 s1 => ?_⟩
  refine ⟨_, rfl, p, dx, _, rfl, s1 _ _ e1, hnT, p, hs, ts, fp, rfl, W.same s1, O.G.t64, fun l ys H2 s2 nl hl tu => ?_⟩
  have s02 := s1.trans s2
  have es := tes_of O.G
  have nd := tsOf_nodup O.G
  have ln := Paired.length tu
  rw [List.length_map] at ln
  have t64 : (tsOf ts).length < 64 := by rw [tsOf_len]; exact O.G.t64
  refine ⟨l, rfl, ⟨_, .of hl⟩, fun R hR => ?_⟩
  refine comp_list (own := 1) (fv := [some (optV r.2.2.2), some (.ref p), some (.int wt)]) (xs := ys) rfl gok1 (fun i out H' => Same H2 H' /\ H' R = some (.lst out) /\ out.length = i /\ ∃ ga : Te -> Addr, PairsT H' out (tKV ((tsOf ts).take i) fun t => .ref (ga t)) /\ GaV H' ga ((tsOf ts).take i) (c0 r.2.2.2 wt m D hs) D) ⟨Same.new hR, upd_same, rfl, fun _ => 0, .nil, fun t ht => nomatch ht⟩ (fun i out H' _ ⟨sm, _⟩ => .of (sm _ _ hl)) (fun out H5 ⟨sm, hR5, lo, ga, pa, gv⟩ => ?_) (fun i y out H' hy ⟨sm, hR', lo, ga, pa, gv⟩ => ?_)
  ·rw [ln, List.take_length] at pa gv
   refine ⟨R, _, _, rfl, hR5, pa, by rw [tKV_len]; omega, fun d hd => k d _ ((s02.trans sm).trans (Same.new hd)) ((s02.trans sm).free hd) ⟨ga, ?_, gv.same (Same.new hd)⟩⟩
   rw [mergeT_nd _ _ (kT_nodup nd _)]
   exact upd_same
  ·obtain ⟨t, ht, q, rfl, hq⟩ := paired_map tu hy
   have mt := List.mem_of_getElem? ht
   have ti := es t mt
   have s03 := s02.trans sm
   refine ⟨_, rfl, rfl, fun Nx hN => yesT ?_⟩
   refine ⟨_, rfl, _, rfl, _, rfl, _, rfl, _, rfl, p, q, wt, m, r.2.2.2, t, hs, ts, fp, rfl, W.same s03, O.G, sm _ _ hq, ti.1, ti.2.1, O.w1, O.w2, O.M, fun b H3 s3 nb fb => ?_⟩
   have fb : FrAt H3 b (fr (c0 r.2.2.2 wt m D hs t) D) := by
    rw [<- gap_fr O DO ti.1 ti.2.1 ti.2.2]
    exact fb
   refine ⟨by show 2 <= sizeLine; decide, fun a ha => ?_⟩
   have s4 := Same.new (o := .tup [.ref q, .ref b]) ha
   have e4 : upd H3 a (.tup [.ref q, .ref b]) a = some (.tup [.ref q, .ref b]) := upd_same
   generalize upd H3 a (.tup [.ref q, .ref b]) = H4 at s4 e4 ⊢
   have s34 := s3.trans s4
   have hR4 := s34 _ _ hR'
   have t5 := TS.lst (o := .lst (out ++ [.ref a])) hR4
   have q4 := s34 _ _ (sm _ _ hq)
   refine ⟨out, hR4, by have := (List.getElem?_eq_some_iff.mp ht).1; omega, hN _ _ ⟨same_but (sm.trans s34) hR, upd_same, by rw [List.length_append, lo]; rfl, fun u => if u = t then b else ga u, ?_, ?_⟩⟩
   ·rw [tKV_more nd ht]
    exact Paired.snoc (pairsT_ts pa ((TS.of s34).trans t5)) ⟨a, q, rfl, t5 _ _ e4, t5 _ _ q4⟩
   ·exact GaV.more ht (gv.ts ((TS.of s34).trans t5)) (t5 _ _ (s4 _ _ fb))
end
end Ev
set_option Elab.async false
set_option linter.all false
set_option maxRecDepth 100000
namespace Ev
open PySem L2
section
variable {P : Program} {w : World} {K : PySem.W.Frag} {mg : Str -> Option Value} {base : Heap}
theorem scBeside : FnScope ["tie", "gaps", "found", "near", "gap"] ["tie", "gaps"] (defScope sBeside) := ⟨rfl, rfl, rfl, by decide +kernel, rfl, by decide +kernel, by decide +kernel⟩
def spBeside : Sp := fun vs H Q _ => ∃ (a d : Addr) (o : Obj) (t : Te) (es : List Te) (ga : Te -> Addr) (c : Te -> Int) (D : Int), vs = [.ref a, .ref d] /\ H a = some (.tup ((kT t).map kV)) /\ H d = some (.frz o (.dT (tKV es fun t => .ref (ga t)))) /\ GaV H ga es c D /\ t ∈ es /\ 0 < D /\ D < 2 ^ 82 /\ (∀ t ∈ es, 0 <= c t /\ c t <= 2 ^ 133) /\ es.length < 64 /\
 ∀ b H', Same H H' -> FrAt H' b (fr (es.foldl (stp t c) (c t)) D) -> Q (.ref b) H'
theorem touch_in (t n : Te) : touch t n = (inV (.str t.1) [.str n.1, .str n.2] || inV (.str t.2) [.str n.1, .str n.2]) := by
 have e : ∀ x : Str, inV (.str x) [.str n.1, .str n.2] = (decide (x = n.1) || decide (x = n.2)) := fun x => by
  have := in_strs x [n.1, n.2]
  rw [show ([n.1, n.2].map V.str) = [.str n.1, .str n.2] from rfl] at this
  rw [this]
  by_cases h1 : x = n.1
  ·simp [h1]
  ·by_cases h2 : x = n.2
   ·simp [h2]
   ·simp [h1, h2]
 rw [e, e]
 rfl
theorem foldl_take {α β : Type} {f : β -> α -> β} {b : β} {l : List α} {i : Nat} {x : α} (h : l[i]? = some x) : (l.take (i + 1)).foldl f b = f ((l.take i).foldl f b) x := by
 obtain ⟨hi, rfl⟩ := List.getElem?_eq_some_iff.mp h
 rw [List.take_succ_eq_append_getElem hi, List.foldl_append]
 rfl
theorem ok_beside {f : Addr} {fd : FuncData} (F : Fun K "greatest_beside" "greatest_beside" sBeside f fd) (cL : Cal P w K mg base 1 "is_less" ["one", "other"] spLess) : FnOk P w K mg base CX0 2 f fd ["tie", "gaps"] spBeside := by
 refine F.ok scBeside (fun vs H Q E h => ?_) (fun cdv A outer s H vs Q E hr h => ?_)
 ·obtain ⟨a, d, o, t, es, ga, c, D, rfl, _⟩ := h
  rfl
 ·obtain ⟨a, d, o, t, es, ga, c, D, rfl, ha, hd, gv, mt, D0, D1, cb, h64, k⟩ := h
  have hu := hu_of hr
  refine' ⟨_, pss_cons ?s1 (pss_cons ?s2 (pss_one ?s3)), ?kk⟩
  case s1 => exact ps_set (i := 2) scBeside.nd rfl (Or.inl rfl) (pe_dget hu (pv 1) (pv 0) (fun _ _ => rfl))
  case' s2 => refine' ps_for PassesOwn.never rfl (pi_itemsTF (pe_itemsT (pv 1))) ?g2 ?b2
  case g2 => exact pg_tup rfl (pgs_cons (pg_name (i := 3) scBeside.nd rfl (Or.inl rfl)) (pgs_cons (pg_name (i := 4) scBeside.nd rfl (Or.inl rfl)) pgs_nil))
  case b2 => exact pss_one (ps_if (PW.pt (pw_and (PW.pt (pw_or (pt_cmpR op_in_seq (pe_ix ix_tup (pv 0) pe_int (fun _ _ => rfl)) (pv 3) (by with_unfolding_all rfl)) (pw_or1 (pt_cmpR op_in_seq (pe_ix ix_tup (pv 0) pe_int (fun _ _ => rfl)) (pv 3) (by with_unfolding_all rfl))))) (pw_and1 (pt_val (pe_fn cL hr (pa_cons (pv 2) (pa_cons (pv 4) pa_nil))))))) (pss_one (ps_set (i := 2) scBeside.nd rfl (Or.inl rfl) (pv 4))) pss_nil)
  case s3 => exact ps_ret (pv 2)
  case' kk => skip
  have ha' : H a = some (.tup [.str t.1, .str t.2]) := ha
  refine ⟨_, rfl, _, rfl, d, .ref (ga t), rfl, .inr ⟨_, kT t, a, .inr ⟨o, hd⟩, rfl, ha, (tKV_get (g := fun t => V.ref (ga t)) mt).symm⟩, ?_⟩
  refine setG ?_
  dsimp only
  refine seqG (fun σ H' => ∃ (b : Addr) (v3 v4 : Option V), σ = [some (.ref a), some (.ref d), some (.ref b), v3, v4] /\ Same H H' /\ FrAt H' b (fr (es.foldl (stp t c) (c t)) D)) ?last ?loop
  case last =>
   rintro σ H3 ⟨b, v3, v4, rfl, s3, fb⟩
   exact ⟨_, rfl, k b H3 s3 fb⟩
  case loop =>
   intro N hN
   refine ⟨_, rfl, d, _, rfl, .inr ⟨o, hd⟩, fun v hv => ?_⟩
   have s1 := Same.new (o := itemsV v d) hv
   have hv1 : upd H v (itemsV v d) v = some (itemsV v d) := upd_same
   generalize upd H v (itemsV v d) = H1 at s1 hv1 ⊢
   have hd1 := s1 _ _ hd
   refine ⟨v, d, o, _, rfl, hv1, hd1, ?_⟩
   refine for_itemsT (fun i σ H' => ∃ (b : Addr) (v3 v4 : Option V), σ = [some (.ref a), some (.ref d), some (.ref b), v3, v4] /\ Same H1 H' /\ FrAt H' b (fr ((es.take i).foldl (stp t c) (c t)) D)) ⟨ga t, none, none, rfl, Same.refl _, (gv t mt).same s1⟩ (fun i σ H' _ ⟨_, _, _, _, q, _⟩ => q _ _ hd1) ?_ ?_
   rotate_left 1
   ·rintro σ H' ⟨b, v3, v4, rfl, s4, fb⟩
    rw [tKV_len, List.take_length] at fb
    exact hN _ _ ⟨b, v3, v4, rfl, s1.trans s4, fb⟩
   rintro i ky x σ H2 hx ⟨b, v3, v4, rfl, s2, fb⟩ tt q ht hq
   obtain ⟨near, hn, rfl, rfl⟩ := tKV_at hx
   have mn := List.mem_of_getElem? hn
   have s3 := Same.new (o := .tup [.ref q, .ref (ga near)]) ht
   have e3 : upd H2 tt (.tup [.ref q, .ref (ga near)]) tt = some (.tup [.ref q, .ref (ga near)]) := upd_same
   show gTup _ _ _ _ _ (upd H2 tt (.tup [.ref q, .ref (ga near)])) _
   generalize upd H2 tt (.tup [.ref q, .ref (ga near)]) = H3 at s3 e3 ⊢
   have hq' : H3 q = some (.tup [.str near.1, .str near.2]) := s3 _ _ hq
   have s03 := (s1.trans s2).trans s3
   have ha3 := s03 _ _ ha'
   refine ⟨tt, _, rfl, .of e3, rfl, _, _, rfl, _, _, rfl, rfl, ?_⟩
   have gn : FrAt H3 (ga near) (fr (c near) D) := (gv near mn).same s03
   obtain ⟨p1, p2, p3⟩ := stp_spec t c (es.take i) (c t)
   have pm : 0 <= (es.take i).foldl (stp t c) (c t) /\ (es.take i).foldl (stp t c) (c t) <= 2 ^ 133 := by
    have c1 := cb t mt
    rcases p3 with z | ⟨n2, h2, _, z⟩
    ·rw [z]
     exact c1
    ·rw [z]
     exact cb n2 (List.mem_of_mem_take h2)
   have cn := cb near mn
   have ef := foldl_take (f := stp t c) (b := c t) hn
   generalize (es.take i).foldl (stp t c) (c t) = mm at *
   have ti := touch_in t near
   have fin0 : ¬ touch t near = true -> ∃ (b' : Addr) (v3 v4 : Option V), ([some (.ref a), some (.ref d), some (.ref b), some (.ref q), some (.ref (ga near))] : St) = [some (.ref a), some (.ref d), some (.ref b'), v3, v4] /\ Same H1 H3 /\ FrAt H3 b' (fr ((es.take (i + 1)).foldl (stp t c) (c t)) D) := fun nt => by
    refine ⟨b, _, _, rfl, s2.trans s3, ?_⟩
    rw [ef]
    unfold stp
    rw [if_neg (fun z => nt z.1)]
    exact fb.same s3
   have mb := sm_fr D0 D1 pm.1 (by omega)
   have mn2 := sm_fr D0 D1 cn.1 (by omega)
   have fin1 : touch t near = true -> (decide (mm < c near) = true -> FrAt H3 (ga near) (fr ((es.take (i + 1)).foldl (stp t c) (c t)) D)) /\ (¬ decide (mm < c near) = true -> FrAt H3 b (fr ((es.take (i + 1)).foldl (stp t c) (c t)) D)) := fun yt => by
    rw [ef]
    unfold stp
    refine ⟨fun c2 => ?_, fun c2 => ?_⟩
    ·rw [if_pos ⟨yt, by simpa using c2⟩]
     exact gn
    ·rw [if_neg (fun z => c2 (by simpa using z.2))]
     exact fb.same s3
   refine ⟨_, rfl, a, _, _, _, rfl, rfl, .of ha3, rfl, _, rfl, q, _, rfl, .inr (.of hq'), rfl, rfl, _, rfl, ?_⟩
   rw [if_neg Bool.false_ne_true]
   refine ite2 (fun c1 => ?_) (fun c1 => ?_)
   ·obtain ⟨y1, y2⟩ := fin1 (by rw [ti, c1]; rfl)
    refine iteT ⟨_, rfl, _, rfl, b, ga near, _, _, rfl, fb.same s3, gn, mb, mn2, _, rfl, ?_⟩
    rw [lt_fr D0 pm.1 cn.1]
    refine ite2 (fun c2 => ?_) (fun c2 => ?_)
    ·exact ⟨_, rfl, ga near, _, _, rfl, s2.trans s3, y1 c2⟩
    ·exact ⟨b, _, _, rfl, s2.trans s3, y2 c2⟩
   ·have c1' : inV (.str t.1) [.str near.1, .str near.2] = false := by simpa using c1
    refine ⟨_, rfl, a, _, _, _, rfl, rfl, .of ha3, rfl, _, rfl, q, _, rfl, .inr (.of hq'), rfl, rfl, _, rfl, ?_⟩
    rw [if_neg Bool.false_ne_true]
    rw [c1', Bool.false_or] at ti
    show if inV (.str t.2) [.str near.1, .str near.2] = true then _ else _
    refine ite2 (fun c2 => ?_) (fun c2 => ?_)
    ·obtain ⟨y1, y2⟩ := fin1 (by rw [ti, c2])
     refine ⟨_, rfl, _, rfl, b, ga near, _, _, rfl, fb.same s3, gn, mb, mn2, _, rfl, ?_⟩
     rw [lt_fr D0 pm.1 cn.1]
     refine ite2 (fun c2 => ?_) (fun c2 => ?_)
     ·exact ⟨_, rfl, ga near, _, _, rfl, s2.trans s3, y1 c2⟩
     ·exact ⟨b, _, _, rfl, s2.trans s3, y2 c2⟩
    ·exact iteF (fin0 (by rw [ti]; exact c2))
end
end Ev
set_option Elab.async false
set_option linter.all false
set_option maxRecDepth 100000
namespace Ev
open PySem L2
theorem cst_f {g : Option Str} {wt m D : Int} {hs : List (Str × Int)} {es : List Te} : cst false g wt m D hs es = c0 g wt m D hs := funext fun t => if_neg Bool.false_ne_true
theorem cst_t {g : Option Str} {wt m D : Int} {hs : List (Str × Int)} {es : List Te} : cst true g wt m D hs es = mx es (c0 g wt m D hs) := funext fun t => if_pos rfl
section
variable {P : Program} {w : World} {K : PySem.W.Frag} {mg : Str -> Option Value} {base : Heap}
theorem scByTie : FnScope ["web", "weight", "rule", "gaps"] ["web", "weight", "rule"] (defScope sByTie) := ⟨rfl, rfl, rfl, by decide +kernel, rfl, by decide +kernel, by decide +kernel⟩
abbrev isL (r : Rl) : Bool := decide (r.2.1 = "least")
def spByTie (K : PySem.W.Frag) (C : Addr) : Sp := fun vs H Q _ => ∃ (p : Addr) (wt m D : Int) (hs : List (Str × Int)) (ts : List (Str × Str)) (fp : List Addr), ∃ r ∈ rl, vs = [.ref p, .int wt, .str r.1] /\ guB ["fall", "calm"] r = true /\ WebAt K C H p hs ts fp /\ Ok wt m hs ts /\ DOk hs D /\
 ∀ d H', Same H H' -> H d = none -> GapsAt H' d (tsOf ts) (cst (isL r) r.2.2.2 wt m D hs (tsOf ts)) D -> Q (.ref d) H'
theorem ok_byTie {f C : Addr} {fd : FuncData} (F : Fun K "gaps_by_tie" "gaps_by_tie" sByTie f fd) (B : Bi mg) (T : Txt K mg C) (cA : Cal P w K mg base 6 "gaps_alone" ["web", "weight", "rule"] (spAlone K C)) (cW : Cal P w K mg base 2 "checked_words" ["rule"] (spWords K)) (cB : Cal P w K mg base 2 "greatest_beside" ["tie", "gaps"] spBeside) : FnOk P w K mg base CX0 7 f fd ["web", "weight", "rule"] (spByTie K C) := by
 refine F.ok scByTie (fun vs H Q E h => ?_) (fun cdv A outer s H vs Q E hr h => ?_)
 ·obtain ⟨p, wt, m, D, hs, ts, fp, r, hr, rfl, _⟩ := h
  rfl
 ·obtain ⟨p, wt, m, D, hs, ts, fp, r, hr', rfl, gu, W, O, DO, k⟩ := h
  have sz := sizeLine_eq
  have hu2 := Nat.lt_of_le_of_lt (Nat.add_le_add_left (by decide : 2 <= 64) _) hr.units
  have hr2 : Room 2 _ := hr.mono (by decide)
  refine' ⟨_, pss_cons ?s1 (pss_cons ?s2 (pss_one ?s3)), ?kk⟩
  case s1 => exact ps_set (i := 3) scByTie.nd rfl (Or.inr rfl) (pe_fn cA hr (pa_cons (pv 0) (pa_cons (pv 1) (pa_cons (pv 2) pa_nil))))
  case s2 => exact ps_if (pt_cmpR op_ne (pe_ix ix_tup (pe_fn cW hr2 (pa_cons (pv 2) pa_nil)) pe_int (fun _ _ => rfl)) pe_str (nomark _)) (pss_one (ps_ret (pv 3))) pss_nil
  case' s3 => refine' ps_ret (pe_callTy (call_dictOfT rfl hu2) (by rfl) B.dict PyProof.Rows.Boot.«dict» (pa_cons (pe_thawT (pe_comp ["tie", "gaps"] 1 [3] (pi_keysT (pv 3)) (fun fp s H => pg_name (i := 0) (show (["tie", "gaps"] : List Str).Nodup by decide +kernel) rfl (Or.inl rfl)) (fun fp s H => pts_nil) (fun fp s H => ?e1))) pa_nil))
  case e1 => exact pe_tup (pa_cons (pv 0) (pa_cons (pe_fn cB hr2 (pa_cons (pv 0) (pa_cons (pv 1) pa_nil))) pa_nil))
  case' kk => skip
  refine ⟨_, rfl, _, rfl, _, rfl, p, wt, m, D, hs, ts, fp, r, hr', rfl, gu, W, O, DO, fun g H1 s1 ng ⟨ga, hg, gv⟩ => ?_⟩
  refine setG ?_
  dsimp only
  refine ⟨_, rfl, r, hr', rfl, fun a ha => ?_⟩
  refine ⟨a, _, _, _, rfl, rfl, ha H1, rfl, rfl, _, rfl, ?_⟩
  have dq : decide (V.str r.2.1 = V.str "least") = isL r := by
   unfold isL
   by_cases e : r.2.1 = "least"
   ·simp [e]
   ·simp [e]
  rw [dq]
  refine ite2 (fun c => ?_) (fun c => ?_)
  ·have c' : isL r = false := by simpa using c
   refine ⟨_, rfl, k g H1 s1 ng ⟨ga, hg, ?_⟩⟩
   rw [c', cst_f]
   exact gv
  have c' : isL r = true := by simpa using c
  have es := tes_of O.G
  have nd := tsOf_nodup O.G
  have t64 : (tsOf ts).length < 64 := by rw [tsOf_len]; exact O.G.t64
  have cb : ∀ t ∈ tsOf ts, 0 <= c0 r.2.2.2 wt m D hs t /\ c0 r.2.2.2 wt m D hs t <= 2 ^ 133 := fun t ht => c0_le O DO (es t ht).1 (es t ht).2.1
  refine ⟨g, _, hg, ?_⟩
  refine ⟨_, rfl, g, _, rfl, hg, fun o => ?_⟩
  intro R hR
  refine comp_keysT (own := 1) (fv := [some (.ref g)]) rfl gok1 (fun i out H' => FzT g o (tKV (tsOf ts) fun t => .ref (ga t)) H1 H' /\ H' R = some (.lst out) /\ out.length = i /\ ∃ gb : Te -> Addr, PairsT H' out (tKV ((tsOf ts).take i) fun t => .ref (gb t)) /\ GaV H' gb ((tsOf ts).take i) (mx (tsOf ts) (c0 r.2.2.2 wt m D hs)) D) ⟨FzT.start.step (Same.new hR), upd_same, rfl, fun _ => 0, .nil, fun t ht => nomatch ht⟩ (fun i out H' _ ⟨fz, _⟩ => fz.at_) (fun out H5 ⟨fz, hR5, lo, gb, pa, gw⟩ => ?_) (fun i ky x b out H' hx hb ⟨fz, hR', lo, gb, pa, gw⟩ => ?_)
  ·rw [tKV_len, List.take_length] at pa gw
   refine ⟨o, fz.at_, ?_⟩
   have s5 := fz.thaw hg
   have gne : R ≠ g := fun z => by
    rw [z] at hR
    rw [upd_same] at hR
    cases hR
   have t5 : TS H5 (upd H5 g (.dT (tKV (tsOf ts) fun t => .ref (ga t)))) := fun c xs e => by
    rw [upd_ne (ne_of e fz.at_ (by intro z; cases z))]
    exact e
   refine ⟨R, _, _, rfl, by rw [upd_ne gne]; exact hR5, pairsT_ts pa t5, by rw [tKV_len]; omega, fun d hd => k d _ ((s1.trans s5).trans (Same.new hd)) ((s1.trans s5).free hd) ⟨gb, ?_, ?_⟩⟩
   ·rw [mergeT_nd _ _ (kT_nodup nd _)]
    exact upd_same
   ·rw [c', cst_t]
    exact (gw.ts t5).same (Same.new hd)
  ·obtain ⟨t, ht, rfl, rfl⟩ := tKV_at hx
   have mt := List.mem_of_getElem? ht
   refine ⟨_, rfl, rfl, fun Nx hN => yesT ?_⟩
   refine ⟨_, rfl, _, rfl, _, rfl, b, g, o, t, tsOf ts, ga, _, D, rfl, hb, fz.at_, fun u hu => fz.tup hg (gv u hu), mt, DO.pos, DO.big, cb, t64, fun y H3 s3 fy => ?_⟩
   rw [mx_eq (fun _ => Iff.rfl) (fun t ht => ⟨(cb t ht).1, rfl⟩) mt (.inr rfl)] at fy
   refine ⟨by show 2 <= sizeLine; decide, fun a ha => ?_⟩
   have s4 := Same.new (o := .tup [.ref b, .ref y]) ha
   have e4 : upd H3 a (.tup [.ref b, .ref y]) a = some (.tup [.ref b, .ref y]) := upd_same
   generalize upd H3 a (.tup [.ref b, .ref y]) = H4 at s4 e4 ⊢
   have s34 := s3.trans s4
   have hR4 := s34 _ _ hR'
   have t5 := TS.lst (o := .lst (out ++ [.ref a])) hR4
   have q4 := s34 _ _ hb
   have gne : R ≠ g := fun z => by
    rw [z] at hR
    rw [upd_same] at hR
    cases hR
   refine ⟨out, hR4, by have := (List.getElem?_eq_some_iff.mp ht).1; omega, hN _ _ ⟨?_, upd_same, by rw [List.length_append, lo]; rfl, fun u => if u = t then y else gb u, ?_, ?_⟩⟩
   ·have f4 := fz.step s34
    refine ⟨by rw [upd_ne (Ne.symm gne)]; exact f4.at_, fun c u ne e => ?_⟩
    have nc : c ≠ R := by
     rintro rfl
     rw [upd_ne ne, e] at hR
     cases hR
    rw [upd_ne nc]
    exact f4.sm c u ne e
   ·rw [tKV_more nd ht]
    exact Paired.snoc (pairsT_ts pa ((TS.of s34).trans t5)) ⟨a, b, rfl, t5 _ _ e4, t5 _ _ q4⟩
   ·exact GaV.more ht (gw.ts ((TS.of s34).trans t5)) (t5 _ _ (s4 _ _ fy))
end
end Ev
set_option Elab.async false
set_option linter.all false
set_option maxRecDepth 100000
namespace Ev
open PySem L2
theorem mKV_none {ns : List Str} {g : Str -> V} {n : Str} (h : n ∉ ns) : valV (mKV ns g) (Sum.inr n) = none := valV_none_of (by
 rw [mKV_keys]
 intro z
 obtain ⟨m, hm, e⟩ := List.mem_map.mp z
 cases e
 exact h hm)
structure FoAt (H : Hp) (d : Addr) (nh : List Str) (f : Fo) (D : Int) (ns : List Str) (ad : Str -> Addr) : Prop where
 at_ : H d = some (.dK (mKV ns fun n => .ref (ad n)))
 nd : ns.Nodup
 sub : ∀ n ∈ ns, n ∈ nh
 no : ∀ n, n ∉ ns -> f n = none
 is : ∀ n ∈ ns, ∃ k, f n = some k /\ FrAt H (ad n) (fr k D)
def FoX (H : Hp) (d : Addr) (nh : List Str) (f : Fo) (D : Int) : Prop := ∃ ns ad, FoAt H d nh f D ns ad
theorem FoAt.keep {H H' : Hp} {d : Addr} {nh ns : List Str} {f : Fo} {D : Int} {ad : Str -> Addr} (F : FoAt H d nh f D ns ad) (s : TS H H') (e : ∀ o, H d = some o -> H' d = some o) : FoAt H' d nh f D ns ad := ⟨e _ F.at_, F.nd, F.sub, F.no, fun n hn => by
 obtain ⟨k, h1, h2⟩ := F.is n hn
 exact ⟨k, h1, s _ _ h2⟩⟩
theorem FoX.keep {H H' : Hp} {d : Addr} {nh : List Str} {f : Fo} {D : Int} (F : FoX H d nh f D) (s : TS H H') (e : ∀ o, H d = some o -> H' d = some o) : FoX H' d nh f D := by
 obtain ⟨ns, ad, F⟩ := F
 exact ⟨ns, ad, F.keep s e⟩
section
variable {P : Program} {w : World} {K : PySem.W.Frag} {mg : Str -> Option Value} {base : Heap}
theorem scShort : FnScope ["found", "one", "other", "gap", "whole"] ["found", "one", "other", "gap"] (defScope sShort) := ⟨rfl, rfl, rfl, by decide +kernel, rfl, by decide +kernel, by decide +kernel⟩
def spShort : Sp := fun vs H Q _ => ∃ (d g : Addr) (u v : Str) (nh : List Str) (f : Fo) (D x : Int), vs = [.ref d, .str u, .str v, .ref g] /\ FoX H d nh f D /\ FrAt H g (fr x D) /\ v ∈ nh /\ nh.length <= 1000 /\ 0 < D /\ D < 2 ^ 82 /\ 0 <= x /\ x <= 2 ^ 133 /\ (∀ n k, f n = some k -> 0 <= k /\ k < 2 ^ 180) /\
 ∀ H', But d H H' -> FoX H' d nh (put1 f u v x) D -> Q .non H'
theorem ok_short {fa : Addr} {fd : FuncData} (F : Fun K "shorten" "shorten" sShort fa fd) (cS : Cal P w K mg base 3 "sum_of_two" ["one", "other"] spSum2) (cL : Cal P w K mg base 1 "is_less" ["one", "other"] spLess) : FnOk P w K mg base CX0 4 fa fd ["found", "one", "other", "gap"] spShort := by
 refine F.ok scShort (fun vs H Q E h => ?_) (fun cdv A outer s H vs Q E hr h => ?_)
 ·obtain ⟨d, g, u, v, nh, f, D, x, rfl, _⟩ := h
  rfl
 ·obtain ⟨d, g, u, v, nh, f, D, x, rfl, ⟨ns, ad, Fo⟩, hg, hv, nl, D0, D1, x0, x1, fb, k⟩ := h
  have hu := hu_of hr
  have sz := sizeLine_eq
  have hr1 : Room 1 _ := hr.mono (by decide)
  refine' ⟨_, pss_one ?s1, ?kk⟩
  case' s1 => refine' ps_if (pt_cmp (pc_din hu (pv 1) (pv 0))) ?b0 pss_nil
  case' b0 => refine' pss_cons ?b1 (pss_one ?b2)
  case b1 => exact ps_set (i := 4) scShort.nd rfl (Or.inl rfl) (pe_fn cS hr (pa_cons (pe_dget hu (pv 0) (pv 1) (fun _ _ => rfl)) (pa_cons (pv 3) pa_nil)))
  case b2 => exact ps_if (PW.pt (pw_or (pt_cmp (pc_dnotin hu (pv 2) (pv 0))) (pw_or1 (pt_val (pe_fn cL hr1 (pa_cons (pv 4) (pa_cons (pe_dget hu (pv 0) (pv 2) (fun _ _ => rfl)) pa_nil))))))) (pss_one (ps_dput hu (pv 0) (pv 2) (pv 4) rfl)) pss_nil
  case' kk => skip
  have lns := sub_len Fo.nd Fo.sub
  refine ⟨_, rfl, _, rfl, d, _, rfl, .k (k := .inr u) Fo.at_, _, rfl, ?_⟩
  by_cases hu1 : u ∈ ns
  ·rw [mKV_get (g := fun n => V.ref (ad n)) hu1]
   refine iteT ?_
   obtain ⟨y, ey, fy⟩ := Fo.is u hu1
   have yb := fb u y ey
   refine ⟨_, rfl, _, rfl, d, .ref (ad u), rfl, ?_, _, rfl, ad u, g, D, y, x, rfl, fy, hg, D0, D1, yb.1, by omega, x0, by omega, fun t ht => ?_⟩
   ·have := DGet.k (k := .inr u) Fo.at_
    rw [mKV_get (g := fun n => V.ref (ad n)) hu1] at this
    exact this
   have s1 := Same.new (o := .tup [.int (fr (y + x) D).1, .int (fr (y + x) D).2]) ht
   have e1 : FrAt (upd H t (.tup [.int (fr (y + x) D).1, .int (fr (y + x) D).2])) t (fr (y + x) D) := upd_same
   generalize upd H t (.tup [.int (fr (y + x) D).1, .int (fr (y + x) D).2]) = H1 at s1 e1 ⊢
   have F1 := Fo.keep (TS.of s1) fun o e => s1 _ _ e
   have yx : 0 <= y + x /\ y + x < 2 ^ 200 := by omega
   refine ⟨_, rfl, _, rfl, d, _, rfl, .k (k := .inr v) F1.at_, _, rfl, ?_⟩
   have put : ∀ {z : Option V}, valV (mKV ns fun n => V.ref (ad n)) (Sum.inr v) = z -> put1 f u v x v = some (y + x) -> ∀ ns', (∀ n, n ∈ ns' ↔ n ∈ ns ∨ n = v) -> ns'.Nodup -> upd H1 d (.dK (putK (mKV ns fun n => .ref (ad n)) (.inr v) (.ref t))) d = some (.dK (mKV ns' fun n => .ref (if n = v then t else ad n))) -> Q .non (upd H1 d (.dK (putK (mKV ns fun n => .ref (ad n)) (.inr v) (.ref t)))) := fun {z} _ e ns' hm nd' hp => by
    have ts := TS.dk (o := .dK (putK (mKV ns fun n => .ref (ad n)) (.inr v) (.ref t))) F1.at_
    refine k _ (fun b o e n => by rw [upd_ne n]; exact s1 _ _ e) ⟨ns', fun n => if n = v then t else ad n, hp, nd', fun n hn => ?_, fun n hn => ?_, fun n hn => ?_⟩
    ·rcases (hm n).mp hn with h | h
     ·exact Fo.sub n h
     ·rw [h]; exact hv
    ·have h1 : n ∉ ns := fun z => hn ((hm n).mpr (.inl z))
     have h2 : n ≠ v := fun z => hn ((hm n).mpr (.inr z))
     unfold put1
     rw [ey]
     simp only [if_neg h2]
     exact Fo.no n h1
    ·by_cases c : n = v
     ·subst c
      simp only [if_true]
      exact ⟨_, e, ts _ _ e1⟩
     ·simp only [if_neg c]
      rcases (hm n).mp hn with h | h
      ·obtain ⟨k', q1, q2⟩ := F1.is n h
       refine ⟨k', ?_, ts _ _ q2⟩
       unfold put1
       rw [ey]
       simp only [if_neg c]
       exact q1
      ·exact absurd h c
   by_cases hv1 : v ∈ ns
   ·rw [mKV_get (g := fun n => V.ref (ad n)) hv1]
    refine iteF ?_
    obtain ⟨z, ez, fz⟩ := F1.is v hv1
    have zb := fb v z ez
    refine ⟨_, rfl, _, rfl, _, rfl, d, .ref (ad v), rfl, ?_, t, ad v, _, _, rfl, e1, fz, sm_fr D0 D1 yx.1 yx.2, sm_fr D0 D1 zb.1 (by omega), _, rfl, ?_⟩
    ·have := DGet.k (k := .inr v) F1.at_
     rw [mKV_get (g := fun n => V.ref (ad n)) hv1] at this
     exact this
    rw [lt_fr D0 yx.1 zb.1]
    refine ite2 (fun c => ?_) (fun c => ?_)
    ·refine ⟨_, rfl, _, rfl, _, rfl, d, _, rfl, .k (k := .inr v) F1.at_ (by rw [mKV_len]; omega), ?_⟩
     refine put rfl ?_ ns (fun n => ⟨.inl, fun h => h.elim id fun h => by rw [h]; exact hv1⟩) Fo.nd ?_
     ·unfold put1
      rw [ey]
      simp only [if_true, ez]
      rw [if_pos (by simpa using c)]
     ·rw [upd_same, mKV_put hv1]
      exact congrArg (fun z => some (HO.dK z)) (mKV_congr fun n _ => by split <;> rfl)
    ·refine k _ (But.of s1) ⟨ns, ad, F1.at_, F1.nd, F1.sub, fun n hn => ?_, fun n hn => ?_⟩
     ·unfold put1
      rw [ey]
      have : n ≠ v := fun z => hn (by rw [z]; exact hv1)
      simp only [if_neg this]
      exact Fo.no n hn
     ·obtain ⟨k', q1, q2⟩ := F1.is n hn
      refine ⟨k', ?_, q2⟩
      unfold put1
      rw [ey]
      by_cases c3 : n = v
      ·subst c3
       simp only [if_true, ez]
       rw [ez] at q1
       rw [if_neg (by simpa using c)]
       exact q1
      ·simp only [if_neg c3]
       exact q1
   ·rw [mKV_none hv1]
    refine iteT ?_
    refine iteT ⟨_, rfl, _, rfl, _, rfl, d, _, rfl, .k (k := .inr v) F1.at_ (by rw [mKV_len]; omega), ?_⟩
    refine put rfl ?_ (ns ++ [v]) (fun n => by simp) ?_ ?_
    ·unfold put1
     rw [ey]
     simp only [if_true, Fo.no v hv1]
    ·rw [List.nodup_append]
     refine ⟨Fo.nd, by simp, fun a ha b hb e => ?_⟩
     have : b = v := by simpa using hb
     subst this
     subst e
     exact hv1 ha
    ·rw [upd_same, mKV_new hv1]
     exact congrArg (fun z => some (HO.dK z)) (mKV_congr fun n _ => by split <;> rfl)
  ·rw [mKV_none hu1]
   refine iteF ?_
   have e : put1 f u v x = f := funext fun n => by
    unfold put1
    rw [Fo.no u hu1]
   refine k _ (But.refl _ _) ?_
   rw [e]
   exact ⟨ns, ad, Fo⟩
end
end Ev
set_option Elab.async false
set_option linter.all false
set_option maxRecDepth 100000
namespace Ev
open PySem L2
theorem fr_zero {D : Int} (h : 0 < D) : fr 0 D = (0, 1) := by
 unfold fr
 have : (Int.gcd 0 D : Int) = D := by
  rw [Int.gcd_zero_left]
  omega
 rw [this]
 refine Prod.ext ?_ ?_
 ·exact Int.zero_ediv _
 ·exact Int.ediv_self (by omega)
theorem put2_wk {es : List Te} {c : Te -> Int} {a : Str} {N : Nat} {f : Fo} {t : Te} (ht : t ∈ es) (h : ∀ n k, f n = some k -> ∃ m, m <= N /\ Wk es c a n m k) : ∀ n k, put2 c f t n = some k -> ∃ m, m <= N + 2 /\ Wk es c a n m k :=
 put1_wk (N := N + 1) ⟨t, ht, rfl, .inr rfl⟩ (put1_wk ⟨t, ht, rfl, .inl rfl⟩ h)
theorem wk_small {es : List Te} {c : Te -> Int} {a : Str} {N : Nat} {f : Fo} (hG : ∀ t ∈ es, 0 <= c t /\ c t <= 2 ^ 133) (hN : N <= 2000) (h : ∀ n k, f n = some k -> ∃ m, m <= N /\ Wk es c a n m k) : ∀ n k, f n = some k -> 0 <= k /\ k < 2 ^ 180 := fun n k e => by
 obtain ⟨m, hm, w⟩ := h n k e
 have := w.le hG
 have : (m : Int) * 2 ^ 133 <= 2000 * 2 ^ 133 := Int.mul_le_mul_of_nonneg_right (by omega) (by decide)
 omega
section
variable {P : Program} {w : World} {K : PySem.W.Frag} {mg : Str -> Option Value} {base : Heap}
theorem scApart : FnScope ["web", "weight", "rule", "one", "other", "gaps", "found", "step", "tie", "gap"] ["web", "weight", "rule", "one", "other"] (defScope sApart) := ⟨rfl, rfl, rfl, by decide +kernel, rfl, by decide +kernel, by decide +kernel⟩
def spApart (K : PySem.W.Frag) (C : Addr) : Sp := fun vs H Q _ => ∃ (p : Addr) (wt m D : Int) (a b : Str) (hs : List (Str × Int)) (ts : List (Str × Str)) (fp : List Addr), ∃ r ∈ rl, vs = [.ref p, .int wt, .str r.1, .str a, .str b] /\ guB ["fall", "calm"] r = true /\ WebAt K C H p hs ts fp /\ Ok wt m hs ts /\ DOk hs D /\ a ∈ hs.map (·.1) /\ b ∈ hs.map (·.1) /\
 (∀ H', Same H H' -> IsD (tsOf ts) (cst (isL r) r.2.2.2 wt m D hs (tsOf ts)) a b none -> Q .non H') /\ ∀ x t H', Same H H' -> FrAt H' t (fr x D) -> IsD (tsOf ts) (cst (isL r) r.2.2.2 wt m D hs (tsOf ts)) a b (some x) -> 0 <= x -> x < 2 ^ 180 -> Q (.ref t) H'
theorem ok_apart {fa C : Addr} {fd : FuncData} (F : Fun K "apart_by" "apart_by" sApart fa fd) (T : Txt K mg C) (cG : Cal P w K mg base 5 "checked_guard" ["rule"] spCGuard) (cW : Cal P w K mg base 3 "check_weight" ["thing"] spCWeight) (cH : CalM P w K mg base C 1 "has_hand" ["self", "thing"] (spHas K C)) (cB : Cal P w K mg base 7 "gaps_by_tie" ["web", "weight", "rule"] (spByTie K C)) (cF : Cal P w K mg base 2 "fraction_of" ["top", "below"] spFrac) (cN : CalM P w K mg base C 1 "hands" ["self"] (spHands K C)) (cS : Cal P w K mg base 4 "shorten" ["found", "one", "other", "gap"] spShort) : FnOk P w K mg base CX0 8 fa fd ["web", "weight", "rule", "one", "other"] (spApart K C) := by
 refine F.ok scApart (fun vs H Q E h => ?_) (fun cdv A outer s H vs Q E hr h => ?_)
 ·obtain ⟨p, wt, m, D, a, b, hs, ts, fp, r, hr, rfl, _⟩ := h
  rfl
 ·obtain ⟨p, wt, m, D, a, b, hs, ts, fp, r, hr', rfl, gu, W, O, DO, ha, hb, k1, k2⟩ := h
  have hu := hu_of hr
  have sz := sizeLine_eq
  have hr1 : Room 1 _ := hr.mono (by decide)
  have hr2 : Room 2 _ := hr.mono (by decide)
  have hr3 : Room 3 _ := hr.mono (by decide)
  have hr4 : Room 4 _ := hr.mono (by decide)
  have hr5 : Room 5 _ := hr.mono (by decide)
  refine' ⟨_, ?r0, ?kk⟩
  case' r0 => refine' pss_cons ?s1 ?r1
  case' r1 => refine' pss_cons ?s2 ?r2
  case' r2 => refine' pss_cons ?s3 ?r3
  case' r3 => refine' pss_cons ?s4 ?r4
  case' r4 => refine' pss_cons ?s5 ?r5
  case' r5 => refine' pss_cons ?s6 ?r6
  case' r6 => refine' pss_cons ?s7 ?r7
  case' r7 => refine' pss_one ?s8
  case s1 => exact ps_expr (pe_fn cG hr5 (pa_cons (pv 2) pa_nil))
  case s2 => exact ps_expr (pe_fn cW hr3 (pa_cons (pv 1) pa_nil))
  case s3 => exact ps_if (PW.pt (pw_or (pt_not (pt_val (pe_mt cH T.cl hr1 (pv 0) (pa_cons (pv 3) pa_nil)))) (pw_or1 (pt_not (pt_val (pe_mt cH T.cl hr1 (pv 0) (pa_cons (pv 4) pa_nil))))))) pss_never pss_nil
  case s4 => exact ps_set (i := 5) scApart.nd rfl (Or.inl rfl) (pe_fn cB hr (pa_cons (pv 0) (pa_cons (pv 1) (pa_cons (pv 2) pa_nil))))
  case s5 => exact ps_set (i := 6) scApart.nd rfl (Or.inl rfl) pe_dnewK
  case s6 => exact ps_dput hu (pv 6) (pv 3) (pe_fn cF hr2 (pa_cons pe_int (pa_cons pe_int pa_nil))) rfl
  case' s7 => refine' ps_for PassesOwn.never rfl (pi_list (pe_mt0 cN T.cl hr1 (pv 0))) (pg_name (i := 7) scApart.nd rfl (Or.inl rfl)) (pss_one ?b0)
  case' b0 => refine' ps_thawT (ps_for PassesOwn.never rfl (pi_itemsT (pe_itemsT (pv 5))) ?g1 ?b1)
  case g1 => exact pg_tup rfl (pgs_cons (pg_name (i := 8) scApart.nd rfl (Or.inl rfl)) (pgs_cons (pg_name (i := 9) scApart.nd rfl (Or.inl rfl)) pgs_nil))
  case' b1 => refine' pss_cons ?b2 (pss_one ?b3)
  case b2 => exact ps_expr (pe_fn cS hr4 (pa_cons (pv 6) (pa_cons (pe_ix ix_tup (pv 8) pe_int (fun _ _ => rfl)) (pa_cons (pe_ix ix_tup (pv 8) pe_int (fun _ _ => rfl)) (pa_cons (pv 9) pa_nil)))))
  case b3 => exact ps_expr (pe_fn cS hr4 (pa_cons (pv 6) (pa_cons (pe_ix ix_tup (pv 8) pe_int (fun _ _ => rfl)) (pa_cons (pe_ix ix_tup (pv 8) pe_int (fun _ _ => rfl)) (pa_cons (pv 9) pa_nil)))))
  case s8 => exact ps_ret (pe_dget1 hu (pv 6) (pv 4) ⟨rfl, rfl, rfl, rfl⟩)
  case' kk => skip
  obtain ⟨dx, d1, l2, d3, zs, as, efp, e1, e2, e3, e4, e5, e6, e7⟩ := W.ex
  have hnH : (flds d1 l2 d3).lookup ("has_hand" : Str) = none := flds_no _ _ _ (by decide +kernel) (by decide +kernel) (by decide +kernel)
  have hnN : (flds d1 l2 d3).lookup ("hands" : Str) = none := flds_no _ _ _ (by decide +kernel) (by decide +kernel) (by decide +kernel)
  have es := tes_of O.G
  have t64 : (tsOf ts).length < 64 := by rw [tsOf_len]; exact O.G.t64
  have n8 : (nmsOf hs).length <= 8 := by have := O.G.nlen; have := O.G.h8; omega
  have mn : ∀ n, n ∈ nmsOf hs ↔ n ∈ hs.map (·.1) := fun n => (nms_perm hs).mem_iff
  have cb := cst_le (l := isL r) (g := r.2.2.2) O DO es
  refine ⟨_, rfl, r, hr', rfl, gu, fun H1 s1 => ?_⟩
  refine ⟨_, rfl, wt, rfl, O.w1, O.w2, ?_⟩
  refine ⟨_, rfl, p, dx, _, rfl, s1 _ _ e1, hnH, _, rfl, p, a, hs, ts, fp, rfl, W.same s1, _, rfl, ?_⟩
  rw [decide_eq_true ha]
  refine iteF ⟨_, rfl, p, dx, _, rfl, s1 _ _ e1, hnH, _, rfl, p, b, hs, ts, fp, rfl, W.same s1, _, rfl, ?_⟩
  rw [decide_eq_true hb]
  refine iteF ?_
  refine ⟨_, rfl, _, rfl, _, rfl, p, wt, m, D, hs, ts, fp, r, hr', rfl, gu, W.same s1, O, DO, fun g H2 s2 ng ⟨ga, hg, gv⟩ => ?_⟩
  generalize hc : cst (isL r) r.2.2.2 wt m D hs (tsOf ts) = c at *
  refine setG ?_
  dsimp only
  intro d hd
  have s3 := Same.new (o := .dK []) hd
  have e3' : upd H2 d (.dK []) d = some (.dK []) := upd_same
  have hd0 := s2.free hd
  have ngd : g ≠ d := ne_of_none hg hd
  generalize upd H2 d (.dK []) = H3 at s3 e3' ⊢
  refine setG ?_
  dsimp only
  refine ⟨0, 1, rfl, by decide, by decide, by decide, fun t0 ht0 => ?_⟩
  have s4 := Same.new (o := .tup [.int (fr 0 1).1, .int (fr 0 1).2]) ht0
  have e4' : FrAt (upd H3 t0 (.tup [.int (fr 0 1).1, .int (fr 0 1).2])) t0 (fr 0 D) := by
   rw [fr_zero DO.pos]
   exact upd_same
  generalize upd H3 t0 (.tup [.int (fr 0 1).1, .int (fr 0 1).2]) = H4 at s4 e4' ⊢
  have d4 := s4 _ _ e3'
  refine ⟨_, rfl, _, rfl, d, _, rfl, .k (k := .inr a) d4 (by show 0 < sizeLine; omega), ?_⟩
  have b5 : But d H2 (upd H4 d (.dK (putK [] (.inr a) (.ref t0)))) := fun c o e n => by
   rw [upd_ne n]
   exact s4 _ _ (s3 _ _ e)
  have F5 : FoX (upd H4 d (.dK (putK [] (.inr a) (.ref t0)))) d (nmsOf hs) (start a) D := by
   refine ⟨[a], fun _ => t0, upd_same, by simp, fun n hn => ?_, fun n hn => ?_, fun n hn => ?_⟩
   ·have : n = a := by simpa using hn
    rw [this]
    exact (mn a).mpr ha
   ·have : n ≠ a := by simpa using hn
    exact if_neg this
   ·have : n = a := by simpa using hn
    subst this
    exact ⟨0, if_pos rfl, TS.dk d4 _ _ e4'⟩
  generalize upd H4 d (.dK (putK [] (.inr a) (.ref t0))) = H5 at b5 F5 ⊢
  have hw0 : ∀ n k, start a n = some k -> ∃ m, m <= 0 /\ Wk (tsOf ts) c a n m k := fun n k e => by
   unfold start at e
   by_cases c1 : n = a
   ·subst c1
    rw [if_pos rfl] at e
    cases e
    exact ⟨0, Nat.le_refl _, .nil⟩
   ·rw [if_neg c1] at e
    cases e
  have hg5 := b5 _ _ hg ngd
  have gv5 : GaV H5 ga (tsOf ts) c D := fun t ht => b5 _ _ (gv t ht) (ne_of_none (gv t ht) hd)
  have s05 : Same H H5 := fun c o e => b5 _ _ (s2 _ _ (s1 _ _ e)) (ne_of_none (s2 _ _ (s1 _ _ e)) hd)
  clear b5 s4 s3 d4 e4' e3' hg gv
  dsimp only
  refine seqG (fun σ H' => ∃ (v7 v8 v9 : Option V) (f : Fo), σ = [some (.ref p), some (.int wt), some (.str r.1), some (.str a), some (.str b), some (.ref g), some (.ref d), v7, v8, v9] /\ But d H5 H' /\ FoX H' d (nmsOf hs) f D /\ f = rounds (tsOf ts) c (start a) (nmsOf hs).length /\ ∀ n k, f n = some k -> ∃ m, m <= 2000 /\ Wk (tsOf ts) c a n m k) ?last ?loop
  case last =>
   rintro σ H6 ⟨v7, v8, v9, f, rfl, b6, ⟨ns, ad, F6⟩, ef, hw⟩
   have D6 := bf_ends (b := b) (fun t ht => (cb t ht).1) ((mn a).mpr ha) (fun t ht => ⟨(mn _).mpr (es t ht).1, (mn _).mpr (es t ht).2.1⟩) ef hw
   have s06 : Same H H6 := fun c o e => b6 _ _ (s05 _ _ e) (ne_of_none (s2 _ _ (s1 _ _ e)) hd)
   refine ⟨_, rfl, d, rfl, .inl ⟨_, .inl F6.at_⟩, _, rfl, _, .k (k := .inr b) F6.at_, ?_⟩
   by_cases c1 : b ∈ ns
   ·rw [mKV_get (g := fun n => V.ref (ad n)) c1]
    obtain ⟨x, ex, fx⟩ := F6.is b c1
    rw [ex] at D6
    have := wk_small cb (by decide) hw b x ex
    exact k2 x (ad b) H6 s06 fx D6 this.1 this.2
   ·rw [mKV_none c1]
    rw [F6.no b c1] at D6
    exact k1 H6 s06 D6
  case loop =>
   intro N hN
   have W5 := W.same s05
   refine ⟨_, rfl, p, dx, _, rfl, s05 _ _ e1, hnN, p, hs, ts, fp, rfl, W5, fun l hl => ?_⟩
   have s6 := Same.new (o := .lst ((nmsOf hs).map V.str)) hl
   have e6' : upd H5 l (.lst ((nmsOf hs).map V.str)) l = some (.lst ((nmsOf hs).map V.str)) := upd_same
   obtain ⟨ns5, ad5, F5⟩ := F5
   have nld : l ≠ d := Ne.symm (ne_of_none F5.at_ hl)
   generalize upd H5 l (.lst ((nmsOf hs).map V.str)) = H6 at s6 e6' ⊢
   have F6 : FoX H6 d (nmsOf hs) (start a) D := ⟨ns5, ad5, F5.keep (TS.of s6) fun o e => s6 _ _ e⟩
   have hg6 := s6 _ _ hg5
   have gv6 := gv5.same s6
   refine ⟨l, rfl, ⟨_, .of e6'⟩, for_list (K := K) (a := l) (xs := (nmsOf hs).map V.str) (fun i σ H' => ∃ (v7 v8 v9 : Option V), σ = [some (.ref p), some (.int wt), some (.str r.1), some (.str a), some (.str b), some (.ref g), some (.ref d), v7, v8, v9] /\ But d H6 H' /\ FoX H' d (nmsOf hs) (rounds (tsOf ts) c (start a) i) D /\ ∀ n k, rounds (tsOf ts) c (start a) i n = some k -> ∃ m, m <= i * 200 /\ Wk (tsOf ts) c a n m k)
    ⟨none, none, none, rfl, But.refl _ _, F6, by rw [Nat.zero_mul]; exact hw0⟩ (fun i σ H' _ ⟨_, _, _, _, q, _⟩ => .of (q _ _ e6' nld)) ?_ ?_⟩
   rotate_left 1
   ·rintro σ H' ⟨v7, v8, v9, rfl, b7, F7, hw⟩
    rw [List.length_map] at F7 hw
    exact hN _ _ ⟨v7, v8, v9, _, rfl, fun c o e n => b7 _ _ (s6 _ _ e) n, F7, rfl, fun n k e => by
     obtain ⟨m, hm, w⟩ := hw n k e
     exact ⟨m, by omega, w⟩⟩
   rintro i y σ H7 hy ⟨v7, v8, v9, rfl, b7, F7, hw⟩
   have i8 : i < 8 := by
    have := (List.getElem?_eq_some_iff.mp hy).1
    rw [List.length_map] at this
    omega
   have hg7 := b7 _ _ hg6 ngd
   have gv7 : GaV H7 ga (tsOf ts) c D := fun t ht => b7 _ _ (gv6 t ht) (by
    have q1 := F6.choose_spec.choose_spec.at_
    exact ne_of (gv6 t ht) q1 (by intro z; cases z))
   refine setG ?_
   dsimp only
   refine ⟨g, _, hg7, ?_⟩
   refine ⟨_, rfl, g, _, rfl, .inl hg7, fun v hv => ?_⟩
   have s8 := Same.new (o := itemsV v g) hv
   have e8 : upd H7 v (itemsV v g) v = some (itemsV v g) := upd_same
   generalize upd H7 v (itemsV v g) = H8 at s8 e8 ⊢
   have hg8 := s8 _ _ hg7
   have gv8 := gv7.same s8
   have F8 : FoX H8 d (nmsOf hs) (rounds (tsOf ts) c (start a) i) D := F7.keep (TS.of s8) fun o e => s8 _ _ e
   have b8 : But d H6 H8 := b7.trans (But.of s8)
   refine ⟨v, g, _, rfl, e8, hg8, fun o => ?_⟩
   have dd8 : ∃ kv, H8 d = some (.dK kv) := ⟨_, F8.choose_spec.choose_spec.at_⟩
   refine for_itemsT (fun j σ H' => ∃ (v8 v9 : Option V), σ = [some (.ref p), some (.int wt), some (.str r.1), some (.str a), some (.str b), some (.ref g), some (.ref d), some y, v8, v9] /\ H' g = some (.frz o (.dT (tKV (tsOf ts) fun t => .ref (ga t)))) /\ (∀ c o, c ≠ g -> c ≠ d -> H8 c = some o -> H' c = some o) /\ FoX H' d (nmsOf hs) (((tsOf ts).take j).foldl (put2 c) (rounds (tsOf ts) c (start a) i)) D /\ ∀ n k, ((tsOf ts).take j).foldl (put2 c) (rounds (tsOf ts) c (start a) i) n = some k -> ∃ m, m <= i * 200 + 2 * j /\ Wk (tsOf ts) c a n m k)
    ⟨v8, v9, rfl, upd_same, (fun c o n _ e => by rw [upd_ne n]; exact e), F8.keep (TS.dt hg8) (fun o e => by rw [upd_ne (Ne.symm ngd)]; exact e), hw⟩ (fun j σ H' _ ⟨_, _, _, q, _⟩ => q) ?_ ?_
   rotate_left 1
   ·rintro σ H' ⟨v8, v9, rfl, h1, h2, h3, h4⟩
    rw [tKV_len, List.take_length] at h3 h4
    refine ⟨o, h1, some y, v8, v9, rfl, fun c o e n => ?_, ?_, fun n k e => ?_⟩
    ·by_cases z : c = g
     ·subst z
      rw [hg6] at e
      cases e
      exact upd_same
     ·rw [upd_ne z]
      exact h2 c o z n (b8 _ _ e n)
    ·have tq : TS H' (upd H' g (.dT (tKV (tsOf ts) fun t => .ref (ga t)))) := fun c xs e => by
      rw [upd_ne (ne_of e h1 (by intro z; cases z))]
      exact e
     exact FoX.keep (f := rounds (tsOf ts) c (start a) (i + 1)) h3 tq fun o e => by rw [upd_ne (Ne.symm ngd)]; exact e
    ·obtain ⟨m, hm, w⟩ := h4 n k e
     exact ⟨m, by omega, w⟩
   rintro j ky x σ H9 hx ⟨v8, v9, rfl, h1, h2, h3, h4⟩ tt q ht hq
   obtain ⟨t, htt, rfl, rfl⟩ := tKV_at hx
   have mt := List.mem_of_getElem? htt
   have j64 : j < 64 := by
    have := (List.getElem?_eq_some_iff.mp htt).1
    omega
   have ti := es t mt
   have s9 := Same.new (o := .tup [.ref q, .ref (ga t)]) ht
   have e9 : upd H9 tt (.tup [.ref q, .ref (ga t)]) tt = some (.tup [.ref q, .ref (ga t)]) := upd_same
   show gTup _ _ _ _ _ (upd H9 tt (.tup [.ref q, .ref (ga t)])) _
   generalize upd H9 tt (.tup [.ref q, .ref (ga t)]) = H10 at s9 e9 ⊢
   have hq' : H10 q = some (.tup [.str t.1, .str t.2]) := s9 _ _ hq
   refine ⟨tt, _, rfl, .of e9, rfl, _, _, rfl, _, _, rfl, rfl, ?_⟩
   have gt : FrAt H10 (ga t) (fr (c t) D) := by
    obtain ⟨kv, hkv⟩ := dd8
    exact s9 _ _ (h2 _ _ (ne_of (gv8 t mt) hg8 (by intro z; cases z)) (ne_of (gv8 t mt) hkv (by intro z; cases z)) (gv8 t mt))
   have F10 := h3.keep (TS.of s9) fun o e => s9 _ _ e
   have ef := foldl_take (f := put2 c) (b := rounds (tsOf ts) c (start a) i) htt
   have hwk2 := put2_wk mt h4
   have hwk1 := put1_wk (x := c t) (u := t.1) (v := t.2) ⟨t, mt, rfl, .inl rfl⟩ h4
   generalize ((tsOf ts).take j).foldl (put2 c) (rounds (tsOf ts) c (start a) i) = f at *
   have cbt := cb t mt
   refine ⟨_, rfl, _, rfl, q, _, _, _, rfl, rfl, .of hq', rfl, _, rfl, q, _, _, _, rfl, rfl, .of hq', rfl, _, rfl, d, ga t, t.1, t.2, nmsOf hs, f, D, c t, rfl, F10, gt, (mn _).mpr ti.2.1, by omega, DO.pos, DO.big, cbt.1, cbt.2, wk_small cb (by omega) h4, fun H11 b11 F11 => ?_⟩
   have nq : q ≠ d := ne_of hq' F10.choose_spec.choose_spec.at_ (by intro z; cases z)
   have hq11 := b11 _ _ hq' nq
   have gt11 : FrAt H11 (ga t) (fr (c t) D) := b11 _ _ gt (ne_of gt F10.choose_spec.choose_spec.at_ (by intro z; cases z))
   refine ⟨_, rfl, _, rfl, q, _, _, _, rfl, rfl, .of hq11, rfl, _, rfl, q, _, _, _, rfl, rfl, .of hq11, rfl, _, rfl, d, ga t, t.2, t.1, nmsOf hs, _, D, c t, rfl, F11, gt11, (mn _).mpr ti.1, by omega, DO.pos, DO.big, cbt.1, cbt.2, wk_small cb (by omega) hwk1, fun H12 b12 F12 => ?_⟩
   refine ⟨_, _, rfl, b12 _ _ (b11 _ _ (s9 _ _ h1) ngd) ngd, fun c o n1 n2 e => b12 _ _ (b11 _ _ (s9 _ _ (h2 c o n1 n2 e)) n2) n2, ?_, ?_⟩
   ·rw [ef]
    exact F12
   ·rw [ef]
    exact hwk2
end
end Ev
set_option Elab.async false
set_option linter.all false
set_option maxRecDepth 100000
namespace L2
open PySem PySem.Spec PyProof.Rows PySem.W
section
variable {prog : Program} {w : World} {A : Around} {E : Value -> Shared -> Prop} {s : Shared}
theorem rgt_str {x y : Str} {t u : Tok} {Q : Value -> Shared -> Prop} (h : Q (.bool (decide (y.cps.toList < x.cps.toList))) s) : wpAny (model prog w) A (richCompare .Gt (.str x t) (.str y u)) Q E s :=
 richCompare_gives (op := .Gt) (typeIs_str s x t) (typeIs_str s y u) PySem.F.slot_str_gt PySem.F.entry_str_gt (PySem.F.args_str_gt_2 _ _) (gives_str_gt x y t u) (fun e => nomatch e) h
theorem rlt_str {x y : Str} {t u : Tok} {Q : Value -> Shared -> Prop} (h : Q (.bool (decide (x.cps.toList < y.cps.toList))) s) : wpAny (model prog w) A (richCompare .Lt (.str x t) (.str y u)) Q E s :=
 richCompare_gives (op := .Lt) (typeIs_str s x t) (typeIs_str s y u) PySem.F.slot_str_lt PySem.F.entry_str_lt (PySem.F.args_str_lt_2 _ _) (gives_str_lt x y t u) (fun e => nomatch e) h
def txt2 (x y : Str) (i : Nat) : Str := if i = 0 then x else y
theorem txt2_at {x y : Str} {t u : Tok} {i : Nat} {v : Value} (h : (#[Value.str x t, .str y u] : Array Value)[i]? = some v) : ∃ tk, v = .str (txt2 x y i) tk := by
 match i, h with
 | 0, h => exact ⟨t, by simpa [txt2] using h.symm⟩
 | 1, h => exact ⟨u, by simpa [txt2] using h.symm⟩
 | _ + 2, h => simp at h
theorem max_strs {a b : Str} {t u : Tok} {Q : Value -> Shared -> Prop} (hh : A.handled = none)
  (h : ∀ h' tk tk2, (∀ c o, s.heap.get? c = some o -> h'.get? c = some o) -> Q (.str (if a.cps.toList < b.cps.toList then b else a) tk2) { s with heap := h', toks := tk }) : wpAny (model prog w) A (call (.builtin "max") [.str a t, .str b u]) Q E s := by
 have hT : (s.heap.push { cls := .type "tuple", data := .seq #[.str a t, .str b u] }).IsTuple s.heap.objs.size #[.str a t, .str b u] := ⟨_, Heap.get?_push_size _ rfl, rfl, 0, rfl⟩
 have hsz : (s.heap.push { cls := .type "tuple", data := .seq #[.str a t, .str b u] }).objs.size = s.heap.objs.size + 1 := Heap.size_push ..
 refine call_max_two (wpAny_pyIter_tuple hT ⟨_, [_, s.heap.objs.size], [_], _, _, _, fun i j => decide ((txt2 a b j).cps.toList < (txt2 a b i).cps.toList), rfl, Walks.tuple (A := A.in1) hh _ s.heap.objs.size (by rw [hsz]; exact Nat.ne_of_lt (Nat.lt_succ_self _)) #[.str a t, .str b u], ⟨⟨_, Heap.get?_push_size _ rfl, rfl, rfl⟩, hT.push _⟩, fun c hc => ?_, by simp, fun i j vi vj s' Q' E' hi hj h' => ?_, fun v h' tk hP hk => ?_⟩)
 ·show c < ((s.heap.push _).push _).objs.size
  rw [Heap.size_push, hsz]
  rcases List.mem_cons.mp hc with e1 | hc
  ·rw [e1, hsz]
   exact Nat.lt_succ_self _
  ·rw [List.mem_singleton.mp hc]
   exact Nat.lt_succ_of_lt (Nat.lt_succ_self _)
 ·obtain ⟨_, rfl⟩ := txt2_at hi
  obtain ⟨_, rfl⟩ := txt2_at hj
  exact rgt_str h'
 ·have hold : ∀ c o, s.heap.get? c = some o -> h'.get? c = some o := fun c o e => by
   refine hk c o (fun hm => ?_) (Heap.get?_push_of_some _ (Heap.get?_push_of_some _ e))
   have q := Heap.lt_size e
   rw [List.mem_singleton.mp hm, hsz] at q
   exact Nat.lt_irrefl _ (Nat.lt_of_succ_lt q)
  obtain ⟨tk2, rfl⟩ := txt2_at hP
  have e : txt2 a b (argBest (fun i j => decide ((txt2 a b j).cps.toList < (txt2 a b i).cps.toList)) ((#[Value.str a t, .str b u] : Array Value).size - 1)) = if a.cps.toList < b.cps.toList then b else a := by
   show txt2 a b (if decide (a.cps.toList < b.cps.toList) = true then 1 else 0) = _
   by_cases c : a.cps.toList < b.cps.toList
   ·rw [if_pos (decide_eq_true c), if_pos c]
    rfl
   ·rw [if_neg (by simpa using c), if_neg c]
    rfl
  rw [e]
  exact h h' tk tk2 hold
theorem min_strs {a b : Str} {t u : Tok} {Q : Value -> Shared -> Prop} (hh : A.handled = none)
  (h : ∀ h' tk tk2, (∀ c o, s.heap.get? c = some o -> h'.get? c = some o) -> Q (.str (if b.cps.toList < a.cps.toList then b else a) tk2) { s with heap := h', toks := tk }) : wpAny (model prog w) A (call (.builtin "min") [.str a t, .str b u]) Q E s := by
 have hT : (s.heap.push { cls := .type "tuple", data := .seq #[.str a t, .str b u] }).IsTuple s.heap.objs.size #[.str a t, .str b u] := ⟨_, Heap.get?_push_size _ rfl, rfl, 0, rfl⟩
 have hsz : (s.heap.push { cls := .type "tuple", data := .seq #[.str a t, .str b u] }).objs.size = s.heap.objs.size + 1 := Heap.size_push ..
 refine call_min_two (wpAny_pyIter_tuple hT ⟨_, [_, s.heap.objs.size], [_], _, _, _, fun i j => decide ((txt2 a b i).cps.toList < (txt2 a b j).cps.toList), rfl, Walks.tuple (A := A.in1) hh _ s.heap.objs.size (by rw [hsz]; exact Nat.ne_of_lt (Nat.lt_succ_self _)) #[.str a t, .str b u], ⟨⟨_, Heap.get?_push_size _ rfl, rfl, rfl⟩, hT.push _⟩, fun c hc => ?_, by simp, fun i j vi vj s' Q' E' hi hj h' => ?_, fun v h' tk hP hk => ?_⟩)
 ·show c < ((s.heap.push _).push _).objs.size
  rw [Heap.size_push, hsz]
  rcases List.mem_cons.mp hc with e1 | hc
  ·rw [e1, hsz]
   exact Nat.lt_succ_self _
  ·rw [List.mem_singleton.mp hc]
   exact Nat.lt_succ_of_lt (Nat.lt_succ_self _)
 ·obtain ⟨_, rfl⟩ := txt2_at hi
  obtain ⟨_, rfl⟩ := txt2_at hj
  exact rlt_str h'
 ·have hold : ∀ c o, s.heap.get? c = some o -> h'.get? c = some o := fun c o e => by
   refine hk c o (fun hm => ?_) (Heap.get?_push_of_some _ (Heap.get?_push_of_some _ e))
   have q := Heap.lt_size e
   rw [List.mem_singleton.mp hm, hsz] at q
   exact Nat.lt_irrefl _ (Nat.lt_of_succ_lt q)
  obtain ⟨tk2, rfl⟩ := txt2_at hP
  have e : txt2 a b (argBest (fun i j => decide ((txt2 a b i).cps.toList < (txt2 a b j).cps.toList)) ((#[Value.str a t, .str b u] : Array Value).size - 1)) = if b.cps.toList < a.cps.toList then b else a := by
   show txt2 a b (if decide (b.cps.toList < a.cps.toList) = true then 1 else 0) = _
   by_cases c : b.cps.toList < a.cps.toList
   ·rw [if_pos (decide_eq_true c), if_pos c]
    rfl
   ·rw [if_neg (by simpa using c), if_neg c]
    rfl
  rw [e]
  exact h h' tk tk2 hold
end
def rMax2S : List V -> Hp -> VK -> Prop := fun xs H Q => ∃ a b, xs = [.str a, .str b] /\ Q (.str (if a.cps.toList < b.cps.toList then b else a)) H
def rMin2S : List V -> Hp -> VK -> Prop := fun xs H Q => ∃ a b, xs = [.str a, .str b] /\ Q (.str (if b.cps.toList < a.cps.toList then b else a)) H
theorem call_max2S {X : Cx} (hc : X.calm = true) : CallR X (.builtin "max") rMax2S := by
 intro pins s σ H xs us Q I r h
 obtain ⟨i, j, rfl, q⟩ := h
 obtain ⟨u, w', rfl, ⟨t, rfl⟩, ⟨t', rfl⟩⟩ := vals2 r
 exact max_strs (I.ok.hd hc) fun h' tk tk2 k => ⟨V.str _, H, I.kept k, ⟨_, rfl⟩, q⟩
theorem call_min2S {X : Cx} (hc : X.calm = true) : CallR X (.builtin "min") rMin2S := by
 intro pins s σ H xs us Q I r h
 obtain ⟨i, j, rfl, q⟩ := h
 obtain ⟨u, w', rfl, ⟨t, rfl⟩, ⟨t', rfl⟩⟩ := vals2 r
 exact min_strs (I.ok.hd hc) fun h' tk tk2 k => ⟨V.str _, H, I.kept k, ⟨_, rfl⟩, q⟩
end L2
set_option Elab.async false
set_option linter.all false
set_option maxRecDepth 100000
namespace Ev
open PySem L2
theorem pe_bmK {X : Cx} {K : PySem.W.Frag} {o e : Expr} {es : List Expr} {to : TE} {t : TA} {name : Str} {apos cpos : Pos} {T id : String} {r : V -> List V -> Hp -> VK -> Prop} (pa : PlainAttrs T) (slot : Slot T name id) (hty : typeOf (.builtin id) = pure (.type "method_descriptor")) (hm : MtR X id r) (ho : PE X o to) (ha : PA X (e :: es) t)
  (hK : X.K = K := by rfl) (hbase : attributeBase o name X.env (eval o X.env) = eval o X.env := by rfl)
  (hfew : ((backTo cpos (starEach (e :: es) X.env)).all (fun x => !x.1) && (backToKw cpos (keywordEach [] X.env)).all (fun x => x.1.isSome)
   && decide ((e :: es).length + ([] : List Keyword).length + (if ([] : List Keyword).isEmpty then 0 else 1) < 30)) = true := by rfl)
  (hline : (apos.endLine == cpos.line) = true := by rfl) (hs : starEach (e :: es) X.env = (false, eval e X.env) :: starEach es X.env := by rfl) (hplain : (backTo cpos (starEach es X.env)).any (·.1) = false := by rfl) :
  PE X (.Call (.Attribute o name apos) (e :: es) [] cpos) (tBM K T r to t) := by
 subst hK
 exact pe_bm pa slot hty hm ho ha hbase hfew hline hs hplain
theorem rule_words : ∀ r ∈ rl, guB ["fall", "calm"] r = true -> r.1.length <= 20 /\ decide (Txt.slice r.1 none (some 6) = "shares") = decide (r.2.2.2 = none) /\ decide (Txt.slice r.1 (some (-4)) none = "fall") = decide (r.2.2.2 = some "fall") /\ (r.2.2.2 = none ∨ r.2.2.2 = some "fall" ∨ r.2.2.2 = some "calm") := by decide +kernel
theorem deq (x y : Str) : decide (V.str x = V.str y) = decide (x = y) := by
 by_cases e : x = y
 ·simp [e]
 ·simp [e]
theorem comp_fst {K : PySem.W.Frag} {a D : Addr} {ys : List V} {hs : List (Str × Str)} {H : Hp} {Q : VK} {σ0 : St} (hσ : σ0 = [none, none]) (ha : H a = some (.lst ys)) (tu : TupsAt K H ys (hs.map kT)) (h8 : hs.length <= 1000) (hD : H D = none) (j : Nat) (pick : Str × Str -> Str) (hj : ∀ h : Str × Str, [some (V.str h.1), some (V.str h.2)][j]? = some (some (V.str (pick h))))
  (q : ∀ H', Same H H' -> H' D = some (.lst ((hs.map pick).map V.str)) -> Q (.ref D) H') : CompW (Itl K a) (gTup K 2 (gCons (gName 0) (gCons (gName 1) gNil))) tYes (tVar j) σ0 D H Q := by
 have sz := sizeLine_eq
 have le := Paired.length tu
 rw [List.length_map] at le
 refine comp_list (own := 2) (fv := []) (xs := ys) hσ gok2 (fun i out H' => Same H H' /\ H' D = some (.lst out) /\ out = ((hs.take i).map pick).map V.str) ⟨Same.new hD, upd_same, rfl⟩ (fun i out H' _ ⟨sm, _, _⟩ => .of (sm _ _ ha)) (fun out H4 ⟨sm, hD4, eo⟩ => ?_) (fun i y out H' hy ⟨sm, hD', eo⟩ => ?_)
 ·rw [le, List.take_length] at eo
  subst eo
  exact q _ sm hD4
 ·obtain ⟨h, hh, p, rfl, hp⟩ := paired_map tu hy
  refine ⟨_, ⟨p, _, _, rfl, .of (sm _ _ (hpT hp)), rfl⟩, rfl, fun Nx hN => yesT ?_⟩
  refine ⟨_, hj h, out, hD', ?_, hN _ _ ⟨same_but sm hD, upd_same, ?_⟩⟩
  ·rw [eo, List.length_map, List.length_map, List.length_take]
   omega
  ·rw [take_succ_map _ hh, List.map_append, eo]
   rfl
theorem pairs_str {K : PySem.W.Frag} {H : Hp} {hs0 : List (Str × Int)} (nd : (hs0.map (·.1)).Nodup) : ∀ {hs : List (Str × Int)} {ys : List V}, (∀ h ∈ hs, h ∈ hs0) -> TupsAt K H ys (hs.map kH) -> PairsAt K H ys (mKV (hs.map (·.1)) fun n => .int (strOf hs0 n))
 | [], _, _, .nil => .nil
 | h :: hs, _, hm, .cons a t => by
  obtain ⟨p, e, q⟩ := a
  refine .cons ⟨p, e, ?_⟩ (pairs_str (K := K) nd (fun x hx => hm x (List.mem_cons_of_mem _ hx)) t)
  show H p = some (.tup [.str h.1, .int (strOf hs0 h.1)])
  rw [strOf_eq nd (show (h.1, h.2) ∈ hs0 from hm h List.mem_cons_self)]
  exact q
def Lg (D : Int) (x : Int × Int) (k : Int) : Prop := Cr D x k /\ x.2 <= 2000000 /\ x.1 < 2 ^ 51
def LgV (H : Hp) (ga : Te -> Addr) (es : List Te) (c : Te -> Int) (D : Int) : Prop := ∀ t ∈ es, ∃ x, FrAt H (ga t) x /\ Lg D x (c t)
theorem LgV.ts {H H' : Hp} {ga : Te -> Addr} {es : List Te} {c : Te -> Int} {D : Int} (h : LgV H ga es c D) (s : TS H H') : LgV H' ga es c D := fun t ht => by
 obtain ⟨x, h1, h2⟩ := h t ht
 exact ⟨x, s _ _ h1, h2⟩
def LgAt (H : Hp) (d : Addr) (es : List Te) (c : Te -> Int) (D : Int) : Prop := ∃ ga : Te -> Addr, H d = some (.dT (tKV es fun t => .ref (ga t))) /\ LgV H ga es c D
def oT (ts : List (Str × Str)) : List Te := ts.map fun t => ord2 t.1 t.2
theorem oT_mem {ts : List (Str × Str)} (t : Te) : t ∈ oT ts ↔ t ∈ tsOf ts := by
 rw [tsOf_mem]
 exact List.mem_map
theorem oT_nodup {hs : List (Str × Int)} {ts : List (Str × Str)} (G : Good hs ts) : (oT ts).Nodup := by
 have h := G.tnd
 unfold oT
 rw [List.nodup_iff_pairwise_ne, List.pairwise_map] at h ⊢
 exact h.imp fun ne z => ne (by show kT _ = kT _; rw [z])
theorem bnd_comm {g : Option Str} {wt m : Int} (s r : Int) : bnd g wt m s r = bnd g wt m r s := by
 unfold bnd
 rw [Int.add_comm s r, Int.mul_comm s r, Int.mul_assoc 2 s r, Int.mul_comm s r, <- Int.mul_assoc]
theorem own_ord {g : Option Str} {wt m : Int} {hs : List (Str × Int)} (t : Str × Str) : own1 g wt m hs (ord2 t.1 t.2) = own1 g wt m hs t := by
 rcases ord2_or t.1 t.2 with z | z
 ·rw [z]
 ·rw [z]
  exact bnd_comm _ _
theorem ord_minmax {a b : Str} (n : a ≠ b) : ((if b.cps.toList < a.cps.toList then b else a), (if a.cps.toList < b.cps.toList then b else a)) = ord2 a b := by
 unfold ord2 ltS
 by_cases c : a.cps.toList < b.cps.toList
 ·rw [if_pos c, if_neg (List.lt_asymm c), if_pos (decide_eq_true c)]
 ·rw [if_neg c, if_neg (fun z => c (of_decide_eq_true z))]
  by_cases c2 : b.cps.toList < a.cps.toList
  ·rw [if_pos c2]
  ·exact absurd (Sum.inr.inj (kLt_tot (a := .inr a) (b := .inr b) (decide_eq_false c) (decide_eq_false c2))) n
section
variable {P : Program} {w : World} {K : PySem.W.Frag} {mg : Str -> Option Value} {base : Heap}
theorem scOwn : FnScope ["_law_hands", "_law_ties", "_law_weight", "_law_rule", "_law_strength", "_law_ends", "_law_many", "_law_found", "_law_one", "_law_other", "_law_top", "_law_below"] ["_law_hands", "_law_ties", "_law_weight", "_law_rule"] (defScope sOwn) := ⟨rfl, rfl, rfl, by decide +kernel, rfl, by decide +kernel, by decide +kernel⟩
def spOwn (K : PySem.W.Frag) : Sp := fun vs H Q _ => ∃ (lh lt : Addr) (wt D : Int) (hs : List (Str × Int)) (ts : List (Str × Str)) (ys zs : List V), ∃ r ∈ rl, vs = [.ref lh, .ref lt, .int wt, .str r.1] /\ guB ["fall", "calm"] r = true /\ H lh = some (.lst ys) /\ TupsAt K H ys (hs.map kH) /\ H lt = some (.lst zs) /\ TupsAt K H zs (ts.map kT) /\ Good hs ts /\ 1 <= wt /\ wt <= 1000000000 /\ DOk hs D /\
 ∀ d m H', Same H H' -> H d = none -> isMost hs ts m -> LgAt H' d (oT ts) (c0 r.2.2.2 wt m D hs) D -> Q (.ref d) H'
set_option maxHeartbeats 1600000 in
theorem ok_own {f : Addr} {fd : FuncData} (F : Fun K "_law_own" "_law_own" sOwn f fd) (B : Bi mg) : FnOk P w K mg base CX0 1 f fd ["_law_hands", "_law_ties", "_law_weight", "_law_rule"] (spOwn K) := by
 refine F.ok scOwn (fun vs H Q E h => ?_) (fun cdv A outer s H vs Q E hr h => ?_)
 ·obtain ⟨lh, lt, wt, D, hs, ts, ys, zs, r, hr, rfl, _⟩ := h
  rfl
 ·obtain ⟨lh, lt, wt, D, hs, ts, ys, zs, r, hr', rfl, gu, h1, h2, h3, h4, G, w1, w2, DO, k⟩ := h
  have sz := sizeLine_eq
  have hu := roomU hr 0
  refine' ⟨_, ?r0, ?kk⟩
  case' r0 => refine' pss_cons ?s1 ?r1
  case' r1 => refine' pss_cons ?s2 ?r2
  case' r2 => refine' pss_cons ?s3 ?r3
  case' r3 => refine' pss_cons ?s4 ?r4
  case' r4 => refine' pss_cons ?s5 ?r5
  case' r5 => refine' pss_one ?s6
  case s1 => exact ps_set (i := 4) scOwn.nd rfl (Or.inl rfl) (pe_callTy (call_dictOf rfl) (by rfl) B.dict PyProof.Rows.Boot.«dict» (pa_cons (pv 0) pa_nil))
  case' s2 => refine' ps_set (i := 5) scOwn.nd rfl (Or.inr rfl) (pe_op op_cat ?a1 ?a2)
  case' a1 => refine' pe_comp ["_law_one", "_law_other"] 2 [] (pi_list (pv 1)) ?a3 (fun fp s H => pts_nil) (fun fp s H => pv 0)
  case a3 => exact fun fp s H => pg_tupC (n := 2) (pgs_cons (pg_name (i := 0) (show (["_law_one", "_law_other"] : List Str).Nodup by decide +kernel) rfl (Or.inl rfl)) (pgs_cons (pg_name (i := 1) (show (["_law_one", "_law_other"] : List Str).Nodup by decide +kernel) rfl (Or.inl rfl)) pgs_nil))
  case' a2 => refine' pe_comp ["_law_one", "_law_other"] 2 [] (pi_list (pv 1)) ?a4 (fun fp s H => pts_nil) (fun fp s H => pv 1)
  case a4 => exact fun fp s H => pg_tupC (n := 2) (pgs_cons (pg_name (i := 0) (show (["_law_one", "_law_other"] : List Str).Nodup by decide +kernel) rfl (Or.inl rfl)) (pgs_cons (pg_name (i := 1) (show (["_law_one", "_law_other"] : List Str).Nodup by decide +kernel) rfl (Or.inl rfl)) pgs_nil))
  case' s3 => refine' ps_set (i := 6) scOwn.nd rfl (Or.inl rfl) (pe_op op_add pe_int (pe_callB (call_max rfl) (by rfl) B.max PyProof.Rows.Boot.«max» (pa_cons (pe_thaw ?c0) pa_nil)))
  case' c0 => refine' pe_comp ["_law_name", "_law_ends"] 1 [5] (pi_keys (pv 4)) (fun fp s H => pg_name (i := 0) (show (["_law_name", "_law_ends"] : List Str).Nodup by decide +kernel) rfl (Or.inl rfl)) (fun fp s H => pts_nil) ?c1
  case c1 => exact fun fp s H => pe_bmK (K := K) PySem.F.plainAttrs_list PySem.F.slot_list_count PySem.F.type_list_count mt_count (pv 1) (pa_cons (pv 0) pa_nil)
  case s4 => exact ps_set (i := 7) scOwn.nd rfl (Or.inl rfl) pe_dnewT
  case' s5 => refine' ps_for PassesOwn.never rfl (pi_list (pv 1)) (pg_tup rfl (pgs_cons (pg_name (i := 8) scOwn.nd rfl (Or.inl rfl)) (pgs_cons (pg_name (i := 9) scOwn.nd rfl (Or.inl rfl)) pgs_nil))) ?b0
  case' b0 => refine' pss_cons ?b1 ?b2
  case' b2 => refine' pss_cons ?b3 ?b4
  case' b4 => refine' pss_cons ?b5 (pss_one ?b6)
  case b1 => exact ps_set (i := 10) scOwn.nd rfl (Or.inl rfl) (pe_op op_mul (pv 2) (pe_op op_add (pe_dget hu (pv 4) (pv 8) (fun _ _ => rfl)) (pe_dget hu (pv 4) (pv 9) (fun _ _ => rfl))))
  case b3 => exact ps_set (i := 11) scOwn.nd rfl (Or.inl rfl) (pe_op op_mul (pe_dget hu (pv 4) (pv 8) (fun _ _ => rfl)) (pe_dget hu (pv 4) (pv 9) (fun _ _ => rfl)))
  case' b5 => refine' ps_if ?t1 ?u1 (pss_one (ps_if ?t2 ?u2 ?u3))
  case t1 => exact pt_cmpR op_eq (pe_slice sl_str (pv 3) po_none (po_some pe_int)) pe_str (nomark _)
  case t2 => exact pt_cmpR op_eq (pe_slice sl_str (pv 3) (po_some (pe_un un_neg pe_int)) po_none) pe_str (nomark _)
  case u1 => exact pss_one (ps_set (i := 10) scOwn.nd rfl (Or.inl rfl) (pe_op op_sub (pe_op op_mul (pv 10) (pv 6)) pe_int))
  case u2 => exact pss_one (ps_set (i := 11) scOwn.nd rfl (Or.inl rfl) (pe_op op_mul pe_int (pv 11)))
  case u3 => exact pss_one (ps_set (i := 10) scOwn.nd rfl (Or.inl rfl) (pe_op op_sub (pv 10) pe_int))
  case b6 => exact ps_dput hu (pv 7) (pe_tup (pa_cons (pe_callB (call_min2S rfl) (by rfl) B.min PyProof.Rows.Boot.«min» (pa_cons (pv 8) (pa_cons (pv 9) pa_nil))) (pa_cons (pe_callB (call_max2S rfl) (by rfl) B.max PyProof.Rows.Boot.«max» (pa_cons (pv 8) (pa_cons (pv 9) pa_nil))) pa_nil))) (pe_tup (pa_cons (pv 10) (pa_cons (pv 11) pa_nil))) rfl
  case s6 => exact ps_ret (pv 7)
  case' kk => skip
  obtain ⟨rl20, rw1, rw2, rw3⟩ := rule_words r hr' gu
  have pz := pairs_str (K := K) G.hnd (fun h hh => hh) h2
  have mk : mergeK [] (mKV (hs.map (·.1)) fun n => V.int (strOf hs n)) = mKV (hs.map (·.1)) fun n => V.int (strOf hs n) := mergeK_nil (by rw [mKV_keys]; exact List.Pairwise.map _ (fun a b n z => n (Sum.inr.inj z)) G.hnd)
  refine ⟨_, rfl, lh, ys, _, rfl, h1, pz, by rw [mKV_len, List.length_map]; have := G.h8; omega, fun d hd => ?_⟩
  rw [mk]
  have s1 := Same.new (o := .dK (mKV (hs.map (·.1)) fun n => V.int (strOf hs n))) hd
  have hd1 : upd H d (.dK (mKV (hs.map (·.1)) fun n => V.int (strOf hs n))) d = some _ := upd_same
  generalize upd H d (.dK (mKV (hs.map (·.1)) fun n => V.int (strOf hs n))) = H1 at s1 hd1 ⊢
  have t64 := G.t64
  refine ⟨_, rfl, lt, rfl, ⟨_, .of (s1 _ _ h3)⟩, fun D1 hD1 => ?_⟩
  refine comp_fst rfl (s1 _ _ h3) (h4.same s1) (by omega) hD1 0 (·.1) (fun _ => rfl) fun H2 s2 hD1' => ?_
  refine ⟨_, rfl, lt, rfl, ⟨_, .of (s2 _ _ (s1 _ _ h3))⟩, fun D2 hD2 => ?_⟩
  refine comp_fst rfl (s2 _ _ (s1 _ _ h3)) ((h4.same s1).same s2) (by omega) hD2 1 (·.2) (fun _ => rfl) fun H3 s3 hD2' => ?_
  refine ⟨D1, D2, _, _, rfl, rfl, s3 _ _ hD1', hD2', by simp only [List.length_map]; omega, fun le hle => ?_⟩
  have s4 := Same.new (o := .lst ((ts.map (·.1)).map V.str ++ (ts.map (·.2)).map V.str)) hle
  have hle4 : upd H3 le (.lst ((ts.map (·.1)).map V.str ++ (ts.map (·.2)).map V.str)) le = some (.lst ((endsOf ts).map V.str)) := by
   rw [upd_same]
   unfold endsOf
   rw [List.map_append]
  have s14 := s2.trans (s3.trans s4)
  generalize upd H3 le (.lst ((ts.map (·.1)).map V.str ++ (ts.map (·.2)).map V.str)) = H4 at s14 hle4 ⊢
  have hd4 := s14 _ _ hd1
  have s04 := s1.trans s14
  clear s2 s3 s4 hD1' hD2' hle
  refine setG ?_
  dsimp only
  refine seqG (fun σ H' => ∃ m : Int, σ = [some (.ref lh), some (.ref lt), some (.int wt), some (.str r.1), some (.ref d), some (.ref le), some (.int (1 + m)), none, none, none, none, none] /\ isMost hs ts m /\ Same H4 H') ?m2 ?m1
  case m1 =>
   intro N hN
   refine ⟨d, _, hd4, _, rfl, d, _, rfl, hd4, fun o D hD => ?_⟩
   have hkl : (mKV (hs.map (·.1)) fun n => V.int (strOf hs n)).length = hs.length := by rw [mKV_len, List.length_map]
   have base' : ∀ {b u}, H4 b = some u -> u ≠ .dK (mKV (hs.map (·.1)) fun n => V.int (strOf hs n)) -> upd H4 d (.frz o (.dK (mKV (hs.map (·.1)) fun n => V.int (strOf hs n)))) b = some u := fun e ne => by
    rw [upd_ne (ne_of e hd4 ne)]
    exact e
   refine comp_it (own := 1) (fv := [some (.ref le)]) rfl gok1 hs.length (fun i out H' => Same (upd H4 d (.frz o (.dK (mKV (hs.map (·.1)) fun n => V.int (strOf hs n))))) H' /\ H' D = some (.lst out) /\ out = (((hs.map (·.1)).map fun n => ((endsOf ts).count n : Int)).take i).map V.int) ⟨Same.new hD, upd_same, rfl⟩ (fun out H' ⟨sm, hD', eo⟩ => ?_) (fun i out H' hi ⟨sm, hD', eo⟩ => ?_)
   ·have hf := sm _ _ (show upd H4 d (.frz o (.dK (mKV (hs.map (·.1)) fun n => V.int (strOf hs n)))) d = some _ from upd_same)
    have Dd : D ≠ d := ne_of hD' hf (by intro z; cases z)
    have ll : ((hs.map (·.1)).map fun n => ((endsOf ts).count n : Int)).length = hs.length := by rw [List.length_map, List.length_map]
    rw [<- ll, List.take_length] at eo
    refine ⟨⟨hf, by omega⟩, o, hf, D, (hs.map (·.1)).map fun n => ((endsOf ts).count n : Int), rfl, .of ?_, by have := G.h1; omega, fun m hm hle => ⟨_, _, rfl, rfl, hN _ _ ⟨m, rfl, most_of G hm hle, fun b u e => ?_⟩⟩⟩
    ·rw [upd_ne Dd, hD', eo]
    ·by_cases z : b = d
     ·subst z
      rw [upd_same, <- hd4]
      exact e
     ·rw [upd_ne z]
      exact sm _ _ (by rw [upd_ne z]; exact e)
   ·have hf := sm _ _ (show upd H4 d (.frz o (.dK (mKV (hs.map (·.1)) fun n => V.int (strOf hs n)))) d = some _ from upd_same)
    refine ⟨⟨hf, by omega⟩, fun x H2 y => ?_⟩
    obtain ⟨eH, kk, xx, hk, rfl⟩ := y
    subst eH
    obtain ⟨n, hn, rfl, rfl⟩ := mKV_at hk
    have hle2 := sm _ _ (base' hle4 (by intro z; cases z))
    refine ⟨_, rfl, rfl, fun Nx hN2 => yesT ?_⟩
    refine ⟨_, rfl, .inl ⟨rfl, _, .of hle2⟩, _, rfl, le, endsOf ts, n, rfl, rfl, hle2, out, hD', ?_, hN2 _ _ ⟨same_but sm hD, upd_same, ?_⟩⟩
    ·rw [eo, List.length_map, List.length_take, List.length_map, List.length_map]
     have := G.h8
     omega
    ·rw [List.take_add_one, List.getElem?_map, hn, List.map_append, eo]
     rfl
  rintro σ H5 ⟨m, rfl, M, s5⟩
  have hd5 := s5 _ _ hd4
  have s05 := s04.trans s5
  have O : Ok wt m hs ts := ⟨w1, w2, G, M⟩
  have mp := M.pos G
  intro lf hlf
  have s6 := Same.new (o := .dT []) hlf
  have hlf6 : upd H5 lf (.dT []) lf = some (.dT []) := upd_same
  have nf := s05.free hlf
  have s06 := s05.trans s6
  have hd6 := s6 _ _ hd5
  generalize upd H5 lf (.dT []) = H6 at s06 hlf6 hd6 ⊢
  clear s6 hlf s5 s04 s14
  have lfl : lf ≠ lt := (ne_of_none h3 nf).symm
  have lfd : lf ≠ d := ne_of hlf6 hd6 (by intro z; cases z)
  have ond := oT_nodup G
  refine setG ?_
  dsimp only
  refine seqG (fun σ H' => ∃ (v8 v9 v10 v11 : Option V), σ = [some (.ref lh), some (.ref lt), some (.int wt), some (.str r.1), some (.ref d), some (.ref le), some (.int (1 + m)), some (.ref lf), v8, v9, v10, v11] /\ Same H H' /\ LgAt H' lf (oT ts) (c0 r.2.2.2 wt m D hs) D) ?m4 ?m3
  case m4 =>
   rintro σ H7 ⟨v8, v9, v10, v11, rfl, s7, h7⟩
   exact ⟨_, rfl, k lf m H7 s7 nf M h7⟩
  intro N hN
  refine ⟨_, rfl, lt, rfl, ⟨_, .of (s06 _ _ h3)⟩, for_list (K := K) (a := lt) (xs := zs) (fun i σ H' => ∃ (v8 v9 v10 v11 : Option V), σ = [some (.ref lh), some (.ref lt), some (.int wt), some (.str r.1), some (.ref d), some (.ref le), some (.int (1 + m)), some (.ref lf), v8, v9, v10, v11] /\ Same H H' /\ H' d = some (.dK (mKV (hs.map (·.1)) fun n => V.int (strOf hs n))) /\ LgAt H' lf ((oT ts).take i) (c0 r.2.2.2 wt m D hs) D)
   ⟨none, none, none, none, rfl, s06, hd6, fun _ => 0, hlf6, fun t ht => nomatch ht⟩ (fun i σ H' _ ⟨_, _, _, _, _, q, _⟩ => .of (q _ _ h3)) ?_ ?_⟩
  rotate_left 1
  ·rintro σ H' ⟨v8, v9, v10, v11, rfl, s7, _, h7⟩
   have := Paired.length h4
   rw [List.length_map] at this
   rw [this, show ts.length = (oT ts).length from (List.length_map _).symm, List.take_length] at h7
   exact hN _ _ ⟨v8, v9, v10, v11, rfl, s7, h7⟩
  rintro i y σ H7 hy ⟨v8, v9, v10, v11, rfl, s7, hd7, ga, h7, l7⟩
  obtain ⟨t, ht, q, rfl, hq⟩ := paired_map h4 hy
  have mt := List.mem_of_getElem? ht
  have ti := G.tin t mt
  have tn := (G.tok t mt).2.2
  have hoi : (oT ts)[i]? = some (ord2 t.1 t.2) := by
   unfold oT
   rw [List.getElem?_map, ht]
   rfl
  have g1 := (G.hok _ (strOf_mem ti.1)).2
  have g2 := (G.hok _ (strOf_mem ti.2)).2
  have e1 := mKV_get (g := fun n => V.int (strOf hs n)) ti.1
  have e2 := mKV_get (g := fun n => V.int (strOf hs n)) ti.2
  have eo : own1 r.2.2.2 wt m hs t = bnd r.2.2.2 wt m (strOf hs t.1) (strOf hs t.2) := rfl
  dsimp only at g1 g2
  generalize strOf hs t.1 = sa at g1 e1 eo
  generalize strOf hs t.2 = sb at g2 e2 eo
  have D1 : DGet H7 d (.str t.1) (some (.int sa)) := by
   rw [<- e1]
   exact .k (k := Sum.inr t.1) hd7
  have D2 : DGet H7 d (.str t.2) (some (.int sb)) := by
   rw [<- e2]
   exact .k (k := Sum.inr t.2) hd7
  refine ⟨q, _, rfl, .of (s7 _ _ (hpT hq)), rfl, _, _, rfl, _, _, rfl, rfl, ?_⟩
  refine ⟨_, rfl, _, rfl, _, rfl, d, _, rfl, D1, _, rfl, _, rfl, d, _, rfl, D2, _, _, rfl, rfl, _, _, rfl, rfl, .inl ⟨by omega, by omega⟩, ?_⟩
  refine setG ?_
  dsimp only
  refine ⟨_, rfl, _, rfl, d, _, rfl, D1, _, rfl, _, rfl, d, _, rfl, D2, _, _, rfl, rfl, .inl ⟨by omega, by omega⟩, ?_⟩
  refine setG ?_
  dsimp only
  refine seqG (fun σ H' => H' = H7 /\ σ = [some (.ref lh), some (.ref lt), some (.int wt), some (.str r.1), some (.ref d), some (.ref le), some (.int (1 + m)), some (.ref lf), some (.str t.1), some (.str t.2), some (.int (own1 r.2.2.2 wt m hs t).1), some (.int (own1 r.2.2.2 wt m hs t).2)]) ?put ?num
  case num =>
   intro N2 hN2
   refine ⟨_, rfl, _, rfl, r.1, rfl, by omega, rfl, _, rfl, ?_⟩
   rw [deq, rw1]
   unfold bnd at eo
   rw [eo] at hN2
   refine ite2 (fun c => ?_) (fun c => ?_)
   ·have c' : r.2.2.2 = none := by simpa using c
    rw [if_neg (by rw [c']; simp), if_neg (by rw [c']; simp)] at hN2
    refine ⟨_, rfl, _, rfl, _, _, rfl, rfl, .inr ⟨by omega, by omega⟩, _, _, rfl, rfl, hN2 _ _ ⟨rfl, ?_⟩⟩
    rw [Int.add_comm 1 m]
    rfl
   ·have c' : ¬ r.2.2.2 = none := by simpa using c
    refine ⟨_, rfl, _, rfl, _, rfl, r.1, rfl, by omega, rfl, _, rfl, ?_⟩
    rw [deq, rw2]
    refine ite2 (fun c2 => ?_) (fun c2 => ?_)
    ·have c2' : r.2.2.2 = some "fall" := by simpa using c2
     rw [if_pos c2'] at hN2
     refine ⟨_, rfl, _, _, rfl, rfl, .inl ⟨by decide, by decide⟩, hN2 _ _ ⟨rfl, ?_⟩⟩
     rw [Int.mul_assoc]
     rfl
    ·have c2' : ¬ r.2.2.2 = some "fall" := by simpa using c2
     have c3 : r.2.2.2 = some "calm" := by
      rcases rw3 with z | z | z
      ·exact absurd z c'
      ·exact absurd z c2'
      ·exact z
     rw [if_neg c2', if_pos c3] at hN2
     exact ⟨_, rfl, _, _, rfl, rfl, hN2 _ _ ⟨rfl, rfl⟩⟩
  rintro σ H8 ⟨rfl, rfl⟩
  refine ⟨_, rfl, _, rfl, by show 2 <= sizeLine; decide, fun tp htp => ?_⟩
  have s8 := Same.new (o := .tup [.int (own1 r.2.2.2 wt m hs t).1, .int (own1 r.2.2.2 wt m hs t).2]) htp
  have e8 : FrAt (upd H8 tp (.tup [.int (own1 r.2.2.2 wt m hs t).1, .int (own1 r.2.2.2 wt m hs t).2])) tp (own1 r.2.2.2 wt m hs t) := upd_same
  generalize upd H8 tp (.tup [.int (own1 r.2.2.2 wt m hs t).1, .int (own1 r.2.2.2 wt m hs t).2]) = H9 at s8 e8 ⊢
  refine ⟨_, rfl, _, rfl, _, rfl, _, _, rfl, _, rfl, _, rfl, _, _, rfl, by show 2 <= sizeLine; decide, fun kp hkp => ?_⟩
  rw [show [V.str (if t.2.cps.toList < t.1.cps.toList then t.2 else t.1), V.str (if t.1.cps.toList < t.2.cps.toList then t.2 else t.1)] = (kT (ord2 t.1 t.2)).map kV by
   rw [<- ord_minmax tn]
   rfl]
  have s9 := Same.new (o := .tup ((kT (ord2 t.1 t.2)).map kV)) hkp
  have e9 : upd H9 kp (.tup ((kT (ord2 t.1 t.2)).map kV)) kp = some (.tup ((kT (ord2 t.1 t.2)).map kV)) := upd_same
  generalize upd H9 kp (.tup ((kT (ord2 t.1 t.2)).map kV)) = H10 at s9 e9 ⊢
  have s810 := s8.trans s9
  have h10 := s810 _ _ h7
  have t64 := G.t64
  have lo : (oT ts).length = ts.length := List.length_map _
  refine ⟨lf, _, rfl, .t (k := kT (ord2 t.1 t.2)) h10 e9 (by rw [tKV_len, List.length_take]; omega), ?_⟩
  have tq := TS.dt (o := .dT (putK (tKV ((oT ts).take i) fun t => .ref (ga t)) (kT (ord2 t.1 t.2)) (.ref tp))) h10
  have nk : (oT ts).take i ++ [ord2 t.1 t.2] = (oT ts).take (i + 1) := by
   obtain ⟨hi, e⟩ := List.getElem?_eq_some_iff.mp hoi
   rw [List.take_succ_eq_append_getElem hi, e]
  have nv : valV (tKV ((oT ts).take i) fun t => V.ref (ga t)) (kT (ord2 t.1 t.2)) = none := valV_none_of (by
   intro z
   have nd := kT_nodup (List.Nodup.sublist (List.take_sublist (i + 1) (oT ts)) ond) (fun t => V.ref (ga t))
   rw [<- nk] at nd
   unfold tKV at nd z
   rw [List.map_append, List.map_append, List.nodup_append] at nd
   exact nd.2.2 _ z _ (by simp) rfl)
  have okt := O.own (g := r.2.2.2) ti.1 ti.2
  refine ⟨_, _, _, _, rfl, fun c o e => ?_, by rw [upd_ne (Ne.symm lfd)]; exact s810 _ _ hd7, fun u => if u = ord2 t.1 t.2 then tp else ga u, ?_, ?_⟩
  ·rw [upd_ne (ne_of_none e nf)]
   exact s810 _ _ (s7 _ _ e)
  ·rw [upd_same, tKV_more ond hoi, putK_new _ nv]
  ·intro u hu
   by_cases c : u = ord2 t.1 t.2
   ·subst c
    simp only [if_true]
    refine ⟨_, tq _ _ (s9 _ _ e8), ?_, okt.2.2, own_top O ti.1 ti.2⟩
    have mo : ord2 t.1 t.2 ∈ tsOf ts := (oT_mem _).mp (List.mem_of_getElem? hoi)
    have to := tes_of G _ mo
    have := c0_cr (g := r.2.2.2) O DO to.1 to.2.1 to.2.2
    rw [own_ord] at this
    exact this
   ·simp only [if_neg c]
    rw [<- nk] at hu
    rcases List.mem_append.mp hu with hu | hu
    ·exact (l7.ts ((TS.of s810).trans tq)) u hu
    ·exact absurd (by simpa using hu) c
end
end Ev
set_option Elab.async false
set_option linter.all false
set_option maxRecDepth 100000
namespace Ev
open PySem L2
theorem rule_least : ∀ r ∈ rl, r.1.length <= 20 /\ decide (Txt.slice r.1 none (some 5) = "least") = isL r := by decide +kernel
section
variable {P : Program} {w : World} {K : PySem.W.Frag} {mg : Str -> Option Value} {base : Heap}
theorem scLGaps : FnScope ["_law_own_here", "_law_rule", "_law_found", "_law_one", "_law_other", "_law_most", "_law_near"] ["_law_own_here", "_law_rule"] (defScope sLGaps) := ⟨rfl, rfl, rfl, by decide +kernel, rfl, by decide +kernel, by decide +kernel⟩
def spLGaps : Sp := fun vs H Q _ => ∃ (d : Addr) (es : List Te) (c : Te -> Int) (D : Int), ∃ r ∈ rl, vs = [.ref d, .str r.1] /\ LgAt H d es c D /\ es.Nodup /\ es.length < 64 /\ 0 < D /\ (∀ t ∈ es, 0 <= c t) /\
 ∀ d' H', Same H H' -> LgAt H' d' es (if isL r = true then mx es c else c) D -> Q (.ref d') H'
theorem ok_lgaps {f : Addr} {fd : FuncData} (F : Fun K "_law_gaps" "_law_gaps" sLGaps f fd) : FnOk P w K mg base CX0 1 f fd ["_law_own_here", "_law_rule"] spLGaps := by
 refine F.ok scLGaps (fun vs H Q E h => ?_) (fun cdv A outer s H vs Q E hr h => ?_)
 ·obtain ⟨d, es, c, D, r, hr, rfl, _⟩ := h
  rfl
 ·obtain ⟨d, es, c, D, r, hr', rfl, ⟨ga, hd, gv⟩, nd, h64, D0, cp, k⟩ := h
  have sz := sizeLine_eq
  have hu := roomU hr 0
  obtain ⟨rl20, rw1⟩ := rule_least r hr'
  refine' ⟨_, ?r0, ?kk⟩
  case' r0 => refine' pss_cons ?s1 ?r1
  case' r1 => refine' pss_cons ?s2 ?r2
  case' r2 => refine' pss_cons ?s3 (pss_one ?s4)
  case s1 => exact ps_if (pt_cmpR op_ne (pe_slice sl_str (pv 1) po_none (po_some pe_int)) pe_str (nomark _)) (pss_one (ps_ret (pv 0))) pss_nil
  case s2 => exact ps_set (i := 2) scLGaps.nd rfl (Or.inl rfl) pe_dnewT
  case' s3 => refine' ps_thawT (ps_for PassesOwn.never rfl (pi_keysT (pv 0)) ?g3 ?b0)
  case g3 => exact pg_tup rfl (pgs_cons (pg_name (i := 3) scLGaps.nd rfl (Or.inl rfl)) (pgs_cons (pg_name (i := 4) scLGaps.nd rfl (Or.inl rfl)) pgs_nil))
  case' b0 => refine' pss_cons ?b1 ?b2
  case' b2 => refine' pss_cons ?b3 (pss_one ?b4)
  case b1 => exact ps_set (i := 5) scLGaps.nd rfl (Or.inl rfl) (pe_tup (pa_cons pe_int (pa_cons pe_int pa_nil)))
  case' b3 => refine' ps_for PassesOwn.never rfl (pi_keysTF (pv 0)) (pg_name (i := 6) scLGaps.nd rfl (Or.inl rfl)) (pss_one (ps_if ?c1 (pss_one ?c2) pss_nil))
  case' c1 => refine' PW.pt (pw_and (PW.pt (pw_or ?d1 (pw_or1 ?d2))) (pw_and1 ?d3))
  case d1 => exact pt_cmpR op_in_seq (pv 3) (pv 6) (by with_unfolding_all rfl)
  case d2 => exact pt_cmpR op_in_seq (pv 4) (pv 6) (by with_unfolding_all rfl)
  case d3 => exact pt_cmpR op_gt (pe_op op_mul (pe_ix ix_tup (pe_dget hu (pv 0) (pv 6) (fun _ _ => rfl)) pe_int (fun _ _ => rfl)) (pe_ix ix_tup (pv 5) pe_int (fun _ _ => rfl))) (pe_op op_mul (pe_ix ix_tup (pv 5) pe_int (fun _ _ => rfl)) (pe_ix ix_tup (pe_dget hu (pv 0) (pv 6) (fun _ _ => rfl)) pe_int (fun _ _ => rfl))) (nomark _)
  case c2 => exact ps_set (i := 5) scLGaps.nd rfl (Or.inl rfl) (pe_dget hu (pv 0) (pv 6) (fun _ _ => rfl))
  case b4 => exact ps_dput hu (pv 2) (pe_tup (pa_cons (pv 3) (pa_cons (pv 4) pa_nil))) (pv 5) rfl
  case s4 => exact ps_ret (pv 2)
  case' kk => skip
  refine ⟨_, rfl, _, rfl, r.1, rfl, by omega, rfl, _, rfl, ?_⟩
  rw [deq, rw1]
  refine ite2 (fun c1 => ?_) (fun c1 => ?_)
  ·have c1' : isL r = false := by simpa using c1
   refine ⟨_, rfl, k d H (Same.refl _) ?_⟩
   rw [if_neg (by rw [c1']; decide)]
   exact ⟨ga, hd, gv⟩
  have c1' : isL r = true := by simpa using c1
  rw [if_pos c1'] at k
  intro lf hlf
  have s1 := Same.new (o := .dT []) hlf
  have e1 : upd H lf (.dT []) lf = some (.dT []) := upd_same
  generalize upd H lf (.dT []) = H1 at s1 e1 ⊢
  have hd1 := s1 _ _ hd
  have lfd : lf ≠ d := Ne.symm (ne_of_none hd hlf)
  refine setG ?_
  dsimp only
  refine seqG (fun σ H' => ∃ (v3 v4 v5 v6 : Option V), σ = [some (.ref d), some (.str r.1), some (.ref lf), v3, v4, v5, v6] /\ Same H H' /\ LgAt H' lf es (mx es c) D) ?last ?loop
  case last =>
   rintro σ H7 ⟨v3, v4, v5, v6, rfl, s7, h7⟩
   exact ⟨_, rfl, k lf H7 s7 h7⟩
  intro N hN
  refine ⟨d, _, hd1, ?_⟩
  refine ⟨_, rfl, d, _, rfl, hd1, fun o => ?_⟩
  refine for_keysT (fun i σ H' => ∃ (v3 v4 v5 v6 : Option V), σ = [some (.ref d), some (.str r.1), some (.ref lf), v3, v4, v5, v6] /\ FzT d o (tKV es fun t => .ref (ga t)) H H' /\ LgAt H' lf (es.take i) (mx es c) D)
   ⟨none, none, none, none, rfl, ⟨upd_same, fun b u n e => by rw [upd_ne n]; exact s1 _ _ e⟩, fun _ => 0, by rw [upd_ne lfd]; exact e1, fun t ht => nomatch ht⟩ (fun i σ H' _ ⟨_, _, _, _, _, fz, _⟩ => fz.at_) ?_ ?_
  rotate_left 1
  ·rintro σ H' ⟨v3, v4, v5, v6, rfl, fz, gb, h7, l7⟩
   rw [tKV_len, List.take_length] at h7 l7
   refine ⟨o, fz.at_, hN _ _ ⟨v3, v4, v5, v6, rfl, fz.thaw hd, gb, by rw [upd_ne lfd]; exact h7, l7.ts ?_⟩⟩
   exact fun c xs e => by
    rw [upd_ne (ne_of e fz.at_ (by intro z; cases z))]
    exact e
  rintro i ky x σ H2 hx ⟨v3, v4, v5, v6, rfl, fz, gb, h7, l7⟩ q hq
  obtain ⟨t, htt, rfl, rfl⟩ := tKV_at hx
  have mt := List.mem_of_getElem? htt
  have hq' : H2 q = some (.tup [.str t.1, .str t.2]) := hq
  refine ⟨q, _, rfl, .of hq', rfl, _, _, rfl, _, _, rfl, rfl, ?_⟩
  refine ⟨by show 2 <= sizeLine; decide, fun z0 hz0 => ?_⟩
  have s3 := Same.new (o := .tup [.int 0, .int 1]) hz0
  have e3 : FrAt (upd H2 z0 (.tup [.int 0, .int 1])) z0 (0, 1) := upd_same
  generalize upd H2 z0 (.tup [.int 0, .int 1]) = H3 at s3 e3 ⊢
  have fz3 := fz.step s3
  have h73 := s3 _ _ h7
  have l73 := l7.ts (TS.of s3)
  refine setG ?_
  dsimp only
  refine seqG (fun σ H' => ∃ (b : Addr) (y : Int × Int) (v6 : Option V), σ = [some (.ref d), some (.str r.1), some (.ref lf), some (.str t.1), some (.str t.2), some (.ref b), v6] /\ Same H3 H' /\ FrAt H' b y /\ Lg D y (mx es c t)) ?put ?inner
  case inner =>
   intro N2 hN2
   refine ⟨_, rfl, d, o, _, rfl, fz3.at_, ?_⟩
   refine for_keysT (fun j σ H' => H' = H3 /\ ∃ (b : Addr) (y : Int × Int) (v6 : Option V), σ = [some (.ref d), some (.str r.1), some (.ref lf), some (.str t.1), some (.str t.2), some (.ref b), v6] /\ FrAt H' b y /\ Lg D y ((es.take j).foldl (stp t c) 0))
    ⟨rfl, z0, (0, 1), _, rfl, e3, ⟨by show (0 : Int) * D = 0 * 1; omega, by decide, by decide⟩, by decide, by decide⟩ (fun j σ H' _ ⟨e, _⟩ => by rw [e]; exact fz3.at_) ?_ ?_
   rotate_left 1
   ·rintro σ H' ⟨rfl, b, y, v6, rfl, fb, lb⟩
    rw [tKV_len, List.take_length] at lb
    exact hN2 _ _ ⟨b, y, v6, rfl, Same.refl _, fb, lb⟩
   rintro j ky x σ H' hx ⟨rfl, b, y, v6, rfl, fb, lb⟩ q2 hq2
   obtain ⟨near, hn, rfl, rfl⟩ := tKV_at hx
   have mn := List.mem_of_getElem? hn
   have hq2' : H' q2 = some (.tup [.str near.1, .str near.2]) := hq2
   obtain ⟨x, fx, lx⟩ := gv near mn
   have fx' : FrAt H' (ga near) x := fz3.tup hd fx
   have ef := foldl_take (f := stp t c) (b := (0 : Int)) hn
   have ti := touch_in t near
   have dg : DGet H' d (.ref q2) (some (.ref (ga near))) := .inr ⟨_, kT near, q2, .inr ⟨o, fz3.at_⟩, rfl, hq2, (tKV_get (g := fun t => V.ref (ga t)) mn).symm⟩
   have lt := Cr.lt D0 lb.1 lx.1
   generalize (es.take j).foldl (stp t c) 0 = mm at *
   have fin0 : ¬ touch t near = true -> Lg D y ((es.take (j + 1)).foldl (stp t c) 0) := fun nt => by
    rw [ef]
    unfold stp
    rw [if_neg (fun z => nt z.1)]
    exact lb
   have fin1 : touch t near = true -> (decide (y.1 * x.2 < x.1 * y.2) = true -> Lg D x ((es.take (j + 1)).foldl (stp t c) 0)) /\ (¬ decide (y.1 * x.2 < x.1 * y.2) = true -> Lg D y ((es.take (j + 1)).foldl (stp t c) 0)) := fun yt => by
    rw [ef]
    unfold stp
    refine ⟨fun c2 => ?_, fun c2 => ?_⟩
    ·rw [if_pos ⟨yt, lt.mp (of_decide_eq_true c2)⟩]
     exact lx
    ·rw [if_neg (fun z => c2 (decide_eq_true (lt.mpr z.2)))]
     exact lb
   obtain ⟨⟨x1, x2, x3⟩, x4, x5⟩ := lx
   obtain ⟨⟨y1, y2, y3⟩, y4, y5⟩ := lb
   have sx : -(2 ^ 64) < x.1 /\ x.1 < 2 ^ 64 := by omega
   have sy : -(2 ^ 64) < y.1 /\ y.1 < 2 ^ 64 := by omega
   refine ⟨_, rfl, _, rfl, q2, _, rfl, .inr (.of hq2'), rfl, rfl, _, rfl, ?_⟩
   rw [if_neg Bool.false_ne_true]
   refine ite2 (fun c1 => ?_) (fun c1 => ?_)
   ·obtain ⟨f1, f2⟩ := fin1 (by rw [ti, c1]; rfl)
    refine iteT ⟨_, rfl, _, rfl, d, _, rfl, dg, ga near, _, _, _, rfl, rfl, .of fx', rfl, _, rfl, b, _, _, _, rfl, rfl, .of fb, rfl, _, _, rfl, rfl, .inl sx, ?_⟩
    refine ⟨_, rfl, b, _, _, _, rfl, rfl, .of fb, rfl, _, rfl, _, rfl, d, _, rfl, dg, ga near, _, _, _, rfl, rfl, .of fx', rfl, _, _, rfl, rfl, .inl sy, _, _, rfl, rfl, _, rfl, ?_⟩
    refine ite2 (fun c2 => ?_) (fun c2 => ?_)
    ·exact ⟨_, rfl, _, rfl, d, _, rfl, dg, rfl, ga near, x, _, rfl, fx', f1 c2⟩
    ·exact ⟨rfl, b, y, _, rfl, fb, f2 c2⟩
   ·have c1' : inV (.str t.1) [.str near.1, .str near.2] = false := by simpa using c1
    refine ⟨_, rfl, _, rfl, q2, _, rfl, .inr (.of hq2'), rfl, rfl, _, rfl, ?_⟩
    rw [if_neg Bool.false_ne_true]
    rw [c1', Bool.false_or] at ti
    show if inV (.str t.2) [.str near.1, .str near.2] = true then _ else _
    refine ite2 (fun c2 => ?_) (fun c2 => ?_)
    ·obtain ⟨f1, f2⟩ := fin1 (by rw [ti, c2])
     refine ⟨_, rfl, _, rfl, d, _, rfl, dg, ga near, _, _, _, rfl, rfl, .of fx', rfl, _, rfl, b, _, _, _, rfl, rfl, .of fb, rfl, _, _, rfl, rfl, .inl sx, ?_⟩
     refine ⟨_, rfl, b, _, _, _, rfl, rfl, .of fb, rfl, _, rfl, _, rfl, d, _, rfl, dg, ga near, _, _, _, rfl, rfl, .of fx', rfl, _, _, rfl, rfl, .inl sy, _, _, rfl, rfl, _, rfl, ?_⟩
     refine ite2 (fun c2 => ?_) (fun c2 => ?_)
     ·exact ⟨_, rfl, _, rfl, d, _, rfl, dg, rfl, ga near, x, _, rfl, fx', f1 c2⟩
     ·exact ⟨rfl, b, y, _, rfl, fb, f2 c2⟩
    ·exact iteF ⟨rfl, b, y, _, rfl, fb, fin0 (by rw [ti]; exact c2)⟩
  rintro σ H4 ⟨b, y, v6, rfl, s4, fb, lb⟩
  refine ⟨_, rfl, _, rfl, _, rfl, _, rfl, by show 2 <= sizeLine; decide, fun kp hkp => ?_⟩
  have s5 := Same.new (o := .tup ((kT t).map kV)) hkp
  have e5 : upd H4 kp (.tup ((kT t).map kV)) kp = some (.tup ((kT t).map kV)) := upd_same
  show ∃ a H4', V.ref lf = V.ref a /\ DPut (upd H4 kp (.tup ((kT t).map kV))) a (.ref kp) (.ref b) H4' /\ _
  generalize upd H4 kp (.tup ((kT t).map kV)) = H5 at s5 e5 ⊢
  have s35 := s4.trans s5
  have h75 := s35 _ _ h73
  have fz5 := fz3.step s35
  refine ⟨lf, _, rfl, .t (k := kT t) h75 e5 (by rw [tKV_len, List.length_take]; omega), ?_⟩
  have tq := TS.dt (o := .dT (putK (tKV (es.take i) fun t => .ref (gb t)) (kT t) (.ref b))) h75
  have nk : es.take i ++ [t] = es.take (i + 1) := by
   obtain ⟨hi, e⟩ := List.getElem?_eq_some_iff.mp htt
   rw [List.take_succ_eq_append_getElem hi, e]
  have nv : valV (tKV (es.take i) fun t => V.ref (gb t)) (kT t) = none := valV_none_of (by
   intro z
   have nd' := kT_nodup (List.Nodup.sublist (List.take_sublist (i + 1) es) nd) (fun t => V.ref (gb t))
   rw [<- nk] at nd'
   unfold tKV at nd' z
   rw [List.map_append, List.map_append, List.nodup_append] at nd'
   exact nd'.2.2 _ z _ (by simp) rfl)
  refine ⟨_, _, _, _, rfl, ⟨by rw [upd_ne (Ne.symm lfd)]; exact fz5.at_, fun c u n e => ?_⟩, fun u => if u = t then b else gb u, ?_, ?_⟩
  ·rw [upd_ne (ne_of_none e hlf)]
   exact fz5.sm c u n e
  ·rw [upd_same, tKV_more nd htt, putK_new _ nv]
  ·intro u hu
   by_cases c1 : u = t
   ·subst c1
    simp only [if_true]
    exact ⟨y, tq _ _ (s5 _ _ fb), lb⟩
   ·simp only [if_neg c1]
    rw [<- nk] at hu
    rcases List.mem_append.mp hu with hu | hu
    ·exact (l73.ts ((TS.of s35).trans tq)) u hu
    ·exact absurd (by simpa using hu) c1
end
end Ev
set_option Elab.async false
set_option linter.all false
set_option maxRecDepth 100000
namespace Ev
open PySem L2
def Smp (es : List Te) : Prop := es.Nodup /\ ∀ t ∈ es, t.1 ≠ t.2 /\ (t.2, t.1) ∉ es
def adj1 (c : Te -> Int) (u : Str) (t : Te) : Option (Str × Int) := if t.1 = u then some (t.2, c t) else if t.2 = u then some (t.1, c t) else none
def adjL (es : List Te) (c : Te -> Int) (u : Str) : List (Str × Int) := es.filterMap (adj1 c u)
theorem adj1_some {c : Te -> Int} {u : Str} {t : Te} {p : Str × Int} (h : adj1 c u t = some p) : p.2 = c t /\ (t = (u, p.1) ∨ t = (p.1, u)) := by
 unfold adj1 at h
 by_cases c1 : t.1 = u
 ·rw [if_pos c1] at h
  cases h
  exact ⟨rfl, .inl (by rw [<- c1])⟩
 ·rw [if_neg c1] at h
  by_cases c2 : t.2 = u
  ·rw [if_pos c2] at h
   cases h
   exact ⟨rfl, .inr (by rw [<- c2])⟩
  ·rw [if_neg c2] at h
   cases h
theorem adj_mem {es : List Te} {c : Te -> Int} (S : Smp es) {u : Str} {p : Str × Int} : p ∈ adjL es c u ↔ Eg es c u p.1 p.2 := by
 unfold adjL
 rw [List.mem_filterMap]
 constructor
 ·rintro ⟨t, ht, e⟩
  obtain ⟨e1, e2⟩ := adj1_some e
  exact ⟨t, ht, e1.symm, e2⟩
 ·rintro ⟨t, ht, e, q⟩
  refine ⟨t, ht, ?_⟩
  have ne := (S.2 t ht).1
  unfold adj1
  rcases q with rfl | rfl
  ·rw [if_pos rfl, e]
  ·rw [if_neg ne, if_pos rfl, e]
theorem adj_nodup {es : List Te} {c : Te -> Int} (S : Smp es) (u : Str) : ((adjL es c u).map (·.1)).Nodup := by
 have gen : ∀ l : List Te, (∀ t ∈ l, t ∈ es) -> l.Nodup -> ((l.filterMap (adj1 c u)).map (·.1)).Nodup := by
  intro l
  induction l with
  | nil => intro _ _; simp
  | cons t l ih =>
   intro hm nd
   have n := List.nodup_cons.mp nd
   have ih' := ih (fun x hx => hm x (by simp [hx])) n.2
   cases e : adj1 c u t with
   | none =>
    rw [List.filterMap_cons, e]
    exact ih'
   | some p =>
    rw [List.filterMap_cons, e]
    simp only [List.map_cons]
    refine List.nodup_cons.mpr ⟨fun h => ?_, ih'⟩
    obtain ⟨p', hp', e'⟩ := List.mem_map.mp h
    obtain ⟨t', ht', q'⟩ := List.mem_filterMap.mp hp'
    obtain ⟨_, a1⟩ := adj1_some e
    obtain ⟨_, a2⟩ := adj1_some q'
    rw [e'] at a2
    have h1 := hm t (by simp)
    have h2 := hm t' (by simp [ht'])
    have s1 := S.2 t h1
    rcases a1 with a1 | a1 <;> rcases a2 with a2 | a2
    ·exact n.1 (by rw [a1, <- a2]; exact ht')
    ·exact s1.2 (by rw [a1]; rw [a2] at h2; exact h2)
    ·exact s1.2 (by rw [a1]; rw [a2] at h2; exact h2)
    ·exact n.1 (by rw [a1, <- a2]; exact ht')
 exact gen es (fun _ h => h) S.1
theorem adj_take {es : List Te} {c : Te -> Int} {i : Nat} {t : Te} (h : es[i]? = some t) (u : Str) : adjL (es.take (i + 1)) c u = adjL (es.take i) c u ++ (adj1 c u t).toList := by
 obtain ⟨hi, rfl⟩ := List.getElem?_eq_some_iff.mp h
 unfold adjL
 rw [List.take_succ_eq_append_getElem hi, List.filterMap_append]
 congr 1
theorem adj_len {es : List Te} {c : Te -> Int} (u : Str) : (adjL es c u).length <= es.length := List.length_filterMap_le _ _
inductive Ex (es : List Te) (c : Te -> Int) (p : List Str) (v : Str) (k : Int) : List Str -> Str -> Int -> Prop
 | refl : Ex es c p v k p v k
 | more {p' : List Str} {u w : Str} {k' x : Int} : Ex es c p v k p' u k' -> Eg es c u w x -> w ∉ p' -> Ex es c p v k (p' ++ [w]) w (k' + x)
theorem Pt.ex {es : List Te} {c : Te -> Int} {a v : Str} {p : List Str} {k : Int} (h : Pt es c a p v k) : Ex es c [a] a 0 p v k := by
 induction h with
 | one => exact .refl
 | more _ e n ih => exact .more ih e n
theorem Ex.sub {es : List Te} {c : Te -> Int} {p p' : List Str} {v u : Str} {k k' : Int} (h : Ex es c p v k p' u k') : ∀ y ∈ p, y ∈ p' := by
 induction h with
 | refl => exact fun _ h => h
 | more _ _ _ ih => exact fun y hy => List.mem_append_left _ (ih y hy)
theorem Ex.front {es : List Te} {c : Te -> Int} {p p' : List Str} {v u : Str} {k k' : Int} (h : Ex es c p v k p' u k') : (p' = p /\ u = v /\ k' = k) ∨ ∃ w x, Eg es c v w x /\ w ∉ p /\ Ex es c (p ++ [w]) w (k + x) p' u k' := by
 induction h with
 | refl => exact .inl ⟨rfl, rfl, rfl⟩
 | more _ e n ih =>
  rcases ih with ⟨rfl, rfl, rfl⟩ | ⟨w, x, e1, n1, q⟩
  ·exact .inr ⟨_, _, e, n, .refl⟩
  ·exact .inr ⟨w, x, e1, n1, .more q e n⟩
theorem Ex.same {es : List Te} {c : Te -> Int} {p p' : List Str} {v : Str} {k k' : Int} (hv : v ∈ p) (h : Ex es c p v k p' v k') : k' = k := by
 cases h with
 | refl => rfl
 | more q e n => exact absurd (q.sub _ hv) n
abbrev Wa := List Str × Int
structure Sr (es : List Te) (c : Te -> Int) (a b : Str) (ks : List Int) (qs : List Wa) : Prop where
 way : ∀ q ∈ qs, ∃ v, Pt es c a q.1 v q.2
 fnd : ∀ k ∈ ks, ∃ p, Pt es c a p b k
 all : ∀ p k, Pt es c a p b k -> k ∈ ks ∨ ∃ q ∈ qs, ∃ v, Pt es c a q.1 v q.2 /\ Ex es c q.1 v q.2 p b k
theorem Sr.start (es : List Te) (c : Te -> Int) (a b : Str) : Sr es c a b [] [([a], 0)] := ⟨fun q hq => by
 have : q = ([a], 0) := by simpa using hq
 subst this
 exact ⟨a, .one⟩, (fun k hk => by cases hk), fun p k h => .inr ⟨_, List.mem_singleton.mpr rfl, a, .one, h.ex⟩⟩
theorem pt_end {es : List Te} {c : Te -> Int} {a v w : Str} {p : List Str} {k k' : Int} (h : Pt es c a p v k) (h' : Pt es c a p w k') : v = w := Option.some.inj (h.last.symm.trans h'.last)
theorem Sr.hit {es : List Te} {c : Te -> Int} {a b : Str} {ks : List Int} {qs : List Wa} {q : Wa} (S : Sr es c a b ks (qs ++ [q])) (h : Pt es c a q.1 b q.2) : Sr es c a b (ks ++ [q.2]) qs := ⟨fun x hx => S.way x (List.mem_append_left _ hx), fun k hk => by
 rcases List.mem_append.mp hk with hk | hk
 ·exact S.fnd k hk
 ·have : k = q.2 := by simpa using hk
  subst this
  exact ⟨_, h⟩, fun p k hp => by
 rcases S.all p k hp with hk | ⟨x, hx, v, h1, h2⟩
 ·exact .inl (List.mem_append_left _ hk)
 ·rcases List.mem_append.mp hx with hx | hx
  ·exact .inr ⟨x, hx, v, h1, h2⟩
  ·have : x = q := by simpa using hx
   subst this
   have := pt_end h1 h
   subst this
   exact .inl (List.mem_append_right _ (by rw [h2.same h.mem]; simp))⟩
def exts (p : List Str) (k : Int) (l : List (Str × Int)) : List Wa := (l.filter fun e => decide (e.1 ∉ p)).map fun e => (p ++ [e.1], k + e.2)
theorem Sr.on {es : List Te} {c : Te -> Int} (Sm : Smp es) {a b v : Str} {ks : List Int} {qs : List Wa} {q : Wa} (S : Sr es c a b ks (qs ++ [q])) (h : Pt es c a q.1 v q.2) (n : v ≠ b) : Sr es c a b ks (qs ++ exts q.1 q.2 (adjL es c v)) := ⟨fun x hx => by
 rcases List.mem_append.mp hx with hx | hx
 ·exact S.way x (List.mem_append_left _ hx)
 ·obtain ⟨e, he, rfl⟩ := List.mem_map.mp hx
  obtain ⟨h1, h2⟩ := List.mem_filter.mp he
  exact ⟨e.1, .more h ((adj_mem Sm).mp h1) (by simpa using h2)⟩, S.fnd, fun p k hp => by
 rcases S.all p k hp with hk | ⟨x, hx, w, h1, h2⟩
 ·exact .inl hk
 ·rcases List.mem_append.mp hx with hx | hx
  ·exact .inr ⟨x, List.mem_append_left _ hx, w, h1, h2⟩
  ·have : x = q := by simpa using hx
   subst this
   have := pt_end h1 h
   subst this
   rcases h2.front with ⟨_, z, _⟩ | ⟨u, y, e1, n1, q1⟩
   ·exact absurd z.symm n
   ·exact .inr ⟨(x.1 ++ [u], x.2 + y), List.mem_append_right _ (List.mem_map.mpr ⟨(u, y), List.mem_filter.mpr ⟨(adj_mem Sm).mpr e1, by simpa using n1⟩, rfl⟩), u, .more h1 e1 n1, q1⟩⟩
def wN : Nat -> Nat
 | 0 => 1
 | r + 1 => 1 + (r + 1) * wN r
theorem wN_pos : ∀ r, 0 < wN r
 | 0 => Nat.one_pos
 | r + 1 => by
  show 0 < 1 + (r + 1) * wN r
  omega
def mu (qs : List Wa) : Nat := (qs.map fun q => wN (8 - q.1.length)).sum
theorem mu_app (qs rs : List Wa) : mu (qs ++ rs) = mu qs + mu rs := by
 unfold mu
 rw [List.map_append, List.sum_append]
theorem mu_len : ∀ qs : List Wa, qs.length <= mu qs
 | [] => Nat.zero_le _
 | q :: qs => by
  have := mu_len qs
  have := wN_pos (8 - q.1.length)
  show qs.length + 1 <= wN (8 - q.1.length) + mu qs
  omega
theorem sum_const : ∀ {l : List Wa} {m : Nat}, (∀ q ∈ l, q.1.length = m) -> mu l = l.length * wN (8 - m)
 | [], _, _ => by simp [mu]
 | q :: l, m, h => by
  show wN (8 - q.1.length) + mu l = (l.length + 1) * wN (8 - m)
  rw [sum_const (m := m) fun x hx => h x (by simp [hx]), h q (by simp), Nat.add_mul, Nat.one_mul, Nat.add_comm]
theorem mu_exts {es : List Te} {c : Te -> Int} (Sm : Smp es) {a v : Str} {ns : List Str} {p : List Str} {k : Int} (ha : a ∈ ns) (hn : ∀ t ∈ es, t.1 ∈ ns /\ t.2 ∈ ns) (n8 : ns.length <= 8) (h : Pt es c a p v k) : mu (exts p k (adjL es c v)) < wN (8 - p.length) := by
 have nd := adj_nodup (c := c) Sm v
 have hl : p.length + ((adjL es c v).filter fun e => decide (e.1 ∉ p)).length <= 8 := by
  have := sub_len (p := p ++ ((adjL es c v).filter fun e => decide (e.1 ∉ p)).map (·.1)) (ns := ns) ?_ ?_
  ·rw [List.length_append, List.length_map] at this
   omega
  ·rw [List.nodup_append]
   refine ⟨h.nodup, List.Nodup.sublist ((List.filter_sublist).map _) nd, fun x hx y hy e => ?_⟩
   obtain ⟨z, hz, rfl⟩ := List.mem_map.mp hy
   have := (List.mem_filter.mp hz).2
   subst e
   exact absurd hx (by simpa using this)
  ·intro y hy
   rcases List.mem_append.mp hy with hy | hy
   ·exact h.sub ha hn y hy
   ·obtain ⟨z, hz, rfl⟩ := List.mem_map.mp hy
    obtain ⟨t, ht, _, q⟩ := (adj_mem Sm).mp (List.mem_filter.mp hz).1
    rcases q with rfl | rfl
    ·exact (hn _ ht).2
    ·exact (hn _ ht).1
 have e := sum_const (l := exts p k (adjL es c v)) (m := p.length + 1) fun q hq => by
  obtain ⟨x, _, rfl⟩ := List.mem_map.mp hq
  simp
 rw [e]
 unfold exts
 rw [List.length_map]
 generalize ((adjL es c v).filter fun e => decide (e.1 ∉ p)).length = r at *
 obtain ⟨s, hs⟩ : ∃ s, 8 - p.length = s := ⟨_, rfl⟩
 cases s with
 | zero =>
  have : r = 0 := by omega
  subst this
  rw [Nat.zero_mul]
  exact wN_pos _
 | succ s =>
  rw [hs, show 8 - (p.length + 1) = s by omega]
  show r * wN s < 1 + (s + 1) * wN s
  have := Nat.mul_le_mul_right (wN s) (show r <= s + 1 by omega)
  omega
theorem oT_smp {hs : List (Str × Int)} {ts : List (Str × Str)} (G : Good hs ts) : Smp (oT ts) := by
 refine ⟨oT_nodup G, fun t ht => ⟨(tes_of G t ((oT_mem t).mp ht)).2.2, fun z => ?_⟩⟩
 have lo : ∀ u : Te, u ∈ oT ts -> ltS u.1 u.2 = true := fun u hu => by
  obtain ⟨t0, h0, rfl⟩ := List.mem_map.mp hu
  have ne := (G.tok t0 h0).2.2
  unfold ord2
  by_cases c : ltS t0.1 t0.2 = true
  ·rw [if_pos c]
   exact c
  ·rw [if_neg c]
   by_cases c2 : ltS t0.2 t0.1 = true
   ·exact c2
   ·exact absurd (Sum.inr.inj (kLt_tot (a := .inr t0.1) (b := .inr t0.2) (by simpa [kLt, ltS] using c) (by simpa [kLt, ltS] using c2))) ne
 have h1 := of_decide_eq_true (lo t ht)
 have h2 := of_decide_eq_true (lo _ z)
 exact List.lt_asymm h1 h2
end Ev
set_option Elab.async false
set_option linter.all false
set_option maxRecDepth 100000
namespace L2
open PySem PySem.Spec PyProof.Rows PySem.W
theorem op_mulX {X : Cx} : OpR X (binaryOp .Mult) (rI (fun i j => (0 <= i /\ i < 2 ^ 300) /\ 0 <= j /\ j < 2 ^ 300) fun i j => .int (i * j)) := opI fun i j _ _ _ _ _ hc q => by
 refine mul_int q ?_
 obtain ⟨⟨h1, h2⟩, h3, h4⟩ := hc
 have b1 : Builtin.Int.intBits i <= 300 := intBits_le_iff.mpr (by omega)
 have b2 : Builtin.Int.intBits j <= 300 := intBits_le_iff.mpr (by omega)
 unfold IntMulOk
 have : Builtin.Int.intTooBig (↑(Builtin.Int.intBits i) + ↑(Builtin.Int.intBits j)) = false := by
  unfold Builtin.Int.intTooBig
  refine decide_eq_false ?_
  have : bitsLine = 134217728 := by decide
  omega
 rw [this, Bool.and_false]
 decide
end L2
namespace Ev
open PySem L2
def WaL (D : Int) (x : Int × Int) (k : Int) (n : Nat) : Prop := Cr D x k /\ x.2 <= 2000000 ^ n /\ x.1 <= n * 2 ^ 51 * x.2
theorem WaL.more {D : Int} {x y : Int × Int} {k k' : Int} {n : Nat} (h : WaL D x k n) (g : Lg D y k') : WaL D (x.1 * y.2 + y.1 * x.2, x.2 * y.2) (k + k') (n + 1) := by
 obtain ⟨c, b, t⟩ := h
 obtain ⟨c', b', t'⟩ := g
 have p1 := c.2.1
 have p2 := c'.2.1
 have q2 := c'.2.2
 refine ⟨c.add c', ?_, ?_⟩
 ·show x.2 * y.2 <= 2000000 ^ (n + 1)
  rw [Int.pow_succ]
  exact Int.mul_le_mul b b' (Int.le_of_lt p2) (Int.le_trans (Int.le_of_lt p1) b)
 ·show x.1 * y.2 + y.1 * x.2 <= ((n + 1 : Nat) : Int) * 2 ^ 51 * (x.2 * y.2)
  have h1 := Int.mul_le_mul_of_nonneg_right t (Int.le_of_lt p2)
  have h2 : y.1 * x.2 <= 2 ^ 51 * (x.2 * y.2) := by
   have a1 : y.1 <= 2 ^ 51 * y.2 := by omega
   have a2 := Int.mul_le_mul_of_nonneg_right a1 (Int.le_of_lt p1)
   have e : 2 ^ 51 * y.2 * x.2 = 2 ^ 51 * (x.2 * y.2) := by grind
   omega
  have e : ((n + 1 : Nat) : Int) * 2 ^ 51 * (x.2 * y.2) = (n : Int) * 2 ^ 51 * x.2 * y.2 + 2 ^ 51 * (x.2 * y.2) := by
   rw [Int.natCast_add]
   grind
  omega
theorem WaL.big {D : Int} {x : Int × Int} {k : Int} {n : Nat} (h : WaL D x k n) (hn : n <= 7) : (0 <= x.1 /\ x.1 < 2 ^ 300) /\ 0 < x.2 /\ x.2 < 2 ^ 300 := by
 obtain ⟨⟨_, p, q⟩, b, t⟩ := h
 have c : (2000000 : Int) ^ n <= 2000000 ^ 7 := by
  have h := Int.ofNat_le.mpr (Nat.pow_le_pow_right (n := 2000000) (by decide) hn)
  rw [Int.natCast_pow, Int.natCast_pow] at h
  exact h
 have d : (2000000 : Int) ^ 7 = 128000000000000000000000000000000000000000000 := by decide
 have e : (n : Int) * 2 ^ 51 * x.2 <= 7 * 2 ^ 51 * x.2 := Int.mul_le_mul_of_nonneg_right (by omega) (Int.le_of_lt p)
 omega
def WayAt (H : Hp) (a : Addr) (p : List Str) (x : Int × Int) : Prop := ∃ pl sm, H a = some (.tup [.ref pl, .ref sm]) /\ H pl = some (.lst (p.map V.str)) /\ FrAt H sm x
def WayN (H H' : Hp) (a : Addr) (p : List Str) (x : Int × Int) : Prop := ∃ pl sm, H pl = none /\ H' a = some (.tup [.ref pl, .ref sm]) /\ H' pl = some (.lst (p.map V.str)) /\ FrAt H' sm x
section
variable {P : Program} {w : World} {K : PySem.W.Frag} {mg : Str -> Option Value} {base : Heap}
theorem scLonger : FnScope ["_law_way", "_law_end", "_law_gap", "_law_top", "_law_below"] ["_law_way", "_law_end", "_law_gap"] (defScope sLonger) := ⟨rfl, rfl, rfl, by decide +kernel, rfl, by decide +kernel, by decide +kernel⟩
def spLonger : Sp := fun vs H Q _ => ∃ (a g : Addr) (v : Str) (p : List Str) (x y : Int × Int) (D k k' : Int) (n : Nat), vs = [.ref a, .str v, .ref g] /\ WayAt H a p x /\ FrAt H g y /\ WaL D x k n /\ Lg D y k' /\ n <= 7 /\ p.length <= 100 /\
 ∀ b x' H', Same H H' -> H b = none -> WayN H H' b (p ++ [v]) x' -> WaL D x' (k + k') (n + 1) -> Q (.ref b) H'
theorem ok_longer {f : Addr} {fd : FuncData} (F : Fun K "_law_longer" "_law_longer" sLonger f fd) : FnOk P w K mg base CX0 1 f fd ["_law_way", "_law_end", "_law_gap"] spLonger := by
 refine F.ok scLonger (fun vs H Q E h => ?_) (fun cdv A outer s H vs Q E hr h => ?_)
 ·obtain ⟨a, g, v, p, x, y, D, k, k', n, rfl, _⟩ := h
  rfl
 ·obtain ⟨a, g, v, p, x, y, D, k, k', n, rfl, ⟨pl, sm, ha, hp, hs⟩, hg, hw, hl, hn, p8, q⟩ := h
  have sz := sizeLine_eq
  refine' ⟨_, pss_cons ?s1 (pss_one ?s2), ?kk⟩
  case s1 => exact ps_asg (pe_ix ix_tup (pv 0) pe_int (fun _ _ => rfl)) (pg_tup rfl (pgs_cons (pg_name (i := 3) scLonger.nd rfl (Or.inl rfl)) (pgs_cons (pg_name (i := 4) scLonger.nd rfl (Or.inl rfl)) pgs_nil)))
  case s2 => exact ps_ret (pe_tup (pa_cons (pe_op op_cat (pe_ix ix_tup (pv 0) pe_int (fun _ _ => rfl)) (pe_lst (pa_cons (pv 1) pa_nil))) (pa_cons (pe_tup (pa_cons (pe_op op_add (pe_op op_mulX (pv 3) (pe_ix ix_tup (pv 2) pe_int (fun _ _ => rfl))) (pe_op op_mulX (pe_ix ix_tup (pv 2) pe_int (fun _ _ => rfl)) (pv 4))) (pa_cons (pe_op op_mulX (pv 4) (pe_ix ix_tup (pv 2) pe_int (fun _ _ => rfl))) pa_nil))) pa_nil)))
  case' kk => skip
  have bg := hw.big hn
  obtain ⟨⟨_, y2, y3⟩, y4, y5⟩ := hl
  have hl : Lg D y k' := ⟨⟨by assumption, y2, y3⟩, y4, y5⟩
  have wm := hw.more hl
  refine ⟨_, rfl, a, _, _, _, rfl, rfl, .of ha, rfl, ?_⟩
  refine ⟨sm, _, rfl, .of hs, rfl, _, _, rfl, _, _, rfl, rfl, ?_⟩
  dsimp only
  refine ⟨_, rfl, a, _, _, _, rfl, rfl, .of ha, rfl, _, rfl, by show 1 <= sizeLine; omega, fun l1 hl1 => ?_⟩
  have s1 := Same.new (o := .lst [.str v]) hl1
  have e1 : upd H l1 (.lst [.str v]) l1 = some (.lst [.str v]) := upd_same
  generalize upd H l1 (.lst [.str v]) = H1 at s1 e1 ⊢
  refine ⟨pl, l1, _, _, rfl, rfl, s1 _ _ hp, e1, by simp; omega, fun l2 hl2 => ?_⟩
  have s2 := Same.new (o := .lst (p.map V.str ++ [.str v])) hl2
  have e2 : upd H1 l2 (.lst (p.map V.str ++ [.str v])) l2 = some (.lst ((p ++ [v]).map V.str)) := by
   rw [upd_same, List.map_append]
   rfl
  generalize upd H1 l2 (.lst (p.map V.str ++ [.str v])) = H2 at s2 e2 ⊢
  have s02 := s1.trans s2
  have hg2 : FrAt H2 g y := hg.same s02
  refine ⟨_, rfl, _, rfl, g, _, _, _, rfl, rfl, .of hg2, rfl, _, _, rfl, rfl, ⟨bg.1, Int.le_of_lt y2, by omega⟩, ?_⟩
  refine ⟨_, rfl, g, _, _, _, rfl, rfl, .of hg2, rfl, _, rfl, _, _, rfl, rfl, ⟨⟨y3, by omega⟩, Int.le_of_lt bg.2.1, bg.2.2⟩, _, _, rfl, rfl, ?_⟩
  refine ⟨_, rfl, _, rfl, g, _, _, _, rfl, rfl, .of hg2, rfl, _, _, rfl, rfl, ⟨⟨Int.le_of_lt bg.2.1, bg.2.2⟩, Int.le_of_lt y2, by omega⟩, by show 2 <= sizeLine; omega, fun t3 ht3 => ?_⟩
  have s3 := Same.new (o := .tup [.int (x.1 * y.2 + y.1 * x.2), .int (x.2 * y.2)]) ht3
  have e3 : FrAt (upd H2 t3 (.tup [.int (x.1 * y.2 + y.1 * x.2), .int (x.2 * y.2)])) t3 (x.1 * y.2 + y.1 * x.2, x.2 * y.2) := upd_same
  generalize upd H2 t3 (.tup [.int (x.1 * y.2 + y.1 * x.2), .int (x.2 * y.2)]) = H3 at s3 e3 ⊢
  refine ⟨by show 2 <= sizeLine; omega, fun t4 ht4 => ?_⟩
  have s4 := Same.new (o := .tup [.ref l2, .ref t3]) ht4
  exact q t4 _ _ (s02.trans (s3.trans s4)) ((s02.trans s3).free ht4) ⟨l2, t3, s1.free hl2, upd_same, s4 _ _ (s3 _ _ e2), e3.same s4⟩ wm
end
end Ev
set_option Elab.async false
set_option linter.all false
set_option maxRecDepth 100000
namespace L2
open PySem PySem.Spec PyProof.Rows PySem.W
section
variable {X : Cx}
def rNeNil (K : PySem.W.Frag) : V -> V -> Hp -> VK -> Prop := fun x y H Q => ∃ a b xs, x = .ref a /\ y = .ref b /\ SqL K H a xs /\ SqL K H b [] /\ Q (.bl (!xs.isEmpty)) H
theorem op_neNil (hu : X.A.units + 0 + 1 < cLine) : OpR X (compareOp .NotEq) (rNeNil X.K) := by
 intro pins s σ H x y v u Q I rx ry h
 obtain ⟨a, b, xs, rfl, rfl, t, t', hq⟩ := h
 cases xs with
 | nil => exact op_neL cmpS hu pins s σ H (.ref a) (.ref b) v u Q I rx ry ⟨[], [], ⟨a, [], rfl, t, .nil⟩, ⟨b, [], rfl, t', .nil⟩, hq⟩
 | cons z zs =>
  cases rx
  cases ry
  obtain ⟨us, r, pl, _⟩ := I.list t
  obtain ⟨vs, r', pl', _⟩ := I.list t'
  have l1 := r.length
  have l2 := r'.length
  exact EvN.ne_sizesAt pl.isList pl'.isList (by simp only [List.size_toArray, bne_iff_ne]; simp at l1 l2; omega) (by omega) ⟨.bl true, H, I, rfl, hq⟩
end
end L2
namespace Ev
open PySem L2
def AdjAt (H : Hp) (D : Int) : List V -> List (Str × Int) -> Prop := Paired fun y p => ∃ a g x, y = V.ref a /\ H a = some (.tup [.str p.1, .ref g]) /\ FrAt H g x /\ Lg D x p.2
theorem AdjAt.ts {H H' : Hp} {D : Int} {ys : List V} {l : List (Str × Int)} (h : AdjAt H D ys l) (s : TS H H') : AdjAt H' D ys l := Paired.mapP h fun y p ⟨a, g, x, e, h1, h2, h3⟩ => ⟨a, g, x, e, s _ _ h1, s _ _ h2, h3⟩
structure BeAt (H : Hp) (d : Addr) (adj : Str -> List (Str × Int)) (D : Int) (N : Nat) (ns : List Str) (la : Str -> Addr) : Prop where
 at_ : H d = some (.dK (mKV ns fun n => .ref (la n)))
 len : ns.length <= N
 no : ∀ n, n ∉ ns -> adj n = []
 is : ∀ n ∈ ns, ∃ ys, H (la n) = some (.lst ys) /\ AdjAt H D ys (adj n)
theorem BeAt.keep {H H' : Hp} {d : Addr} {adj : Str -> List (Str × Int)} {D : Int} {N : Nat} {ns : List Str} {la : Str -> Addr} (B : BeAt H d adj D N ns la) (hd : ∀ o, H d = some o -> H' d = some o) (ht : TS H H') (hl : ∀ n ∈ ns, ∀ o, H (la n) = some o -> H' (la n) = some o) : BeAt H' d adj D N ns la := ⟨hd _ B.at_, B.len, B.no, fun n hn => by
 obtain ⟨ys, h1, h2⟩ := B.is n hn
 exact ⟨ys, hl n hn _ h1, h2.ts ht⟩⟩
theorem BeAt.same {H H' : Hp} {d : Addr} {adj : Str -> List (Str × Int)} {D : Int} {N : Nat} {ns : List Str} {la : Str -> Addr} (B : BeAt H d adj D N ns la) (s : Same H H') : BeAt H' d adj D N ns la := B.keep (fun o e => s _ _ e) (TS.of s) fun n _ o e => s _ _ e
theorem BeAt.get {H : Hp} {d le : Addr} {adj : Str -> List (Str × Int)} {D : Int} {N : Nat} {ns : List Str} {la : Str -> Addr} (B : BeAt H d adj D N ns la) (hle : H le = none) (u : Str) : ∃ lo ys o, DGet (upd H le (.lst [])) d (.str u) o /\ o.getD (.ref le) = V.ref lo /\ upd H le (.lst []) lo = some (.lst ys) /\ AdjAt (upd H le (.lst [])) D ys (adj u) /\ (lo = le ∨ u ∈ ns /\ lo = la u) := by
 have s := Same.new (o := .lst []) hle
 have B' := B.same s
 by_cases c : u ∈ ns
 ·obtain ⟨ys, h1, h2⟩ := B'.is u c
  refine ⟨la u, ys, some (.ref (la u)), ?_, rfl, h1, h2, .inr ⟨c, rfl⟩⟩
  have := DGet.k (k := .inr u) B'.at_
  rw [mKV_get (g := fun n => V.ref (la n)) c] at this
  exact this
 ·refine ⟨le, [], none, ?_, rfl, upd_same, ?_, .inl rfl⟩
  ·have := DGet.k (k := .inr u) B'.at_
   rw [mKV_none c] at this
   exact this
  ·rw [B.no u c]
   exact .nil
theorem BeAt.put {H : Hp} {d ln ta g : Addr} {adj : Str -> List (Str × Int)} {D cx : Int} {N : Nat} {ns : List Str} {la : Str -> Addr} {ys : List V} {x : Int × Int} {u v : Str} (B : BeAt H d adj D N ns la) (hy : AdjAt H D ys (adj u)) (hl : H ln = some (.lst (ys ++ [.ref ta]))) (ht : H ta = some (.tup [.str v, .ref g])) (hg : FrAt H g x) (hx : Lg D x cx) :
  ∃ ns' la', BeAt (upd H d (.dK (putK (mKV ns fun n => .ref (la n)) (.inr u) (.ref ln)))) d (fun n => if n = u then adj u ++ [(v, cx)] else adj n) D (N + 1) ns' la' := by
 have ts := TS.dk (o := .dK (putK (mKV ns fun n => .ref (la n)) (.inr u) (.ref ln))) B.at_
 have kl : ∀ {b zs}, H b = some (.lst zs) -> upd H d (.dK (putK (mKV ns fun n => .ref (la n)) (.inr u) (.ref ln))) b = some (.lst zs) := fun e => by
  rw [upd_ne (ne_of e B.at_ (by intro z; cases z))]
  exact e
 have new : AdjAt (upd H d (.dK (putK (mKV ns fun n => .ref (la n)) (.inr u) (.ref ln)))) D (ys ++ [.ref ta]) (adj u ++ [(v, cx)]) := Paired.snoc (hy.ts ts) ⟨ta, g, x, rfl, ts _ _ ht, ts _ _ hg, hx⟩
 have all : ∀ ns', (∀ n, n ∈ ns' ↔ n ∈ ns ∨ n = u) -> ns'.length <= N + 1 -> upd H d (.dK (putK (mKV ns fun n => .ref (la n)) (.inr u) (.ref ln))) d = some (.dK (mKV ns' fun n => .ref (if n = u then ln else la n))) -> ∃ ns' la', BeAt (upd H d (.dK (putK (mKV ns fun n => .ref (la n)) (.inr u) (.ref ln)))) d (fun n => if n = u then adj u ++ [(v, cx)] else adj n) D (N + 1) ns' la' := fun ns' hm hlen hp => by
  refine ⟨ns', fun n => if n = u then ln else la n, hp, hlen, fun n hn => ?_, fun n hn => ?_⟩
  ·have h1 : n ≠ u := fun z => hn ((hm n).mpr (.inr z))
   rw [if_neg h1]
   exact B.no n fun z => hn ((hm n).mpr (.inl z))
  ·by_cases c : n = u
   ·subst c
    simp only [if_true]
    exact ⟨_, kl hl, new⟩
   ·simp only [if_neg c]
    rcases (hm n).mp hn with h | h
    ·obtain ⟨zs, h1, h2⟩ := B.is n h
     exact ⟨zs, kl h1, h2.ts ts⟩
    ·exact absurd h c
 have len := B.len
 by_cases c : u ∈ ns
 ·refine all ns (fun n => ⟨.inl, fun h => h.elim id fun h => by rw [h]; exact c⟩) (by omega) ?_
  rw [upd_same, mKV_put c]
  exact congrArg (fun z => some (HO.dK z)) (mKV_congr fun n _ => by split <;> rfl)
 ·refine all (ns ++ [u]) (fun n => by simp) (by simp; omega) ?_
  rw [upd_same, mKV_new c]
  exact congrArg (fun z => some (HO.dK z)) (mKV_congr fun n _ => by split <;> rfl)
theorem adj_two {es : List Te} {c : Te -> Int} {i : Nat} {t : Te} (h : es[i]? = some t) (ne : t.1 ≠ t.2) : (fun n => if n = t.2 then (if t.2 = t.1 then adjL (es.take i) c t.1 ++ [(t.2, c t)] else adjL (es.take i) c t.2) ++ [(t.1, c t)] else if n = t.1 then adjL (es.take i) c t.1 ++ [(t.2, c t)] else adjL (es.take i) c n) = adjL (es.take (i + 1)) c := funext fun n => by
 rw [adj_take h, if_neg (Ne.symm ne)]
 unfold adj1
 by_cases c2 : n = t.2
 ·subst c2
  rw [if_pos rfl, if_neg ne, if_pos rfl]
  rfl
 ·rw [if_neg c2]
  by_cases c1 : n = t.1
  ·subst c1
   rw [if_pos rfl, if_pos rfl]
   rfl
  ·rw [if_neg c1, if_neg (Ne.symm c1), if_neg (Ne.symm c2)]
   simp
theorem paired_last {α β : Type} {F : α -> β -> Prop} : ∀ {ls : List α} {qs : List β}, Paired F ls qs -> ls ≠ [] -> ∃ ls' y qs' q, ls = ls' ++ [y] /\ qs = qs' ++ [q] /\ Paired F ls' qs' /\ F y q
 | _, _, .nil, h => absurd rfl h
 | [y], _, .cons (b := q) f .nil, _ => ⟨[], y, [], q, rfl, rfl, .nil, f⟩
 | x :: y :: ls, _, .cons (b := q) f t, _ => by
  obtain ⟨ls', z, qs', r, e1, e2, h1, h2⟩ := paired_last t (by simp)
  exact ⟨x :: ls', z, q :: qs', r, by rw [e1]; rfl, by rw [e2]; rfl, .cons f h1, h2⟩
end Ev
set_option Elab.async false
set_option linter.all false
set_option maxRecDepth 100000
namespace Ev
open PySem L2
def WayF (F L : Addr) (H : Hp) (a : Addr) (p : List Str) (x : Int × Int) : Prop := ∃ pl sm, H a = some (.tup [.ref pl, .ref sm]) /\ H pl = some (.lst (p.map V.str)) /\ FrAt H sm x /\ pl ≠ F /\ pl ≠ L
def B2 (F L : Addr) (H H' : Hp) : Prop := ∀ b o, H b = some o -> b ≠ F -> b ≠ L -> H' b = some o
theorem B2.refl (F L : Addr) (H : Hp) : B2 F L H H := fun _ _ e _ _ => e
theorem B2.trans {F L : Addr} {H H1 H2 : Hp} (a : B2 F L H H1) (b : B2 F L H1 H2) : B2 F L H H2 := fun c o e n m => b c o (a c o e n m) n m
theorem B2.of {F L : Addr} {H H1 : Hp} (s : Same H H1) : B2 F L H H1 := fun c o e _ _ => s c o e
theorem B2.updL {F L : Addr} {H : Hp} {o : HO} : B2 F L H (upd H L o) := fun c u e _ m => by rw [upd_ne m]; exact e
theorem B2.updF {F L : Addr} {H : Hp} {o : HO} : B2 F L H (upd H F o) := fun c u e n _ => by rw [upd_ne n]; exact e
theorem B2.tup {F L : Addr} {H H' : Hp} {fs ls : List V} (b : B2 F L H H') (hF : H F = some (.lst fs)) (hL : H L = some (.lst ls)) {c : Addr} {xs : List V} (e : H c = some (.tup xs)) : H' c = some (.tup xs) := b c _ e (ne_of e hF (by intro z; cases z)) (ne_of e hL (by intro z; cases z))
theorem WayF.b2 {F L : Addr} {H H' : Hp} {a : Addr} {p : List Str} {x : Int × Int} {fs ls : List V} (W : WayF F L H a p x) (b : B2 F L H H') (hF : H F = some (.lst fs)) (hL : H L = some (.lst ls)) : WayF F L H' a p x := by
 obtain ⟨pl, sm, h1, h2, h3, h4, h5⟩ := W
 exact ⟨pl, sm, b.tup hF hL h1, b _ _ h2 h4 h5, b.tup hF hL h3, h4, h5⟩
def QsAt (F L : Addr) (H : Hp) (D : Int) : List V -> List Wa -> Prop := Paired fun y q => ∃ a x n, y = V.ref a /\ WayF F L H a q.1 x /\ WaL D x q.2 n /\ n + 1 = q.1.length
def FsAt (H : Hp) (D : Int) : List V -> List Int -> Prop := Paired fun y k => ∃ a x n, y = V.ref a /\ FrAt H a x /\ WaL D x k n /\ n <= 7
theorem QsAt.b2 {F L : Addr} {H H' : Hp} {D : Int} {ys : List V} {qs : List Wa} {fs ls : List V} (h : QsAt F L H D ys qs) (b : B2 F L H H') (hF : H F = some (.lst fs)) (hL : H L = some (.lst ls)) : QsAt F L H' D ys qs := Paired.mapP h fun y q ⟨a, x, n, e, h1, h2, h3⟩ => ⟨a, x, n, e, h1.b2 b hF hL, h2, h3⟩
theorem FsAt.ts {H H' : Hp} {D : Int} {ys : List V} {ks : List Int} (h : FsAt H D ys ks) (s : TS H H') : FsAt H' D ys ks := Paired.mapP h fun y k ⟨a, x, n, e, h1, h2, h3⟩ => ⟨a, x, n, e, s _ _ h1, h2, h3⟩
theorem B2.ts {F L : Addr} {H H' : Hp} {fs ls : List V} (b : B2 F L H H') (hF : H F = some (.lst fs)) (hL : H L = some (.lst ls)) : TS H H' := fun c xs e => b.tup hF hL e
theorem atI_last {p : List Str} {v : Str} (h : p.getLast? = some v) : atI (p.map V.str) (-1) = some (.str v) := by
 cases p with
 | nil => cases h
 | cons x p =>
  rw [List.getLast?_eq_getElem?] at h
  unfold atI ixN
  rw [if_neg (by decide), if_pos (by simp only [List.length_map, List.length_cons]; omega)]
  show ((x :: p).map V.str)[(-1 + (((x :: p).map V.str).length : Int)).toNat]? = _
  rw [List.getElem?_map, show (-1 + (((x :: p).map V.str).length : Int)).toNat = (x :: p).length - 1 by simp only [List.length_map, List.length_cons]; omega, h]
  rfl
theorem paired_at {α β : Type} {F : α -> β -> Prop} : ∀ {ls : List α} {qs : List β}, Paired F ls qs -> ∀ {i : Nat} {y : α}, ls[i]? = some y -> ∃ q, qs[i]? = some q /\ F y q
 | _, _, .nil, _, _, h => by cases h
 | _, _, .cons f t, 0, _, h => by cases h; exact ⟨_, rfl, f⟩
 | _, _, .cons f t, i + 1, _, h => paired_at t (i := i) h
section
variable {P : Program} {w : World} {K : PySem.W.Frag} {mg : Str -> Option Value} {base : Heap}
theorem scSums : FnScope ["_law_gaps_here", "_law_one", "_law_other", "_law_beside", "_law_here", "_law_there", "_law_found", "_law_left", "_law_way", "_law_end", "_law_gap"] ["_law_gaps_here", "_law_one", "_law_other"] (defScope sSums) := ⟨rfl, rfl, rfl, by decide +kernel, rfl, by decide +kernel, by decide +kernel⟩
def spSums : Sp := fun vs H Q _ => ∃ (g : Addr) (a b : Str) (es : List Te) (c : Te -> Int) (D : Int) (ns : List Str), vs = [.ref g, .str a, .str b] /\ LgAt H g es c D /\ Smp es /\ es.length < 64 /\ 0 < D /\ a ∈ ns /\ (∀ t ∈ es, t.1 ∈ ns /\ t.2 ∈ ns) /\ ns.length <= 8 /\
 ∀ l fs ks H', Same H H' -> H l = none -> H' l = some (.lst fs) -> FsAt H' D fs ks -> Sr es c a b ks [] -> fs.length <= 13700 -> Q (.ref l) H'
set_option maxHeartbeats 1600000 in
theorem ok_sums {f : Addr} {fd : FuncData} (F : Fun K "_law_sums" "_law_sums" sSums f fd) (cL : Cal P w K mg base 1 "_law_longer" ["_law_way", "_law_end", "_law_gap"] spLonger) : FnOk P w K mg base CX0 2 f fd ["_law_gaps_here", "_law_one", "_law_other"] spSums := by
 refine F.ok scSums (fun vs H Q E h => ?_) (fun cdv A outer s H vs Q E hr h => ?_)
 ·obtain ⟨g, a, b, es, c, D, ns, rfl, _⟩ := h
  rfl
 ·obtain ⟨g, a, b, es, c, D, ns, rfl, ⟨ga, hg, gv⟩, Sm, h64, D0, ha, hn, n8, k⟩ := h
  have sz := sizeLine_eq
  have hu := roomU hr 0
  refine' ⟨_, ?r0, ?kk⟩
  case' r0 => refine' pss_cons ?s1 ?r1
  case' r1 => refine' pss_cons ?s2 ?r2
  case' r2 => refine' pss_cons ?s3 ?r3
  case' r3 => refine' pss_cons ?s4 ?r4
  case' r4 => refine' pss_cons ?s5 (pss_one ?s6)
  case s1 => exact ps_set (i := 3) scSums.nd rfl (Or.inl rfl) pe_dnewK
  case' s2 => refine' ps_thawT (ps_for PassesOwn.never rfl (pi_keysT (pv 0)) ?g2 (pss_cons ?b1 (pss_one ?b2)))
  case g2 => exact pg_tup rfl (pgs_cons (pg_name (i := 4) scSums.nd rfl (Or.inl rfl)) (pgs_cons (pg_name (i := 5) scSums.nd rfl (Or.inl rfl)) pgs_nil))
  case b1 => exact ps_dput hu (pv 3) (pv 4) (pe_op op_cat (pe_dget2 hu (pv 3) (pv 4) (pe_lst pa_nil) ⟨rfl, rfl, rfl, rfl⟩) (pe_lst (pa_cons (pe_tup (pa_cons (pv 5) (pa_cons (pe_dget hu (pv 0) (pe_tup (pa_cons (pv 4) (pa_cons (pv 5) pa_nil))) (fun _ _ => rfl)) pa_nil))) pa_nil))) rfl
  case b2 => exact ps_dput hu (pv 3) (pv 5) (pe_op op_cat (pe_dget2 hu (pv 3) (pv 5) (pe_lst pa_nil) ⟨rfl, rfl, rfl, rfl⟩) (pe_lst (pa_cons (pe_tup (pa_cons (pv 4) (pa_cons (pe_dget hu (pv 0) (pe_tup (pa_cons (pv 4) (pa_cons (pv 5) pa_nil))) (fun _ _ => rfl)) pa_nil))) pa_nil))) rfl
  case s3 => exact ps_set (i := 6) scSums.nd rfl (Or.inl rfl) (pe_lst pa_nil)
  case s4 => exact ps_set (i := 7) scSums.nd rfl (Or.inl rfl) (pe_lst (pa_cons (pe_tup (pa_cons (pe_lst (pa_cons (pv 1) pa_nil)) (pa_cons (pe_tup (pa_cons pe_int (pa_cons pe_int pa_nil))) pa_nil))) pa_nil))
  case' s5 => refine' ps_while PassesOwn.never (pt_cmpR (op_neNil hu) (pv 7) (pe_lst pa_nil) (nomark _)) (pss_cons ?w1 (pss_one ?w2))
  case w1 => exact ps_set (i := 8) scSums.nd rfl (Or.inl rfl) (pe_bm0 PySem.F.plainAttrs_list PySem.F.slot_list_pop PySem.F.type_list_pop mt_pop (pv 7))
  case' w2 => refine' ps_if (pt_cmpR op_eq (pe_ix ix_list (pe_ix ix_tup (pv 8) pe_int (fun _ _ => rfl)) (pe_un un_neg pe_int) (fun _ _ => rfl)) (pv 2) (nomark _)) (pss_one ?w3) (pss_one ?w4)
  case w3 => exact ps_expr (pe_bm PySem.F.plainAttrs_list PySem.F.slot_list_append PySem.F.type_list_append mt_append (pv 6) (pa_cons (pe_ix ix_tup (pv 8) pe_int (fun _ _ => rfl)) pa_nil))
  case' w4 => refine' ps_for PassesOwn.never rfl (pi_list (pe_dget2 hu (pv 3) (pe_ix ix_list (pe_ix ix_tup (pv 8) pe_int (fun _ _ => rfl)) (pe_un un_neg pe_int) (fun _ _ => rfl)) (pe_lst pa_nil) ⟨rfl, rfl, rfl, rfl⟩)) ?g4 (pss_one ?w5)
  case g4 => exact pg_tup rfl (pgs_cons (pg_name (i := 9) scSums.nd rfl (Or.inl rfl)) (pgs_cons (pg_name (i := 10) scSums.nd rfl (Or.inl rfl)) pgs_nil))
  case w5 => exact ps_if (pt_cmpR op_notIn_seq (pv 9) (pe_ix ix_tup (pv 8) pe_int (fun _ _ => rfl)) (by with_unfolding_all rfl)) (pss_one (ps_expr (pe_bm PySem.F.plainAttrs_list PySem.F.slot_list_append PySem.F.type_list_append mt_append (pv 7) (pa_cons (pe_fn cL hr (pa_cons (pv 8) (pa_cons (pv 9) (pa_cons (pv 10) pa_nil)))) pa_nil)))) pss_nil
  case s6 => exact ps_ret (pv 6)
  case' kk => skip
  intro d hd
  have s1 := Same.new (o := .dK []) hd
  have e1 : upd H d (.dK []) d = some (.dK []) := upd_same
  generalize upd H d (.dK []) = H1 at s1 e1 ⊢
  have hg1 := s1 _ _ hg
  have dg : d ≠ g := Ne.symm (ne_of_none hg hd)
  refine setG ?_
  dsimp only
  refine seqG (fun σ H' => ∃ (v4 v5 : Option V), σ = [some (.ref g), some (.str a), some (.str b), some (.ref d), v4, v5, none, none, none, none, none] /\ Same H H' /\ ∃ nb la, BeAt H' d (adjL es c) D 200 nb la) ?rest ?loop
  case loop =>
   intro N hN
   refine ⟨g, _, hg1, ?_⟩
   refine ⟨_, rfl, g, _, rfl, hg1, fun o => ?_⟩
   refine for_keysT (fun i σ H' => ∃ (v4 v5 : Option V), σ = [some (.ref g), some (.str a), some (.str b), some (.ref d), v4, v5, none, none, none, none, none] /\ FzT g o (tKV es fun t => .ref (ga t)) H H' /\ ∃ nb la, BeAt H' d (adjL (es.take i) c) D (2 * i) nb la)
    ⟨none, none, rfl, ⟨upd_same, fun b u n e => by rw [upd_ne n]; exact s1 _ _ e⟩, [], fun _ => 0, by rw [upd_ne dg]; exact e1, Nat.le_refl _, fun _ _ => rfl, fun n hn => nomatch hn⟩ (fun i σ H' _ ⟨_, _, _, fz, _⟩ => fz.at_) ?_ ?_
   rotate_left 1
   ·rintro σ H' ⟨v4, v5, rfl, fz, nb, la, B⟩
    rw [tKV_len, List.take_length] at B
    have ne : ∀ {b o'}, H' b = some o' -> (∀ o u, o' ≠ .frz o u) -> upd H' g (.dT (tKV es fun t => .ref (ga t))) b = some o' := fun e nz => by
     rw [upd_ne (ne_of e fz.at_ (nz _ _))]
     exact e
    refine ⟨o, fz.at_, hN _ _ ⟨v4, v5, rfl, fz.thaw hg, nb, la, ?_, by have := B.len; omega, B.no, fun n hn => ?_⟩⟩
    ·exact ne B.at_ (by intro _ _ z; cases z)
    ·obtain ⟨ys, q1, q2⟩ := B.is n hn
     exact ⟨ys, ne q1 (by intro _ _ z; cases z), q2.ts fun c xs e => ne e (by intro _ _ z; cases z)⟩
   rintro i ky x σ H2 hx ⟨v4, v5, rfl, fz, nb, la, B⟩ q hq
   obtain ⟨t, htt, rfl, rfl⟩ := tKV_at hx
   have mt := List.mem_of_getElem? htt
   have i64 : i < 64 := by
    have := (List.getElem?_eq_some_iff.mp htt).1
    omega
   have hq' : H2 q = some (.tup [.str t.1, .str t.2]) := hq
   obtain ⟨x, gx, lx⟩ := gv t mt
   refine ⟨q, _, rfl, .of hq', rfl, _, _, rfl, _, _, rfl, rfl, ?_⟩
   have al1 : ∀ u, (adjL (es.take i) c u).length <= 64 := fun u => by
    have h2 := adj_len (es := es.take i) (c := c) u
    rw [List.length_take] at h2
    omega
   have al2 : (if t.2 = t.1 then adjL (es.take i) c t.1 ++ [(t.2, c t)] else adjL (es.take i) c t.2).length <= 65 := by
    split
    ·rw [List.length_append]
     have := al1 t.1
     simp
     omega
    ·have := al1 t.2
     omega
   refine ⟨_, rfl, d, rfl, .inl ⟨_, .inl B.at_⟩, _, rfl, by show 0 <= sizeLine; omega, fun lea hle => ?_⟩
   obtain ⟨loa, ysa, ova, g1, g2, g3, g4, _⟩ := B.get hle t.1
   have s3a := Same.new (o := .lst []) hle
   have B3 := B.same s3a
   generalize upd H2 lea (.lst []) = H3a at g1 g3 g4 s3a B3 ⊢
   refine ⟨ova, g1, ?_⟩
   rw [g2]
   refine ⟨_, rfl, _, rfl, _, rfl, _, rfl, by show 2 <= sizeLine; omega, fun kpa hkp => ?_⟩
   have s4a := Same.new (o := .tup [.str t.1, .str t.2]) hkp
   have e4a : upd H3a kpa (.tup [.str t.1, .str t.2]) kpa = some (.tup ((kT t).map kV)) := upd_same
   generalize upd H3a kpa (.tup [.str t.1, .str t.2]) = H4a at s4a e4a ⊢
   have fz4a := fz.step (s3a.trans s4a)
   refine ⟨g, _, rfl, .inr ⟨_, kT t, kpa, .inr ⟨o, fz4a.at_⟩, rfl, e4a, (tKV_get (g := fun t => V.ref (ga t)) mt).symm⟩, by show 2 <= sizeLine; omega, fun taa hta => ?_⟩
   have s5a := Same.new (o := .tup [.str t.2, .ref (ga t)]) hta
   have e5a : upd H4a taa (.tup [.str t.2, .ref (ga t)]) taa = some (.tup [.str t.2, .ref (ga t)]) := upd_same
   generalize upd H4a taa (.tup [.str t.2, .ref (ga t)]) = H5a at s5a e5a ⊢
   refine ⟨by show 1 <= sizeLine; omega, fun l1a hl1 => ?_⟩
   have s6a := Same.new (o := .lst [.ref taa]) hl1
   have e6a : upd H5a l1a (.lst [.ref taa]) l1a = some (.lst [.ref taa]) := upd_same
   generalize upd H5a l1a (.lst [.ref taa]) = H6a at s6a e6a ⊢
   have s36a := s4a.trans (s5a.trans s6a)
   have yla : ysa.length <= 100 := by
    have h1 := Paired.length g4
    have h2 := al1 t.1
    omega
   refine ⟨loa, l1a, _, _, rfl, rfl, s36a _ _ g3, e6a, by simp; omega, fun lna hln => ?_⟩
   have s7a := Same.new (o := .lst (ysa ++ [.ref taa])) hln
   have e7a : upd H6a lna (.lst (ysa ++ [.ref taa])) lna = some (.lst (ysa ++ [.ref taa])) := upd_same
   generalize upd H6a lna (.lst (ysa ++ [.ref taa])) = H7a at s7a e7a ⊢
   have s37a := s36a.trans s7a
   have B7a := B3.same s37a
   have fz7a := fz.step (s3a.trans s37a)
   have b7a := B7a.put (u := t.1) (g4.ts (TS.of s37a)) e7a (s7a _ _ (s6a _ _ e5a)) (fz7a.tup hg gx) lx
   refine ⟨_, rfl, _, rfl, d, _, rfl, .k (k := .inr t.1) B7a.at_ (by rw [mKV_len]; have := B7a.len; omega), ?_⟩
   have fz8a : FzT g o (tKV es fun t => .ref (ga t)) H (upd H7a d (.dK (putK (mKV nb fun n => .ref (la n)) (.inr t.1) (.ref lna)))) := ⟨by rw [upd_ne (Ne.symm dg)]; exact fz7a.at_, fun c u n e => by
    rw [upd_ne (ne_of_none e hd)]
    exact fz7a.sm c u n e⟩
   generalize upd H7a d (.dK (putK (mKV nb fun n => .ref (la n)) (.inr t.1) (.ref lna))) = H8a at b7a fz8a ⊢
   obtain ⟨nb2, la2, B8⟩ := b7a
   dsimp only
   refine ⟨_, rfl, d, rfl, .inl ⟨_, .inl B8.at_⟩, _, rfl, by show 0 <= sizeLine; omega, fun leb hle => ?_⟩
   obtain ⟨lob, ysb, ovb, g1, g2, g3, g4, _⟩ := B8.get hle t.2
   have s3b := Same.new (o := .lst []) hle
   have B3 := B8.same s3b
   generalize upd H8a leb (.lst []) = H3b at g1 g3 g4 s3b B3 ⊢
   refine ⟨ovb, g1, ?_⟩
   rw [g2]
   refine ⟨_, rfl, _, rfl, _, rfl, _, rfl, by show 2 <= sizeLine; omega, fun kpb hkp => ?_⟩
   have s4b := Same.new (o := .tup [.str t.1, .str t.2]) hkp
   have e4b : upd H3b kpb (.tup [.str t.1, .str t.2]) kpb = some (.tup ((kT t).map kV)) := upd_same
   generalize upd H3b kpb (.tup [.str t.1, .str t.2]) = H4b at s4b e4b ⊢
   have fz4b := fz8a.step (s3b.trans s4b)
   refine ⟨g, _, rfl, .inr ⟨_, kT t, kpb, .inr ⟨o, fz4b.at_⟩, rfl, e4b, (tKV_get (g := fun t => V.ref (ga t)) mt).symm⟩, by show 2 <= sizeLine; omega, fun tab hta => ?_⟩
   have s5b := Same.new (o := .tup [.str t.1, .ref (ga t)]) hta
   have e5b : upd H4b tab (.tup [.str t.1, .ref (ga t)]) tab = some (.tup [.str t.1, .ref (ga t)]) := upd_same
   generalize upd H4b tab (.tup [.str t.1, .ref (ga t)]) = H5b at s5b e5b ⊢
   refine ⟨by show 1 <= sizeLine; omega, fun l1b hl1 => ?_⟩
   have s6b := Same.new (o := .lst [.ref tab]) hl1
   have e6b : upd H5b l1b (.lst [.ref tab]) l1b = some (.lst [.ref tab]) := upd_same
   generalize upd H5b l1b (.lst [.ref tab]) = H6b at s6b e6b ⊢
   have s36b := s4b.trans (s5b.trans s6b)
   have ylb : ysb.length <= 100 := by
    have h1 := Paired.length g4
    have h2 := al2
    omega
   refine ⟨lob, l1b, _, _, rfl, rfl, s36b _ _ g3, e6b, by simp; omega, fun lnb hln => ?_⟩
   have s7b := Same.new (o := .lst (ysb ++ [.ref tab])) hln
   have e7b : upd H6b lnb (.lst (ysb ++ [.ref tab])) lnb = some (.lst (ysb ++ [.ref tab])) := upd_same
   generalize upd H6b lnb (.lst (ysb ++ [.ref tab])) = H7b at s7b e7b ⊢
   have s37b := s36b.trans s7b
   have B7b := B3.same s37b
   have fz7b := fz8a.step (s3b.trans s37b)
   have b7b := B7b.put (u := t.2) (g4.ts (TS.of s37b)) e7b (s7b _ _ (s6b _ _ e5b)) (fz7b.tup hg gx) lx
   refine ⟨_, rfl, _, rfl, d, _, rfl, .k (k := .inr t.2) B7b.at_ (by rw [mKV_len]; have := B7b.len; omega), ?_⟩
   have fz8b : FzT g o (tKV es fun t => .ref (ga t)) H (upd H7b d (.dK (putK (mKV nb2 fun n => .ref (la2 n)) (.inr t.2) (.ref lnb)))) := ⟨by rw [upd_ne (Ne.symm dg)]; exact fz7b.at_, fun c u n e => by
    rw [upd_ne (ne_of_none e hd)]
    exact fz7b.sm c u n e⟩
   generalize upd H7b d (.dK (putK (mKV nb2 fun n => .ref (la2 n)) (.inr t.2) (.ref lnb))) = H8b at b7b fz8b ⊢
   obtain ⟨nb3, la3, B9⟩ := b7b
   refine ⟨_, _, rfl, fz8b, nb3, la3, ?_⟩
   rw [show 2 * (i + 1) = 2 * i + 1 + 1 by omega, <- adj_two htt (Sm.2 t mt).1]
   exact B9
  rintro σ H2 ⟨v4, v5, rfl, s2, nb, la, Be⟩
  have hd2 := Be.at_
  refine ⟨by show 0 <= sizeLine; omega, fun F hF => ?_⟩
  have s3 := Same.new (o := .lst []) hF
  have e3 : upd H2 F (.lst []) F = some (.lst []) := upd_same
  have nF := s2.free hF
  have dF : d ≠ F := ne_of_none hd2 hF
  have lF : ∀ n ∈ nb, la n ≠ F := fun n hn => by
   obtain ⟨ys, q1, _⟩ := Be.is n hn
   exact ne_of_none q1 hF
  generalize upd H2 F (.lst []) = H3 at s3 e3 ⊢
  refine setG ?_
  dsimp only
  refine ⟨_, rfl, by show 1 <= sizeLine; omega, fun pl hpl => ?_⟩
  have s4 := Same.new (o := .lst [.str a]) hpl
  have e4 : upd H3 pl (.lst [.str a]) pl = some (.lst [.str a]) := upd_same
  have pF : pl ≠ F := Ne.symm (ne_of_none e3 hpl)
  generalize upd H3 pl (.lst [.str a]) = H4 at s4 e4 ⊢
  refine ⟨by show 2 <= sizeLine; omega, fun sm hsm => ?_⟩
  have s5 := Same.new (o := .tup [.int 0, .int 1]) hsm
  have e5 : FrAt (upd H4 sm (.tup [.int 0, .int 1])) sm (0, 1) := upd_same
  generalize upd H4 sm (.tup [.int 0, .int 1]) = H5 at s5 e5 ⊢
  refine ⟨by show 2 <= sizeLine; omega, fun wa hwa => ?_⟩
  have s6 := Same.new (o := .tup [.ref pl, .ref sm]) hwa
  have e6 : upd H5 wa (.tup [.ref pl, .ref sm]) wa = some (.tup [.ref pl, .ref sm]) := upd_same
  generalize upd H5 wa (.tup [.ref pl, .ref sm]) = H6 at s6 e6 ⊢
  refine ⟨by show 1 <= sizeLine; omega, fun L hL => ?_⟩
  have s7 := Same.new (o := .lst [.ref wa]) hL
  have e7 : upd H6 L (.lst [.ref wa]) L = some (.lst [.ref wa]) := upd_same
  have s36 := s4.trans (s5.trans s6)
  have nL := (s2.trans (s3.trans s36)).free hL
  have dL : d ≠ L := ne_of_none (s36 _ _ (s3 _ _ hd2)) hL
  have FL : F ≠ L := ne_of_none (s36 _ _ e3) hL
  have pL : pl ≠ L := ne_of_none (s6 _ _ (s5 _ _ e4)) hL
  have lL : ∀ n ∈ nb, la n ≠ L := fun n hn => by
   obtain ⟨ys, q1, _⟩ := Be.is n hn
   exact ne_of_none (s36 _ _ (s3 _ _ q1)) hL
  generalize upd H6 L (.lst [.ref wa]) = H7 at s7 e7 ⊢
  have s37 := s36.trans s7
  have s27 := s3.trans s37
  have Be7 := Be.same s27
  have F7 := s37 _ _ e3
  have way0 : WayF F L H7 wa [a] (0, 1) := ⟨pl, sm, s7 _ _ e6, s7 _ _ (s6 _ _ (s5 _ _ e4)), s7 _ _ (s6 _ _ e5), pF, pL⟩
  have s07 := s2.trans s27
  clear s3 s4 s5 s6 s7 s36 s37 s27 e3 e4 e5 e6 hF hL hpl hsm hwa hd2 Be s2
  refine setG ?_
  dsimp only
  refine seqG (fun σ H' => ∃ (vs : List (Option V)) (fs : List V) (ks : List Int), σ = [some (.ref g), some (.str a), some (.str b), some (.ref d), v4, v5, some (.ref F)] ++ vs /\ Same H H' /\ H' F = some (.lst fs) /\ FsAt H' D fs ks /\ Sr es c a b ks [] /\ fs.length <= 13700) ?last ?whl
  case last =>
   rintro σ H8 ⟨vs, fs, ks, rfl, s8, h8, f8, r8, l8⟩
   exact ⟨_, rfl, k F fs ks H8 s8 nF h8 f8 r8 l8⟩
  intro N hN
  refine ⟨fun m σ H' => ∃ (v8 v9 v10 : Option V) (fs ls : List V) (ks : List Int) (qs : List Wa), σ = [some (.ref g), some (.str a), some (.str b), some (.ref d), v4, v5, some (.ref F), some (.ref L), v8, v9, v10] /\ m = mu qs /\ B2 F L H7 H' /\ H' F = some (.lst fs) /\ H' L = some (.lst ls) /\ FsAt H' D fs ks /\ QsAt F L H' D ls qs /\ Sr es c a b ks qs /\ ks.length + mu qs <= 13700, ⟨_, none, none, none, [], _, [], [([a], 0)], rfl, rfl, B2.refl _ _ _, F7, e7, .nil, .cons ⟨wa, (0, 1), 0, rfl, way0, ⟨⟨by show (0 : Int) * D = 0 * 1; omega, by decide, by decide⟩, by decide, by decide⟩, rfl⟩ .nil, Sr.start es c a b, by show 0 + (wN 7 + 0) <= 13700; decide⟩, ?_⟩
  rintro m σ H8 ⟨v8, v9, v10, fs, ls, ks, qs, rfl, rfl, b8, F8, L8, f8, q8, S8, m8⟩
  refine ⟨_, rfl, by show 0 <= sizeLine; omega, fun z hz => ?_⟩
  have s9 := Same.new (o := .lst []) hz
  have e9 : upd H8 z (.lst []) z = some (.lst []) := upd_same
  generalize upd H8 z (.lst []) = H9 at s9 e9 ⊢
  have F9 := s9 _ _ F8
  have L9 := s9 _ _ L8
  have b9 := b8.trans (B2.of s9)
  have f9 := f8.ts (TS.of s9)
  have q9 := q8.b2 (B2.of s9) F8 L8
  have fl := Paired.length f8
  have ql := Paired.length q8
  have ml := mu_len qs
  refine ⟨L, z, ls, rfl, rfl, .of L9, .of e9, _, rfl, ?_⟩
  refine ite2 (fun c1 => ?_) (fun c1 => ?_)
  rotate_left 1
  ·have e : ls = [] := by simpa using c1
   subst e
   have e2 : qs = [] := List.eq_nil_of_length_eq_zero (by rw [<- ql]; rfl)
   subst e2
   exact hN _ _ ⟨_, fs, ks, rfl, fun c o e => b9 _ _ (s07 _ _ e) (ne_of_none e nF) (ne_of_none e nL), F9, f9, S8, by omega⟩
  have c1' : ls ≠ [] := by simpa using c1
  refine ⟨fun σ' H' => ∃ m', m' < mu qs /\ ∃ (v8 v9 v10 : Option V) (fs ls : List V) (ks : List Int) (qs : List Wa), σ' = [some (.ref g), some (.str a), some (.str b), some (.ref d), v4, v5, some (.ref F), some (.ref L), v8, v9, v10] /\ m' = mu qs /\ B2 F L H7 H' /\ H' F = some (.lst fs) /\ H' L = some (.lst ls) /\ FsAt H' D fs ks /\ QsAt F L H' D ls qs /\ Sr es c a b ks qs /\ ks.length + mu qs <= 13700, fun σ' H' h => h, ?_⟩
  obtain ⟨ls', y, qs', q, rfl, rfl, ps', wy⟩ := paired_last q9 c1'
  obtain ⟨wa1, x, n, rfl, wf, wl, nl⟩ := wy
  obtain ⟨v, pv'⟩ := S8.way q (by simp)
  rw [mu_app] at ml m8 ⊢
  have muq : mu [q] = wN (8 - q.1.length) := by simp [mu]
  rw [muq] at ml m8 ⊢
  have wp := wN_pos (8 - q.1.length)
  have p8 := pv'.len ha hn
  refine ⟨_, rfl, .inl ⟨rfl, _, .of L9⟩, L, _, .ref wa1, rfl, rfl, L9, by simp, ?_⟩
  rw [List.dropLast_concat]
  have b10 : B2 F L H9 (upd H9 L (.lst ls')) := B2.updL
  have L10 : upd H9 L (.lst ls') L = some (.lst ls') := upd_same
  have F10 : upd H9 L (.lst ls') F = some (.lst fs) := by rw [upd_ne FL]; exact F9
  have f10 := f9.ts (b10.ts F9 L9)
  have q10 := QsAt.b2 ps' b10 F9 L9
  have w10 := wf.b2 b10 F9 L9
  have b010 := b9.trans b10
  generalize upd H9 L (.lst ls') = H10 at b10 L10 F10 f10 q10 w10 b010 ⊢
  obtain ⟨pl1, sm1, x1, x2, x3, x4, x5⟩ := w10
  have lst := atI_last pv'.last
  refine setG ?_
  dsimp only
  refine ⟨_, rfl, wa1, _, _, _, rfl, rfl, .of x1, rfl, _, rfl, pl1, _, _, _, rfl, rfl, .of x2, lst, _, rfl, rfl, _, rfl, ?_⟩
  rw [deq]
  refine ite2 (fun c2 => ?_) (fun c2 => ?_)
  ·have c2' : v = b := by simpa using c2
   subst c2'
   refine ⟨_, rfl, .inl ⟨rfl, _, .of F10⟩, _, rfl, wa1, _, _, _, rfl, rfl, .of x1, rfl, F, fs, _, rfl, rfl, F10, by omega, ?_⟩
   have b11 : B2 F L H10 (upd H10 F (.lst (fs ++ [.ref sm1]))) := B2.updF
   refine ⟨mu qs', by omega, _, _, _, fs ++ [.ref sm1], ls', ks ++ [q.2], qs', rfl, rfl, b010.trans b11, upd_same, by rw [upd_ne (Ne.symm FL)]; exact L10, Paired.snoc (f10.ts (b11.ts F10 L10)) ⟨sm1, x, n, rfl, b11.tup F10 L10 x3, wl, by omega⟩, q10.b2 b11 F10 L10, S8.hit pv', by rw [List.length_append]; simp; omega⟩
  ·have c2' : v ≠ b := by simpa using c2
   have So := S8.on Sm pv' c2'
   have mx' := mu_exts Sm ha hn n8 pv'
   have Be10 : BeAt H10 d (adjL es c) D 200 nb la := Be7.keep (fun o e => b010 _ _ e dF dL) (b010.ts F7 e7) fun n hn o e => b010 _ _ e (lF n hn) (lL n hn)
   refine ⟨_, rfl, d, rfl, .inl ⟨_, .inl Be10.at_⟩, _, rfl, wa1, _, _, _, rfl, rfl, .of x1, rfl, _, rfl, pl1, _, _, _, rfl, rfl, .of x2, lst, by show 0 <= sizeLine; omega, fun le hle => ?_⟩
   obtain ⟨lo, ys, ov, g1, g2, g3, g4, g5⟩ := Be10.get hle v
   have s11 := Same.new (o := .lst []) hle
   have leF : le ≠ F := Ne.symm (ne_of_none F10 hle)
   have leL : le ≠ L := Ne.symm (ne_of_none L10 hle)
   have loF : lo ≠ F := by
    rcases g5 with e | ⟨e1, e2⟩
    ·rw [e]; exact leF
    ·rw [e2]; exact lF v e1
   have loL : lo ≠ L := by
    rcases g5 with e | ⟨e1, e2⟩
    ·rw [e]; exact leL
    ·rw [e2]; exact lL v e1
   generalize upd H10 le (.lst []) = H11 at g1 g3 g4 s11 ⊢
   refine ⟨ov, g1, ?_⟩
   rw [g2]
   have F11 := s11 _ _ F10
   have L11 := s11 _ _ L10
   have al := Paired.length g4
   have lq : ls'.length <= 13700 := by
    have h1 := Paired.length q10
    have h2 := mu_len qs'
    omega
   have hal := adj_len (es := es) (c := c) v
   refine ⟨lo, rfl, ⟨_, .of g3⟩, for_list (K := K) (a := lo) (xs := ys) (fun j σ H' => ∃ (v9 v10 : Option V) (ls : List V), σ = [some (.ref g), some (.str a), some (.str b), some (.ref d), v4, v5, some (.ref F), some (.ref L), some (.ref wa1), v9, v10] /\ B2 F L H11 H' /\ H' F = some (.lst fs) /\ H' L = some (.lst ls) /\ ls.length <= ls'.length + j /\ QsAt F L H' D ls (qs' ++ exts q.1 q.2 ((adjL es c v).take j)))
    ⟨v9, v10, ls', rfl, B2.refl _ _ _, F11, L11, Nat.le_refl _, by
     show QsAt F L H11 D ls' (qs' ++ [])
     rw [List.append_nil]
     exact q10.b2 (B2.of s11) F10 L10⟩ (fun j σ H' _ ⟨_, _, _, _, q, _⟩ => .of (q _ _ g3 loF loL)) ?_ ?_⟩
   rotate_left 1
   ·rintro σ H' ⟨v9, v10, ls, rfl, b12, F12, L12, l12, q12⟩
    rw [al, List.take_length] at q12
    have b0 := b010.trans ((B2.of s11).trans b12)
    refine ⟨mu (qs' ++ exts q.1 q.2 (adjL es c v)), by rw [mu_app]; omega, _, _, _, fs, ls, ks, _, rfl, rfl, b0, F12, L12, f10.ts (((B2.of s11).trans b12).ts F10 L10), q12, So, by rw [mu_app]; omega⟩
   rintro j y σ H12 hy ⟨v9, v10, ls, rfl, b12, F12, L12, l12, q12⟩
   obtain ⟨e, he, ta, gg, gx, rfl, t1, t2, t3⟩ := paired_at g4 hy
   have jl : j < (adjL es c v).length := (List.getElem?_eq_some_iff.mp he).1
   have t1' := b12.tup F11 L11 t1
   have t2' : FrAt H12 gg gx := b12.tup F11 L11 t2
   have x1' := b12.tup F11 L11 (s11 _ _ x1)
   have x2' := b12 _ _ (s11 _ _ x2) x4 x5
   have x3' : FrAt H12 sm1 x := b12.tup F11 L11 (s11 _ _ x3)
   have fl' : (q.1.map V.str).all flatV = true := strs_flat q.1
   refine ⟨ta, _, rfl, .of t1', rfl, _, _, rfl, _, _, rfl, rfl, ?_⟩
   refine ⟨_, rfl, _, rfl, wa1, _, _, _, rfl, rfl, .of x1', rfl, pl1, _, rfl, .inl (.of x2'), rfl, fl', _, rfl, ?_⟩
   rw [if_pos rfl, in_strs]
   have tk : (adjL es c v).take (j + 1) = (adjL es c v).take j ++ [e] := by
    obtain ⟨hi, ee⟩ := List.getElem?_eq_some_iff.mp he
    rw [List.take_succ_eq_append_getElem hi, ee]
   refine ite2 (fun c3 => ?_) (fun c3 => ?_)
   ·have c3' : e.1 ∉ q.1 := by simpa using c3
    refine ⟨_, rfl, .inl ⟨rfl, _, .of L12⟩, _, rfl, _, rfl, _, rfl, wa1, gg, e.1, q.1, x, gx, D, q.2, e.2, n, rfl, ⟨pl1, sm1, x1', x2', x3'⟩, t2', wl, t3, by omega, by omega, fun nb' x' H13 s13 nnb wn wl' => ?_⟩
    obtain ⟨pl2, sm2, y0, y1, y2, y3⟩ := wn
    have F13 := s13 _ _ F12
    have L13 := s13 _ _ L12
    refine ⟨L, ls, _, rfl, rfl, L13, by omega, ?_⟩
    have b14 : B2 F L H13 (upd H13 L (.lst (ls ++ [.ref nb']))) := B2.updL
    refine ⟨_, _, ls ++ [.ref nb'], rfl, b12.trans ((B2.of s13).trans b14), by rw [upd_ne FL]; exact F13, upd_same, by rw [List.length_append]; simp; omega, ?_⟩
    have ex : exts q.1 q.2 ((adjL es c v).take (j + 1)) = exts q.1 q.2 ((adjL es c v).take j) ++ [(q.1 ++ [e.1], q.2 + e.2)] := by
     unfold exts
     rw [tk, List.filter_append, List.map_append]
     simp [c3']
    rw [ex, <- List.append_assoc]
    refine Paired.snoc ((q12.b2 (B2.of s13) F12 L12).b2 b14 F13 L13) ⟨nb', x', n + 1, rfl, ⟨pl2, sm2, b14.tup F13 L13 y1, b14 _ _ y2 (Ne.symm (ne_of_none F12 y0)) (Ne.symm (ne_of_none L12 y0)), b14.tup F13 L13 y3, Ne.symm (ne_of_none F12 y0), Ne.symm (ne_of_none L12 y0)⟩, wl', by rw [List.length_append]; simp; omega⟩
   ·have c3' : e.1 ∈ q.1 := by simpa using c3
    refine ⟨_, _, ls, rfl, b12, F12, L12, by omega, ?_⟩
    have ex : exts q.1 q.2 ((adjL es c v).take (j + 1)) = exts q.1 q.2 ((adjL es c v).take j) := by
     unfold exts
     rw [tk, List.filter_append, List.map_append]
     simp [c3']
    rw [ex]
    exact q12
end
end Ev
set_option Elab.async false
set_option linter.all false
set_option maxRecDepth 100000
namespace Ev
open PySem L2
theorem deqI (x y : Int) : decide (V.int x = V.int y) = decide (x = y) := by
 by_cases e : x = y
 ·simp [e]
 ·simp [e]
theorem any_false {l : List Int} {p : Int -> Bool} (h : ∀ k ∈ l, p k = false) : (l.map p).any id = false := by
 rw [List.any_eq_false]
 intro b hb
 obtain ⟨k, hk, rfl⟩ := List.mem_map.mp hb
 simp [h k hk]
theorem any_true {l : List Int} {p : Int -> Bool} {k : Int} (hk : k ∈ l) (h : p k = true) : (l.map p).any id = true := List.any_eq_true.mpr ⟨true, List.mem_map.mpr ⟨k, hk, h⟩, rfl⟩
section
variable {P : Program} {w : World} {K : PySem.W.Frag} {mg : Str -> Option Value} {base : Heap}
theorem scIsLeast : FnScope ["_law_found", "_law_sums_here", "_law_top", "_law_below"] ["_law_found", "_law_sums_here"] (defScope sIsLeast) := ⟨rfl, rfl, rfl, by decide +kernel, rfl, by decide +kernel, by decide +kernel⟩
def spIsLeast : Sp := fun vs H Q _ => ∃ (a l : Addr) (x D : Int) (fs : List V) (ks : List Int), vs = [.ref a, .ref l] /\ FrAt H a (fr x D) /\ H l = some (.lst fs) /\ FsAt H D fs ks /\ x ∈ ks /\ (∀ k ∈ ks, x <= k) /\ 0 < D /\ D < 2 ^ 82 /\ 0 <= x /\ x < 2 ^ 180 /\ fs.length <= 13700 /\ ∀ H', Same H H' -> Q (.bl true) H'
abbrev nLs : List Str := ["_law_one", "_law_found"]
theorem ok_isLeast {f : Addr} {fd : FuncData} (F : Fun K "_law_is_least" "_law_is_least" sIsLeast f fd) (B : Bi mg) : FnOk P w K mg base CX0 1 f fd ["_law_found", "_law_sums_here"] spIsLeast := by
 refine F.ok scIsLeast (fun vs H Q E h => ?_) (fun cdv A outer s H vs Q E hr h => ?_)
 ·obtain ⟨a, l, x, D, fs, ks, rfl, _⟩ := h
  rfl
 ·obtain ⟨a, l, x, D, fs, ks, rfl, ha, hl, hf, hx, hle, D0, D1, x0, x1, l8, k⟩ := h
  have sz := sizeLine_eq
  refine' ⟨_, ?r0, ?kk⟩
  case' r0 => refine' pss_cons ?s1 ?r1
  case' r1 => refine' pss_cons ?s2 ?r2
  case' r2 => refine' pss_cons ?s3 ?r3
  case' r3 => refine' pss_cons ?s4 (pss_one ?s5)
  case s1 => exact ps_asg (pv 0) (pg_tup rfl (pgs_cons (pg_name (i := 2) scIsLeast.nd rfl (Or.inl rfl)) (pgs_cons (pg_name (i := 3) scIsLeast.nd rfl (Or.inl rfl)) pgs_nil)))
  case s2 => exact ps_while PassesOwn.never (pt_cmpR op_ne (pv 3) pe_int (nomark _)) (pss_one (ps_par rfl scIsLeast.nd (i := 2) (j := 3) rfl rfl (by decide) rfl rfl (pa_cons (pv 3) (pa_cons (pe_op op_mod (pv 2) (pv 3)) pa_nil)) rfl))
  case s3 => exact ps_if (PW.pt (pw_or (pt_cmpR op_ne (pe_callB call_abs (by rfl) B.abs PyProof.Rows.Boot.«abs» (pa_cons (pv 2) pa_nil)) pe_int (nomark _)) (pw_or1 (pt_cmpR op_lt (pe_ix ix_tup (pv 0) pe_int (fun _ _ => rfl)) pe_int (nomark _))))) pss_never pss_nil
  case' s4 => refine' ps_if (pt_val (pe_callB (call_any rfl) (by rfl) B.any PyProof.Rows.Boot.«any» (pa_cons ?c1 pa_nil))) pss_never pss_nil
  case' c1 => refine' pe_comp nLs 1 [0] (pi_list (pv 1)) (fun fp s H => pg_name (i := 0) (show nLs.Nodup by decide +kernel) rfl (Or.inl rfl)) (fun fp s H => pts_nil) (fun fp s H => ?e1)
  case e1 => exact pe_cmpR op_lt (pe_op op_mulX (pe_ix (ixK (K := K) rIxT ix_tup) (pv 0) pe_int (fun _ _ => rfl)) (pe_ix (ixK (K := K) rIxT ix_tup) (pv 1) pe_int (fun _ _ => rfl))) (pe_op op_mulX (pe_ix (ixK (K := K) rIxT ix_tup) (pv 1) pe_int (fun _ _ => rfl)) (pe_ix (ixK (K := K) rIxT ix_tup) (pv 0) pe_int (fun _ _ => rfl))) (nomark _)
  case' s5 => refine' ps_ret (pe_callB (call_any rfl) (by rfl) B.any PyProof.Rows.Boot.«any» (pa_cons ?c2 pa_nil))
  case' c2 => refine' pe_comp nLs 1 [0] (pi_list (pv 1)) (fun fp s H => pg_name (i := 0) (show nLs.Nodup by decide +kernel) rfl (Or.inl rfl)) (fun fp s H => pts_nil) (fun fp s H => ?e2)
  case e2 => exact pe_cmpR op_eq (pe_op op_mulX (pe_ix (ixK (K := K) rIxT ix_tup) (pv 0) pe_int (fun _ _ => rfl)) (pe_ix (ixK (K := K) rIxT ix_tup) (pv 1) pe_int (fun _ _ => rfl))) (pe_op op_mulX (pe_ix (ixK (K := K) rIxT ix_tup) (pv 1) pe_int (fun _ _ => rfl)) (pe_ix (ixK (K := K) rIxT ix_tup) (pv 0) pe_int (fun _ _ => rfl))) (nomark _)
  case' kk => skip
  obtain ⟨cx, gx, bx1, bx2⟩ := cr_fr D0 x0
  have mx := sm_fr D0 D1 x0 (by omega)
  generalize fr x D = p at *
  obtain ⟨c1, c2, c3⟩ := id cx
  unfold sm at mx
  have ha' : H a = some (.tup [.int p.1, .int p.2]) := ha
  refine ⟨_, rfl, a, _, rfl, .of ha', rfl, _, _, rfl, _, _, rfl, rfl, ?_⟩
  dsimp only
  refine seqG (fun σ H' => H' = H /\ ∃ v3 : Option V, σ = [some (.ref a), some (.ref l), some (.int 1), v3]) ?rest ?whl
  case whl =>
   intro N hN
   refine while_by (fun σ H1 => H1 = H /\ ∃ (u q : Int), σ = [some (.ref a), some (.ref l), some (.int u), some (.int q)] /\ 0 <= u /\ 0 <= q /\ Int.gcd u q = 1) (fun σ _ => match σ with | [_, _, _, some (.int r)] => r.toNat | _ => 0) ⟨rfl, p.1, p.2, rfl, c3, Int.le_of_lt c2, gx⟩ ?_ ?_
   ·rintro σ H1 ⟨rfl, u, q, rfl, hp, hq, e⟩
    refine ⟨_, rfl, rfl, _, rfl, ?_⟩
    refine ite2 (fun c => ?_) (fun c => ?_)
    ·have hq1 : 0 < q := by
      have : q ≠ 0 := by
       intro z
       subst z
       simp at c
      omega
     refine ⟨_, rfl, _, rfl, _, rfl, _, _, rfl, rfl, hq1, _, _, rfl, ?_⟩
     have h1 := Int.emod_nonneg u (Int.ne_of_gt hq1)
     have h2 := Int.emod_lt_of_pos u hq1
     refine ⟨⟨rfl, _, _, rfl, hq, h1, ?_⟩, ?_⟩
     ·rw [<- e, gcd_step hp hq1]
     ·show (u % q).toNat < q.toNat
      omega
    ·have hq1 : q = 0 := by simpa using c
     subst hq1
     have hp1 : u = 1 := by
      rw [Int.gcd_zero_right] at e
      omega
     subst hp1
     exact hN _ _ ⟨rfl, _, rfl⟩
   ·intro σ H1 Q1 Q2 hq h
    obtain ⟨x, e, h⟩ := h
    exact ⟨x, e, h.1, h.2.choose, h.2.choose_spec.1, hq _ _ h.2.choose_spec.2⟩
  rintro σ H1 ⟨rfl, v3, rfl⟩
  refine ⟨_, rfl, _, rfl, rfl, _, rfl, ?_⟩
  refine iteF ⟨_, rfl, a, _, _, _, rfl, rfl, .of ha', rfl, _, _, rfl, rfl, _, rfl, ?_⟩
  rw [decide_eq_false (show ¬ p.2 < 1 by omega)]
  refine iteF ?_
  have fl := Paired.length hf
  have comp : ∀ (r : Int -> Bool) (te : TE) (H0 : Hp) (R : VK), Same H1 H0 -> (∀ (t : Addr) (y : Int × Int) (k : Int) (n : Nat) (H2 : Hp) (R2 : VK), FrAt H2 t y -> FrAt H2 a p -> WaL D y k n -> n <= 7 -> R2 (.bl (r k)) H2 -> te [some (.ref t), some (.ref a)] H2 R2) -> (∀ l1 H3, Same H0 H3 -> H3 l1 = some (.lst ((ks.map r).map V.bl)) -> R (.ref l1) H3) -> ∀ D1, H0 D1 = none -> CompW (Itl K l) (gName 0) tYes te ([none] ++ [some (.ref a)]) D1 H0 R := by
   intro r te H0 R s0 hte hR D1 hD
   refine comp_list (own := 1) (fv := [some (.ref a)]) (xs := fs) rfl gok1 (fun i out H' => Same H0 H' /\ H' D1 = some (.lst out) /\ out = ((ks.take i).map r).map V.bl) ⟨Same.new hD, upd_same, rfl⟩ (fun i out H' _ ⟨sm, _, _⟩ => .of (sm _ _ (s0 _ _ hl))) (fun out H5 ⟨sm, hD5, eo⟩ => ?_) (fun i y out H' hy ⟨sm, hD', eo⟩ => ?_)
   ·rw [fl, List.take_length] at eo
    rw [eo] at hD5
    exact hR D1 H5 sm hD5
   ·obtain ⟨kk, hk, t, y, n, rfl, f1, f2, f3⟩ := paired_at hf hy
    refine ⟨_, rfl, rfl, fun Nx hN => yesT ?_⟩
    refine hte t y kk n H' _ (sm _ _ (s0 _ _ f1)) (sm _ _ (s0 _ _ ha)) f2 f3 ⟨out, hD', by rw [eo, List.length_map, List.length_map, List.length_take]; omega, hN _ _ ⟨same_but sm hD, upd_same, ?_⟩⟩
    rw [take_succ_map _ hk, List.map_append, eo]
    rfl
  refine ⟨_, rfl, l, rfl, ⟨_, .of hl⟩, ?_⟩
  refine comp (fun k => decide (k < x)) _ H1 _ (Same.refl _) (fun t y kk n H2 R2 f1 f2 f3 f4 h => ?_) fun l1 H3 s3 e3 => ?_
  ·have bg := f3.big f4
   rw [<- decide_eq_decide.mpr (Cr.lt D0 f3.1 cx)] at h
   refine ⟨_, rfl, t, _, _, _, rfl, rfl, .of f1, rfl, _, rfl, a, _, _, _, rfl, rfl, .of f2, rfl, _, _, rfl, rfl, ⟨bg.1, Int.le_of_lt mx.2.1, by omega⟩, ?_⟩
   exact ⟨_, rfl, a, _, _, _, rfl, rfl, .of f2, rfl, _, rfl, t, _, _, _, rfl, rfl, .of f1, rfl, _, _, rfl, rfl, ⟨⟨mx.1.1, by omega⟩, Int.le_of_lt bg.2.1, bg.2.2⟩, _, _, rfl, rfl, h⟩
  refine ⟨l1, _, rfl, .of e3, _, rfl, ?_⟩
  refine (show if (ks.map fun k => decide (k < x)).any id = true then _ else _ from ?_)
  rw [any_false (p := fun k => decide (k < x)) fun k hk => decide_eq_false (by have := hle k hk; omega)]
  refine iteF ?_
  refine ⟨_, rfl, l, rfl, ⟨_, .of (s3 _ _ hl)⟩, ?_⟩
  refine comp (fun k => decide (k = x)) _ H3 _ s3 (fun t y kk n H2 R2 f1 f2 f3 f4 h => ?_) fun l2 H4 s4 e4 => ?_
  ·have bg := f3.big f4
   rw [<- decide_eq_decide.mpr (Cr.eq D0 f3.1 cx)] at h
   refine ⟨_, rfl, t, _, _, _, rfl, rfl, .of f1, rfl, _, rfl, a, _, _, _, rfl, rfl, .of f2, rfl, _, _, rfl, rfl, ⟨bg.1, Int.le_of_lt mx.2.1, by omega⟩, ?_⟩
   refine ⟨_, rfl, a, _, _, _, rfl, rfl, .of f2, rfl, _, rfl, t, _, _, _, rfl, rfl, .of f1, rfl, _, _, rfl, rfl, ⟨⟨mx.1.1, by omega⟩, Int.le_of_lt bg.2.1, bg.2.2⟩, rfl, ?_⟩
   rw [deqI]
   exact h
  refine ⟨l2, _, rfl, .of e4, ?_⟩
  show Q (.bl ((ks.map fun k => decide (k = x)).any id)) H4
  rw [any_true (p := fun k => decide (k = x)) hx (decide_eq_true rfl)]
  exact k H4 (s3.trans s4)
def FoV (H : Hp) (D : Int) (v : V) : Option Int -> Prop
 | none => v = .non
 | some x => ∃ t, v = .ref t /\ FrAt H t (fr x D) /\ 0 <= x /\ x < 2 ^ 180
theorem FoV.same {H H' : Hp} {D : Int} {v : V} {o : Option Int} (h : FoV H D v o) (s : Same H H') : FoV H' D v o := by
 cases o with
 | none => exact h
 | some x =>
  obtain ⟨t, e, f, g⟩ := h
  exact ⟨t, e, f.same s, g⟩
theorem scRight : FnScope ["_law_found", "_law_sums_here"] ["_law_found", "_law_sums_here"] (defScope sRight) := ⟨rfl, rfl, rfl, by decide +kernel, rfl, by decide +kernel, by decide +kernel⟩
def spRight : Sp := fun vs H Q _ => ∃ (v : V) (o : Option Int) (l : Addr) (D : Int) (fs : List V) (ks : List Int) (es : List Te) (c : Te -> Int) (a b : Str), vs = [v, .ref l] /\ FoV H D v o /\ H l = some (.lst fs) /\ FsAt H D fs ks /\ Sr es c a b ks [] /\ IsD es c a b o /\ (∀ t ∈ es, 0 <= c t) /\ 0 < D /\ D < 2 ^ 82 /\ fs.length <= 13700 /\ ∀ H', Same H H' -> Q (.bl true) H'
theorem ok_right {f : Addr} {fd : FuncData} (F : Fun K "_law_right" "_law_right" sRight f fd) (B : Bi mg) (cI : Cal P w K mg base 1 "_law_is_least" ["_law_found", "_law_sums_here"] spIsLeast) : FnOk P w K mg base CX0 2 f fd ["_law_found", "_law_sums_here"] spRight := by
 refine F.ok scRight (fun vs H Q E h => ?_) (fun cdv A outer s H vs Q E hr h => ?_)
 ·obtain ⟨v, o, l, D, fs, ks, es, c, a, b, rfl, _⟩ := h
  rfl
 ·obtain ⟨v, o, l, D, fs, ks, es, c, a, b, rfl, hv, hl, hf, S, hD, cp, D0, D1, l8, k⟩ := h
  have sz := sizeLine_eq
  have hu := roomU hr 0
  refine' ⟨_, pss_cons ?s1 (pss_one ?s2), ?kk⟩
  case s1 => exact ps_if (pt_cmpR (op_eqNil hu) (pv 1) (pe_lst pa_nil) (nomark _)) (pss_one (ps_ret (pe_cmp (pc_isN (pv 0))))) pss_nil
  case s2 => exact ps_ret (pe_and (pe_callB call_isi (by rfl) B.isi PyProof.Rows.Boot.«isinstance» (pa_cons (pv 0) (pa_cons (pe_bltn (v := .ty "tuple") (by rfl) B.tuple PyProof.Rows.Boot.«tuple» rfl) pa_nil))) (pe_one (pe_fn cI hr (pa_cons (pv 0) (pa_cons (pv 1) pa_nil)))))
  case' kk => skip
  have lo := least_of cp hD S.fnd fun p kk hp => (S.all p kk hp).elim id fun ⟨_, h, _⟩ => by cases h
  have fl := Paired.length hf
  refine ⟨_, rfl, by show 0 <= sizeLine; omega, fun z hz => ?_⟩
  have s1 := Same.new (o := .lst []) hz
  have e1 : upd H z (.lst []) z = some (.lst []) := upd_same
  generalize upd H z (.lst []) = H1 at s1 e1 ⊢
  refine ⟨l, z, fs, rfl, rfl, .of (s1 _ _ hl), .of e1, _, rfl, ?_⟩
  cases o with
  | none =>
   have lo : ks = [] := lo
   subst lo
   have : fs = [] := List.eq_nil_of_length_eq_zero fl
   subst this
   have hv : v = .non := hv
   subst hv
   exact iteT ⟨_, rfl, k H1 s1⟩
  | some x =>
   obtain ⟨t, rfl, ft, x0, x1⟩ := hv
   have ne : fs.isEmpty = false := by
    cases fs with
    | nil =>
     have : ks = [] := List.eq_nil_of_length_eq_zero fl.symm
     rw [this] at lo
     cases lo.1
    | cons _ _ => rfl
   rw [ne]
   have ft' : H1 t = some (.tup [.int (fr x D).1, .int (fr x D).2]) := s1 _ _ ft
   refine iteF ⟨_, rfl, _, _, _, _, rfl, .tup ft', rfl, _, rfl, ?_⟩
   exact iteT ⟨_, rfl, _, rfl, t, l, x, D, fs, ks, rfl, ft.same s1, s1 _ _ hl, hf.ts (TS.of s1), lo.1, lo.2, D0, D1, x0, x1, l8, fun H2 s2 => k H2 (s1.trans s2)⟩
end
end Ev
set_option Elab.async false
set_option linter.all false
set_option maxRecDepth 100000
namespace HT
open PySem PySem.Spec PyProof.Rows
section
variable {prog : Program} {w : World} {A : Around} {E : Value -> Shared -> Prop} {s : Shared}
end
end HT
namespace L2
open PySem PySem.Spec PyProof.Rows
section
variable {X : Cx} {e st : Expr} {te ts : TE} {pos p2 : Pos}
end
end L2
set_option Elab.async false
set_option linter.all false
set_option maxRecDepth 100000
namespace EvT
open PySem PySem.SeqAt PyProof.Rows
open AutoSeq1 (wpAny_loadPart')
open MeetsSeq MeetsSeq2 MeetsSeq3 SeqRoads2
section
variable {prog : Program} {w : World} {A : Around} {E : Value -> Shared -> Prop} {s : Shared}
theorem ne_tup2 {l b : Addr} {x1 x2 y1 y2 : Value} {n m : Nat} {dl db : Option Addr} {sl sb : Array (Option Value)} {R : Fin -> Shared -> Prop}
  (gl : s.heap.get? l = some { cls := .type "tuple", dict := dl, data := .seq #[x1, x2] n, slots := sl }) (gb : s.heap.get? b = some { cls := .type "tuple", dict := db, data := .seq #[y1, y2] m, slots := sb })
  (h1 : ∀ {Q : Bool -> Shared -> Prop}, Q true s -> wpAny (model prog w) A (eqBool x1 y1) Q E s)
  (h2 : ∀ {Q : Bool -> Shared -> Prop}, Q true s -> wpAny (model prog w) A (eqBool x2 y2) Q E s)
  (h : R (.done (.ret (.bool false))) s) :
  wpAny (model prog w) A (Builtin.«tuple.__ne__» ⟨[.ref l, .ref b], []⟩) R E s := by
 obtain ⟨hp, g, d, tk, os⟩ := s
 have f3 := AutoSeq1.sub_tuple_tuple
 wp_walk using wpAny_loadPart' gl, wpAny_loadPart' gb, h1, h2
 exact h
theorem ne_tup2At {l b : Addr} {x1 x2 y1 y2 : Value} {Q : Value -> Shared -> Prop} (hl : s.heap.IsTuple l #[x1, x2]) (hb : s.heap.IsTuple b #[y1, y2]) (hu : A.units < cLine)
  (h1 : ∀ {Q : Bool -> Shared -> Prop}, Q true s -> wpAny (model prog w) A.in1 (eqBool x1 y1) Q E s)
  (h2 : ∀ {Q : Bool -> Shared -> Prop}, Q true s -> wpAny (model prog w) A.in1 (eqBool x2 y2) Q E s) (h : Q (.bool false) s) : wpAny (model prog w) A (compareOp .NotEq (.ref l) (.ref b)) Q E s := by
 obtain ⟨⟨c1, d1, t1, l1⟩, o1, k1, n1, z1⟩ := id hl
 obtain ⟨⟨c2, d2, t2, l2⟩, o2, k2, n2, z2⟩ := id hb
 simp only at k1 z1 k2 z2
 subst k1 z1 k2 z2
 have T1 : s.TypeIs (.ref l) "tuple" := ⟨_, o1, rfl⟩
 have T2 : s.TypeIs (.ref b) "tuple" := ⟨_, o2, rfl⟩
 have z := ne_tup2 (R := fun fin s' => ∃ v, fin = Fin.done (Flow.ret v) /\ v ≠ Value.notImplemented /\ Q v s') o1 o2 h1 h2 ⟨.bool false, rfl, (fun x => nomatch x), h⟩
 have z2 := wpAny_call_entry F.slot_tuple_ne T1 F.entry_tuple_ne z (F.args_tuple_ne_2 _ _)
 exact wpAny_richCompare_same_room (op := .NotEq) T1 T2 F.slot_tuple_ne z2 hu
end
end EvT
namespace L2
open PySem PySem.Spec PyProof.Rows PySem.W
theorem fm_map {α β : Type} {f : α -> Option β} {g : α -> β} : ∀ {l : List α}, (∀ k ∈ l, f k = some (g k)) -> l.filterMap f = l.map g
 | [], _ => rfl
 | k :: l, h => by
  rw [List.filterMap_cons, h k List.mem_cons_self, List.map_cons, fm_map fun x hx => h x (List.mem_cons_of_mem _ hx)]
theorem pick_rev (items : Array Value) : slicePick items none none (some (-1)) = items.toList.reverse.toArray := by
 have e : slicePick items none none (some (-1)) = ((sliceRange ((items.size : Int) - 1) (-1) (-1)).filterMap (items[·]?)).toArray := rfl
 rw [e]
 congr 1
 have c : sliceRange ((items.size : Int) - 1) (-1) (-1) = (List.range items.size).map fun k => items.size - 1 - k := by
  unfold sliceRange
  have n : (if (-1 : Int) > 0 then (if (items.size : Int) - 1 < -1 then (-1 - ((items.size : Int) - 1) + -1 - 1) / -1 else 0) else (if (items.size : Int) - 1 > -1 then ((items.size : Int) - 1 - -1 - -1 - 1) / (- -1) else 0)).toNat = items.size := by
   rw [if_neg (by decide)]
   split
   ·have : ((items.size : Int) - 1 - -1 - -1 - 1) / (- -1) = items.size := by
     rw [show (- -1 : Int) = 1 by decide, Int.ediv_one]
     omega
    rw [this]
    omega
   ·omega
  show (List.range (if (-1 : Int) > 0 then (if (items.size : Int) - 1 < -1 then (-1 - ((items.size : Int) - 1) + -1 - 1) / -1 else 0) else (if (items.size : Int) - 1 > -1 then ((items.size : Int) - 1 - -1 - -1 - 1) / (- -1) else 0)).toNat).map _ = _
  rw [n]
  refine List.map_congr_left fun k hk => ?_
  have := List.mem_range.mp hk
  show ((items.size : Int) - 1 + -1 * (k : Int)).toNat = _
  omega
 rw [c]
 apply List.ext_getElem?
 intro i
 rw [List.filterMap_map]
 have g : (List.range items.size).filterMap ((fun x => items[x]?) ∘ fun k => items.size - 1 - k) = (List.range items.size).map fun k => items[items.size - 1 - k]?.getD .none := by
  refine fm_map fun k hk => ?_
  have := List.mem_range.mp hk
  show items[items.size - 1 - k]? = some (items[items.size - 1 - k]?.getD .none)
  rw [Array.getElem?_eq_getElem (by omega)]
  rfl
 rw [g, List.getElem?_map]
 by_cases h : i < items.size
 ·rw [List.getElem?_range h, List.getElem?_reverse (by simpa using h)]
  show some (items[items.size - 1 - i]?.getD .none) = items.toList[items.toList.length - 1 - i]?
  rw [Array.getElem?_eq_getElem (by omega)]
  simp [List.getElem?_eq_getElem (l := items.toList) (i := items.size - 1 - i) (by simp; omega)]
 ·rw [List.getElem?_eq_none (by simpa using h), List.getElem?_eq_none (by simpa using h)]
  rfl
section
variable {X : Cx} {e st : Expr} {te ts : TE} {pos p2 : Pos}
def tRevL (K : PySem.W.Frag) (te ts : TE) : TE := fun σ H Q => te σ H fun x H1 => ts σ H1 fun y H2 => y = .int (-1) /\ ∃ a xs, x = .ref a /\ SqL K H2 a xs /\ ∀ p, H2 p = none -> Q (.ref p) (upd H2 p (.lst xs.reverse))
theorem pe_revL (he : PE X e te) (hs : PE X st ts) : PE X (.Subscript e (.Slice none none (some st) p2) pos) (tRevL X.K te ts) := by
 intro pins s σ H Q I h
 refine Subscript_ (thn (he pins s σ H _ I h) fun v s1 ⟨x, H1, I1, r1, q1⟩ => ?_)
 refine wpAny_Slice ?_
 rw [evalPart_none]
 refine wpAny_pure (wpAny_pure ?_)
 rw [evalPart_some]
 refine thn (hs pins s1 σ H1 _ I1 q1) fun vs s3 ⟨y, H3, I3, ry, ey, a, xs, ex, hx, q⟩ => ?_
 subst ex ey
 obtain ⟨t, rfl⟩ := ry
 cases r1
 have I4 : Inv X pins σ H3 { s3 with heap := s3.heap.push { cls := .type "slice", data := .fields #[.none, .none, .int (-1) t] } } := I3.kept (t' := s3.toks) fun b ob q => Heap.get?_push_of_some _ q
 obtain ⟨its, r, ht, hz⟩ := I4.list hx
 have hlen := r.length
 show wpAny (model X.prog X.w) X.A (subscriptTail e (.Slice none none (some st) p2) (.ref a) (.ref s3.heap.objs.size)) (EP X pins σ Q) X.xe { s3 with heap := s3.heap.push { cls := .type "slice", data := .fields #[.none, .none, .int (-1) t] } }
 refine tail_any (ops := [.ref a, .ref s3.heap.objs.size]) ht.isList.typeIs slot_list_getitem.lookup (wpAny_getItem_list_slice ht.isList (Heap.IsSliceOf.new ..) .none .none (.int (-1) t) (by decide) ?_ (by rw [List.size_toArray] <;> omega)) (by with_unfolding_all rfl)
 rw [pick_rev]
 refine ⟨.ref _, upd H3 _ (.lst xs.reverse), I4.laid (t' := s3.toks) (fun b o e => Heap.get?_push_of_some _ e) (Nat.le_refl _) ?_, rfl, q _ (I4.hok.fresh (Nat.le_refl _))⟩
 exact ⟨by rw [List.length_reverse]; exact hz, _, 0, r.reverse, Heap.get?_push_size _ rfl⟩
end
theorem eqB_int {prog : Program} {w : World} {A : Around} {s : Shared} {E : Value -> Shared -> Prop} {Q : Bool -> Shared -> Prop} (u : Int) (t t' : Tok) (q : Q true s) : wpAny (model prog w) A (eqBool (.int u t) (.int u t')) Q E s :=
 SeqAt.EqAt.int_int u t u t' prog w _ _ (by simpa using q)
def rNeF (K : PySem.W.Frag) : V -> V -> Hp -> VK -> Prop := fun x y H Q => ((x = .non /\ y = .non) ∨ ∃ a b p q, x = .ref a /\ y = .ref b /\ SqT K H a [.int p, .int q] /\ SqT K H b [.int p, .int q]) /\ Q (.bl false) H
theorem op_neF {X : Cx} (hu : X.A.units + 1 < cLine) : OpR X (compareOp .NotEq) (rNeF X.K) := by
 intro pins s σ H x y v u Q I rx ry h
 obtain ⟨h, hq⟩ := h
 rcases h with ⟨rfl, rfl⟩ | ⟨a, b, p, q, rfl, rfl, t, t'⟩
 ·exact op_ne pins s σ H .non .non v u Q I rx ry ⟨rfl, hq⟩
 ·cases rx
  cases ry
  obtain ⟨us, r, pl, _⟩ := I.tuple t
  obtain ⟨vs, r', pl', _⟩ := I.tuple t'
  obtain ⟨u1, u2, rfl, ⟨t1, rfl⟩, ⟨t2, rfl⟩⟩ := Vals.two r
  obtain ⟨w1, w2, rfl, ⟨t3, rfl⟩, ⟨t4, rfl⟩⟩ := Vals.two r'
  exact EvT.ne_tup2At (isTuple_of pl) (isTuple_of pl') (by omega) (fun q => eqB_int _ _ _ q) (fun q => eqB_int _ _ _ q) ⟨.bl false, H, I, rfl, hq⟩
end L2
namespace Ev
open PySem L2
structure CalC (P : Program) (w : World) (K : PySem.W.Frag) (mg : Str -> Option Value) (base : Heap) (C : Addr) (k : Nat) (x : Str) (ps : List Str) (sp : Sp) : Prop where
 ex : ∃ f fd, FnOk P w K mg base CX0 k f fd ps sp /\ Mk K C f /\ mg x = some (.ref C) /\ Binds K fd ps []
theorem pe_mk {X : Cx} {C : Addr} {k : Nat} {x : Str} {ps : List Str} {sp : Sp} {p pos : Pos} {e : Expr} {es : List Expr} {t : TA} (c : CalC X.prog X.w X.K X.mg X.base C k x ps sp) (hr : Room (k + 1) X.A) (ha : PA X (e :: es) t) (hg : Gl X x := by rfl) (hdb : (x == ("__debug__" : Str)) = false := by decide)
  (he : starEach (e :: es) X.env = (false, eval e X.env) :: starEach es X.env := by rfl) (hpl : (backTo pos (starEach es X.env)).any (·.1) = false := by rfl) : PE X (.Call (.Name x p) (e :: es) [] pos) (tMake C sp [] E0 t) := by
 obtain ⟨f, fd, F, M, m, b⟩ := c.ex
 exact pe_make M F hr hg m b .nil pass0 ha hdb he hpl
theorem But.same {l : Addr} {H0 H H' : Hp} (b : But l H H') (n : H0 l = none) (s : Same H0 H) : Same H0 H' := fun c o e => b c o (s c o e) (ne_of_none e n)
theorem ex_max : ∀ {l : List Int}, l ≠ [] -> ∃ m, m ∈ l /\ ∀ a ∈ l, a <= m
 | [], h => absurd rfl h
 | [x], _ => ⟨x, List.mem_cons_self, fun a ha => by simp at ha; omega⟩
 | x :: y :: l, _ => by
  obtain ⟨m, h1, h2⟩ := ex_max (l := y :: l) (by simp)
  by_cases c : m <= x
  ·exact ⟨x, List.mem_cons_self, fun a ha => by
    rcases List.mem_cons.mp ha with z | z
    ·omega
    ·have := h2 a z
     omega⟩
  ·exact ⟨m, List.mem_cons_of_mem _ h1, fun a ha => by
    rcases List.mem_cons.mp ha with z | z
    ·omega
    ·exact h2 a z⟩
theorem ex_most {hs : List (Str × Int)} {ts : List (Str × Str)} (G : Good hs ts) : ∃ m, isMost hs ts m := ex_max (by
 intro z
 have : (lens hs ts).length = 0 := by rw [z]; rfl
 unfold lens at this
 rw [List.length_map] at this
 have := G.nlen
 have := G.h1
 omega)
theorem Good.bare {hs : List (Str × Int)} {ts : List (Str × Str)} (G : Good hs ts) : Good hs [] := ⟨G.hok, G.hnd, G.h1, G.h8, by simp, .nil, by decide, by simp⟩
def RL6 : List Str := ["shares one", "shares all", "least one fall", "least one calm", "below one fall", "below one calm"]
def RL : List Str := RL6 ++ (["turns fall", "turns calm"] : List Str)
theorem rule_of : ∀ n ∈ RL, ∃ r ∈ rl, r.1 = n /\ guB ["fall", "calm"] r = true := by decide +kernel
theorem IsD.conv {es es' : List Te} {c c' : Te -> Int} {a b : Str} {o : Option Int} (m : ∀ t, t ∈ es ↔ t ∈ es') (hc : ∀ t ∈ es, c t = c' t) (h : IsD es c a b o) : IsD es' c' a b o := by
 have f : ∀ {n k}, Wk es c a b n k -> Wk es' c' a b n k := fun h => h.mono fun t ht => ⟨(m t).mp ht, hc t ht⟩
 have g : ∀ {n k}, Wk es' c' a b n k -> Wk es c a b n k := fun h => h.mono fun t ht => ⟨(m t).mpr ht, (hc t ((m t).mpr ht)).symm⟩
 cases o with
 | none => exact fun n k w => h n k (g w)
 | some x => exact ⟨⟨_, f h.1.choose_spec⟩, fun n k w => h.2 n k (g w)⟩
theorem cst_conv {l : Bool} {g : Option Str} {wt m D : Int} {hs hs' : List (Str × Int)} {es es' : List Te} (hm : ∀ t, t ∈ es ↔ t ∈ es') (h0 : ∀ t ∈ es, 0 <= c0 g wt m D hs t /\ c0 g wt m D hs t = c0 g wt m D hs' t) : ∀ t ∈ es, cst l g wt m D hs es t = cst l g wt m D hs' es' t := fun t ht => by
 cases l with
 | false =>
  rw [cst_f, cst_f]
  exact (h0 t ht).2
 | true =>
  rw [cst_t, cst_t]
  exact mx_eq hm h0 ht (.inl rfl)
section
variable {hs : List (Str × Int)} {ts : List (Str × Str)}
theorem Good.rev (G : Good hs ts) : Good hs.reverse ts.reverse := by
 refine ⟨fun h hh => G.hok h (List.mem_reverse.mp hh), ?_, by rw [List.length_reverse]; exact G.h1, by rw [List.length_reverse]; exact G.h8, fun t ht => G.tok t (List.mem_reverse.mp ht), ?_, by rw [List.length_reverse]; exact G.t64, fun t ht => ?_⟩
 ·rw [List.map_reverse]
  exact (List.reverse_perm _).nodup_iff.mpr G.hnd
 ·rw [List.map_reverse]
  exact (List.reverse_perm _).nodup_iff.mpr G.tnd
 ·have := G.tin t (List.mem_reverse.mp ht)
  rw [List.map_reverse, List.mem_reverse, List.mem_reverse]
  exact this
theorem str_rev (G : Good hs ts) {n : Str} (h : n ∈ hs.map (·.1)) : strOf hs.reverse n = strOf hs n := strOf_eq (by rw [List.map_reverse]; exact (List.reverse_perm _).nodup_iff.mpr G.hnd) (List.mem_reverse.mpr (strOf_mem h))
theorem tsOf_rev (t : Te) : t ∈ tsOf ts ↔ t ∈ tsOf ts.reverse := by
 rw [tsOf_mem, tsOf_mem]
 simp
theorem ends_rev (n : Str) : (endsOf ts.reverse).count n = (endsOf ts).count n := by
 unfold endsOf
 rw [List.map_reverse, List.map_reverse, List.count_append, List.count_append, List.count_reverse, List.count_reverse]
theorem most_rev (G : Good hs ts) {m : Int} (h : isMost hs ts m) : isMost hs.reverse ts.reverse m := by
 have e : ∀ n, (near (nmsOf hs) (tsOf ts) n).length = (endsOf ts).count n := near_count G
 refine most_of G.rev ?_ fun a ha => ?_
 ·obtain ⟨n, hn, rfl⟩ := List.mem_map.mp h.1
  rw [List.map_reverse]
  refine List.mem_map.mpr ⟨n, List.mem_reverse.mpr ((nms_perm hs).mem_iff.mp hn), ?_⟩
  rw [ends_rev, <- e n]
 ·rw [List.map_reverse] at ha
  obtain ⟨n, hn, rfl⟩ := List.mem_map.mp ha
  have := h.2 _ (List.mem_map.mpr ⟨n, (nms_perm hs).mem_iff.mpr (List.mem_reverse.mp hn), rfl⟩)
  rw [ends_rev, <- e n]
  exact this
theorem DOk.rev (G : Good hs ts) {D : Int} (d : DOk hs D) : DOk hs.reverse D := by
 refine ⟨d.pos, d.big, fun u hu v hv n => ?_⟩
 rw [List.map_reverse, List.mem_reverse] at hu hv
 rw [str_rev G hu, str_rev G hv]
 exact d.dvd u hu v hv n
theorem c0_rev (G : Good hs ts) {g : Option Str} {wt m D : Int} {t : Te} (h1 : t.1 ∈ hs.map (·.1)) (h2 : t.2 ∈ hs.map (·.1)) : c0 g wt m D hs t = c0 g wt m D hs.reverse t := by
 unfold c0 own1
 rw [str_rev G h1, str_rev G h2]
end
end Ev
set_option Elab.async false
set_option linter.all false
set_option maxRecDepth 100000
namespace Ev
open PySem L2
theorem paired_rev {α β : Type} {F : α -> β -> Prop} : ∀ {l : List α} {m : List β}, Paired F l m -> Paired F l.reverse m.reverse
 | _, _, .nil => .nil
 | _, _, .cons f t => by
  rw [List.reverse_cons, List.reverse_cons]
  exact Paired.snoc (paired_rev t) f
def SuAt (H : Hp) (l : Addr) (D : Int) (hs : List (Str × Int)) (ts : List (Str × Str)) (r : Rl) (wt m : Int) (a b : Str) : Prop := ∃ fs ks, H l = some (.lst fs) /\ FsAt H D fs ks /\ Sr (oT ts) (cst (isL r) r.2.2.2 wt m D hs (oT ts)) a b ks [] /\ fs.length <= 13700
theorem SuAt.same {H H' : Hp} {l : Addr} {D : Int} {hs : List (Str × Int)} {ts : List (Str × Str)} {r : Rl} {wt m : Int} {a b : Str} (h : SuAt H l D hs ts r wt m a b) (s : Same H H') : SuAt H' l D hs ts r wt m a b := by
 obtain ⟨fs, ks, h1, h2, h3, h4⟩ := h
 exact ⟨fs, ks, s _ _ h1, h2.ts (TS.of s), h3, h4⟩
structure Hnd (K : PySem.W.Frag) (H : Hp) (lh lt : Addr) (ys zs : List V) (hs : List (Str × Int)) (ts : List (Str × Str)) : Prop where
 h1 : H lh = some (.lst ys)
 h2 : TupsAt K H ys (hs.map kH)
 h3 : H lt = some (.lst zs)
 h4 : TupsAt K H zs (ts.map kT)
theorem Hnd.same {K : PySem.W.Frag} {H H' : Hp} {lh lt : Addr} {ys zs : List V} {hs : List (Str × Int)} {ts : List (Str × Str)} (h : Hnd K H lh lt ys zs hs ts) (s : Same H H') : Hnd K H' lh lt ys zs hs ts := ⟨s _ _ h.h1, h.h2.same s, s _ _ h.h3, h.h4.same s⟩
theorem Hnd.but {K : PySem.W.Frag} {H H' : Hp} {l lh lt : Addr} {ys zs xs : List V} {hs : List (Str × Int)} {ts : List (Str × Str)} (h : Hnd K H lh lt ys zs hs ts) (b : But l H H') (hl : H l = some (.lst xs)) (n1 : lh ≠ l) (n2 : lt ≠ l) : Hnd K H' lh lt ys zs hs ts := ⟨b _ _ h.h1 n1, tups_keep h.h2 b hl, b _ _ h.h3 n2, tups_keep h.h4 b hl⟩
theorem SuAt.upd {H : Hp} {l su : Addr} {zs : List V} {o : HO} {D : Int} {hs : List (Str × Int)} {ts : List (Str × Str)} {r : Rl} {wt m : Int} {a b : Str} (h : SuAt H l D hs ts r wt m a b) (hs' : H su = some (.lst zs)) (n : l ≠ su) : SuAt (L2.upd H su o) l D hs ts r wt m a b := by
 obtain ⟨fs, ks, h1, h2, h3, h4⟩ := h
 exact ⟨fs, ks, by rw [upd_ne n]; exact h1, h2.ts (TS.lst hs'), h3, h4⟩
theorem cst_ite {l : Bool} {g : Option Str} {wt m D : Int} {hs : List (Str × Int)} {es : List Te} : (if l = true then mx es (c0 g wt m D hs) else c0 g wt m D hs) = cst l g wt m D hs es := by
 cases l with
 | false => rw [if_neg Bool.false_ne_true, cst_f]
 | true => rw [if_pos rfl, cst_t]
def Row86 (H : Hp) (l1 l2 : Addr) (D : Int) (hs : List (Str × Int)) (ts : List (Str × Str)) (m : Int) (a b : Str) (y : V) : Prop := ∃ (t lq : Addr) (wt : Int) (r : Rl) (at' : Int), y = .ref t /\ H t = some (.tup [.int wt, .str r.1, .int at']) /\ r ∈ rl /\ guB ["fall", "calm"] r = true /\ 1 <= wt /\ wt <= 1000000000 /\ atI [V.ref l1, .ref l2] at' = some (.ref lq) /\ SuAt H lq D hs ts r wt m a b
section
variable {P : Program} {w : World} {K : PySem.W.Frag} {mg : Str -> Option Value} {base : Heap}
theorem scLaw : FnScope ["_law_script", "_law_rules", "_law_k", "_law_state_here", "_law_hands", "_law_ties", "_law_weight", "_law_rule", "_law_one", "_law_other", "_law_lighter", "_law_second", "_law_web_here", "_law_sums_here", "_law_heavy", "_law_way", "_law_at", "_law_found"] ["_law_script"] (defScope sLaw) := ⟨rfl, rfl, rfl, by decide +kernel, rfl, by decide +kernel, by decide +kernel⟩
def spLaw (K : PySem.W.Frag) : Sp := fun vs H Q _ => ∃ (a : Addr) (ns : List Int), vs = [.ref a] /\ SqL K H a (ns.map V.int) /\ ns.length <= 63 /\ ∀ H', Q (.bl true) H'
set_option maxHeartbeats 3200000 in
theorem ok_law {f C : Addr} {fd : FuncData} (F : Fun K "law" "law" sLaw f fd) (B : Bi mg) (cC : Cal P w K mg base 1 "_law_cell_at" ["_law_script", "_law_k"] (spCell K)) (cSt : Cal P w K mg base 1 "_law_state" ["_law_cell", "_law_k"] spState) (cD : Cal P w K mg base 2 "_law_digit" ["_law_state_here", "_law_base"] spDigit) (cL : Cal P w K mg base 4 "_law_web" ["_law_state_here"] (spLWeb K)) (cW : CalC P w K mg base C 5 "Web" ["self", "hands", "ties"] (spInit K C)) (cO : Cal P w K mg base 1 "_law_own" ["_law_hands", "_law_ties", "_law_weight", "_law_rule"] (spOwn K)) (cGa : Cal P w K mg base 1 "_law_gaps" ["_law_own_here", "_law_rule"] spLGaps) (cSu : Cal P w K mg base 2 "_law_sums" ["_law_gaps_here", "_law_one", "_law_other"] spSums) (cA : Cal P w K mg base 8 "apart_by" ["web", "weight", "rule", "one", "other"] (spApart K C)) (cR : Cal P w K mg base 2 "_law_right" ["_law_found", "_law_sums_here"] spRight) : FnOk P w K mg base CX0 9 f fd ["_law_script"] (spLaw K) := by
 refine F.ok scLaw (fun vs H Q E h => ?_) (fun cdv A outer s H vs Q E hr h => ?_)
 ·obtain ⟨a, ns, rfl, _⟩ := h
  rfl
 ·obtain ⟨ls, ns, rfl, hls, h63, k⟩ := h
  have sz := sizeLine_eq
  have hu := roomU hr 0
  have hr1 : Room 1 _ := hr.mono (by decide)
  have hr2 : Room 2 _ := hr.mono (by decide)
  have hr4 : Room 4 _ := hr.mono (by decide)
  have hr6 : Room 6 _ := hr.mono (by decide)
  refine' ⟨_, ?r0, ?kk⟩
  case' r0 => refine' pss_cons ?s1 ?r1
  case' r1 => refine' pss_cons ?s3 ?r3
  case r3 => exact pss_one (ps_ret pe_bl)
  case' s1 => refine' ps_set (i := 1) scLaw.nd rfl (Or.inl rfl) (pe_lst ?l0)
  case' l0 => refine' pa_cons pe_str ?l1
  case' l1 => refine' pa_cons pe_str ?l2
  case' l2 => refine' pa_cons pe_str ?l3
  case' l3 => refine' pa_cons pe_str ?l4
  case' l4 => refine' pa_cons pe_str ?l5
  case l5 => exact pa_cons pe_str pa_nil
  case' s3 => refine' ps_for PassesOwn.never rfl ?i3 (pg_name (i := 2) scLaw.nd rfl (Or.inl rfl)) ?b0
  case i3 => exact pi_range1 (by rfl) B.range (pa_cons (pe_op op_add pe_int (pe_callB (call_min2 rfl) (by rfl) B.min PyProof.Rows.Boot.«min» (pa_cons (pe_callB call_len_seq (by rfl) B.len PySem.boot_len (pa_cons (pv 0) pa_nil)) (pa_cons pe_int pa_nil)))) pa_nil)
  case' b0 => refine' pss_cons ?b1 ?c1
  case' c1 => refine' pss_cons ?b2 ?c2
  case' c2 => refine' pss_cons ?b3 ?c3
  case' c3 => refine' pss_cons ?b4 ?c4
  case' c4 => refine' pss_cons ?b5 ?c5
  case' c5 => refine' pss_cons ?b6 ?c6
  case' c6 => refine' pss_cons ?b7 ?c7
  case' c7 => refine' pss_cons ?b8 ?c8
  case' c8 => refine' pss_cons ?b9 ?c9
  case' c9 => refine' pss_cons ?b10 ?c10
  case' c10 => refine' pss_cons ?b11 ?c11
  case' c11 => refine' pss_cons ?b12 ?c12
  case' c12 => refine' pss_one ?b13
  case b1 => exact ps_set (i := 3) scLaw.nd rfl (Or.inl rfl) (pe_fn cSt hr1 (pa_cons (pe_fn cC hr1 (pa_cons (pv 0) (pa_cons (pv 2) pa_nil))) (pa_cons (pv 2) pa_nil)))
  case b2 => exact ps_asg (pe_fn cL hr4 (pa_cons (pv 3) pa_nil)) (pg_tup rfl (pgs_cons (pg_name (i := 4) scLaw.nd rfl (Or.inl rfl)) (pgs_cons (pg_name (i := 5) scLaw.nd rfl (Or.inl rfl)) pgs_nil)))
  case' b3 => refine' ps_set (i := 5) scLaw.nd rfl (Or.inl rfl) (pe_ix ix_list (pe_lst (pa_cons (pv 5) (pa_cons (pe_lst pa_nil) pa_nil))) ?d1 (fun _ _ => rfl))
  case d1 => exact pe_callTy call_int1 (by rfl) B.int PyProof.Rows.Boot.«int» (pa_cons (pe_cmpR op_eq (pe_fn cD hr2 (pa_cons (pv 3) (pa_cons pe_int pa_nil))) pe_int (nomark _)) pa_nil)
  case' b4 => refine' ps_set (i := 6) scLaw.nd rfl (Or.inl rfl) (pe_ix ix_list (pe_lst ?e0) ?e9 (fun _ _ => rfl))
  case' e0 => refine' pa_cons (pe_op op_add pe_int (pe_fn cD hr2 (pa_cons (pv 3) (pa_cons pe_int pa_nil)))) ?e1
  case' e1 => refine' pa_cons (pe_op op_add pe_int (pe_fn cD hr2 (pa_cons (pv 3) (pa_cons (pe_op op_pow pe_int pe_int) pa_nil)))) ?e2
  case e2 => exact pa_cons (pe_op op_pow pe_int pe_int) pa_nil
  case e9 => exact pe_fn cD hr2 (pa_cons (pv 3) (pa_cons pe_int pa_nil))
  case b5 => exact ps_set (i := 7) scLaw.nd rfl (Or.inl rfl) (pe_ix ix_list (pe_op op_cat (pv 1) (pe_lst (pa_cons pe_str (pa_cons pe_str pa_nil)))) (pe_fn cD hr2 (pa_cons (pv 3) (pa_cons pe_int pa_nil))) (fun _ _ => rfl))
  case b6 => exact ps_set (i := 8) scLaw.nd rfl (Or.inl rfl) (pe_ix ix_tup (pe_ix ix_list (pv 4) (pe_fn cD hr2 (pa_cons (pv 3) (pa_cons (pe_callB call_len_seq (by rfl) B.len PySem.boot_len (pa_cons (pv 4) pa_nil)) pa_nil))) (fun _ _ => rfl)) pe_int (fun _ _ => rfl))
  case b7 => exact ps_set (i := 9) scLaw.nd rfl (Or.inl rfl) (pe_ix ix_tup (pe_ix ix_list (pv 4) (pe_fn cD hr2 (pa_cons (pv 3) (pa_cons (pe_callB call_len_seq (by rfl) B.len PySem.boot_len (pa_cons (pv 4) pa_nil)) pa_nil))) (fun _ _ => rfl)) pe_int (fun _ _ => rfl))
  case b8 => exact ps_set (i := 10) scLaw.nd rfl (Or.inl rfl) (pe_op op_add pe_int (pe_fn cD hr2 (pa_cons (pv 3) (pa_cons (pv 6) pa_nil))))
  case b9 => exact ps_set (i := 11) scLaw.nd rfl (Or.inl rfl) (pe_ix ix_list (pe_op op_cat (pv 1) (pe_lst (pa_cons pe_str (pa_cons pe_str pa_nil)))) (pe_fn cD hr2 (pa_cons (pv 3) (pa_cons pe_int pa_nil))) (fun _ _ => rfl))
  case b10 => exact ps_set (i := 12) scLaw.nd rfl (Or.inl rfl) (pe_mk cW hr6 (pa_cons (pv 4) (pa_cons (pv 5) pa_nil)))
  case b11 => exact ps_set (i := 13) scLaw.nd rfl (Or.inl rfl) (pe_lst (pa_cons (pe_fn cSu hr2 (pa_cons (pe_fn cGa hr1 (pa_cons (pe_fn cO hr1 (pa_cons (pv 4) (pa_cons (pv 5) (pa_cons (pv 6) (pa_cons (pv 7) pa_nil))))) (pa_cons (pv 7) pa_nil))) (pa_cons (pv 8) (pa_cons (pv 9) pa_nil)))) pa_nil))
  case b12 => exact ps_expr (pe_bm PySem.F.plainAttrs_list PySem.F.slot_list_append PySem.F.type_list_append mt_append (pv 13) (pa_cons (pe_fn cSu hr2 (pa_cons (pe_fn cGa hr1 (pa_cons (pe_fn cO hr1 (pa_cons (pv 4) (pa_cons (pv 5) (pa_cons (pv 10) (pa_cons (pv 11) pa_nil))))) (pa_cons (pv 11) pa_nil))) (pa_cons (pv 8) (pa_cons (pv 9) pa_nil)))) pa_nil))
  case' b13 => refine' ps_for PassesOwn.never rfl (pi_list (pe_lst ?q0)) ?g13 ?f0
  case q0 => exact pa_cons (pe_tup (pa_cons (pv 6) (pa_cons (pv 7) (pa_cons pe_int pa_nil)))) (pa_cons (pe_tup (pa_cons (pv 10) (pa_cons (pv 11) (pa_cons pe_int pa_nil)))) (pa_cons (pe_tup (pa_cons (pv 6) (pa_cons (pv 7) (pa_cons pe_int pa_nil)))) pa_nil))
  case g13 => exact pg_tup rfl (pgs_cons (pg_name (i := 14) scLaw.nd rfl (Or.inl rfl)) (pgs_cons (pg_name (i := 15) scLaw.nd rfl (Or.inl rfl)) (pgs_cons (pg_name (i := 16) scLaw.nd rfl (Or.inl rfl)) pgs_nil)))
  case' f0 => refine' pss_cons ?f1 (pss_cons ?f2 (pss_one ?f3))
  case f1 => exact ps_set (i := 17) scLaw.nd rfl (Or.inl rfl) (pe_fn cA hr (pa_cons (pv 12) (pa_cons (pv 14) (pa_cons (pv 15) (pa_cons (pv 8) (pa_cons (pv 9) pa_nil))))))
  case f2 => exact ps_if (pt_not (pt_val (pe_fn cR hr2 (pa_cons (pv 17) (pa_cons (pe_ix ix_list (pv 13) (pv 16) (fun _ _ => rfl)) pa_nil))))) pss_never pss_nil
  case f3 => exact ps_if (pt_cmpR (op_neF hu) (pe_fn cA hr (pa_cons (pe_mk cW hr6 (pa_cons (pe_revL (pv 4) (pe_un un_neg pe_int)) (pa_cons (pe_revL (pv 5) (pe_un un_neg pe_int)) pa_nil))) (pa_cons (pv 14) (pa_cons (pv 15) (pa_cons (pv 9) (pa_cons (pv 8) pa_nil)))))) (pv 17) (nomark _)) pss_never pss_nil
  case' kk => skip
  refine ⟨by show 6 <= sizeLine; decide, fun lr hlr => ?_⟩
  have sH := Same.new (o := .lst (RL6.map V.str)) hlr
  have hlr' : upd H lr (.lst (RL6.map V.str)) lr = some (.lst (RL6.map V.str)) := upd_same
  have hlb := sH.seq hls
  refine (show gName 1 (.ref lr) _ (upd H lr (.lst (RL6.map V.str))) _ from ?_)
  generalize upd H lr (.lst (RL6.map V.str)) = Hb at sH hlr' hlb ⊢
  have hln : (ns.map V.int).length <= 63 := by rw [List.length_map]; exact h63
  refine setG ?_
  dsimp only
  refine seqG (fun σ H' => True) (fun σ H' _ => k _) (fun N hN => ?_)
  obtain ⟨cnt, c4, ec⟩ : ∃ c : Nat, c <= 2 /\ (1 + (if (1 : Int) < ((ns.map V.int).length : Int) then (1 : Int) else ((ns.map V.int).length : Int))) = (c : Int) := by
   by_cases c : (1 : Int) < ((ns.map V.int).length : Int)
   ·rw [if_pos c]
    exact ⟨2, by decide, rfl⟩
   ·rw [if_neg c]
    exact ⟨1 + (ns.map V.int).length, by omega, by omega⟩
  refine ⟨_, rfl, ls, _, rfl, .inl hlb, _, _, rfl, _, _, rfl, rfl, (cnt : Int), congrArg (fun z => [V.int z]) ec, by omega, by omega, ?_⟩
  refine for_range (fun i σ H' => Same Hb H' /\ ∃ v2 v3 v4 v5 v6 v7 v8 v9 v10 v11 v12 v13 v14 v15 v16 v17 : Option V, σ = [some (.ref ls), some (.ref lr), v2, v3, v4, v5, v6, v7, v8, v9, v10, v11, v12, v13, v14, v15, v16, v17]) ⟨Same.refl _, none, none, none, none, none, none, none, none, none, none, none, none, none, none, none, none, rfl⟩ ?_ (fun σ H' _ => hN _ _ trivial)
  rintro i σ H0 hi ⟨s0, v2, v3, v4, v5, v6, v7, v8, v9, v10, v11, v12, v13, v14, v15, v16, v17, rfl⟩
  refine setG ?_
  dsimp only
  rw [Int.toNat_natCast] at hi
  refine seqG (fun σ H' => ∃ l, Same Hb H' /\ Hb l = none /\ stt H' l /\ σ = [some (.ref ls), some (.ref lr), some (.int i), some (.ref l), v4, v5, v6, v7, v8, v9, v10, v11, v12, v13, v14, v15, v16, v17]) ?m2 (fun N1 hN1 => ?m1)
  case m1 =>
   refine ⟨_, rfl, _, rfl, ls, ns, _, rfl, by omega, s0.seq hlb, fun c => ?_⟩
   refine ⟨_, rfl, c, i, by rw [Int.zero_add]; rfl, by omega, fun l H1 s1 nl st => hN1 _ _ ⟨l, s0.trans s1, s0.free nl, st, ?_⟩⟩
   show [some (V.ref ls), some (V.ref lr), some (V.int (0 + (i : Int))), some (V.ref l), v4, v5, v6, v7, v8, v9, v10, v11, v12, v13, v14, v15, v16, v17] = _
   rw [Int.zero_add]
  rintro σ H1 ⟨l, s1, nl, st1, rfl⟩
  refine seqG (fun σ H' => ∃ (lh lt : Addr) (ys zs : List V) (hs : List (Str × Int)) (ts : List (Str × Str)), Same Hb H' /\ stt H' l /\ lh ≠ l /\ lt ≠ l /\ Hnd K H' lh lt ys zs hs ts /\ Good hs ts /\ σ = [some (.ref ls), some (.ref lr), some (.int i), some (.ref l), some (.ref lh), some (.ref lt), v6, v7, v8, v9, v10, v11, v12, v13, v14, v15, v16, v17]) ?m4 (fun N1 hN1 => ?m3)
  case m3 =>
   refine ⟨_, rfl, l, rfl, st1, fun t lh lt ys zs hs ts H2 b2 st2 ht fh ft nht nhl ntl h1 h2 h3 h4 G => ?_⟩
   refine ⟨t, _, rfl, .of ht, rfl, _, _, rfl, _, _, rfl, rfl, hN1 _ _ ⟨lh, lt, ys, zs, hs, ts, b2.same nl s1, st2, nhl, ntl, ⟨h1, h2, h3, h4⟩, G, rfl⟩⟩
  rintro σ H2 ⟨lh, lt, ys, zs, hs, ts, s2, st2, nhl, ntl, hn, G, rfl⟩
  refine seqG (fun σ H' => ∃ (lt : Addr) (zs : List V) (ts : List (Str × Str)), Same Hb H' /\ stt H' l /\ lt ≠ l /\ Hnd K H' lh lt ys zs hs ts /\ Good hs ts /\ σ = [some (.ref ls), some (.ref lr), some (.int i), some (.ref l), some (.ref lh), some (.ref lt), v6, v7, v8, v9, v10, v11, v12, v13, v14, v15, v16, v17]) ?m6 (fun N1 hN1 => ?m5)
  case m5 =>
   refine ⟨_, rfl, by show 0 <= sizeLine; decide, fun le hle => ?_⟩
   have s3 := Same.new (o := .lst []) hle
   have e3 : upd H2 le (.lst []) le = some (.lst []) := upd_same
   have lel := st2.ne hle
   have st3 := st2.same s3
   generalize upd H2 le (.lst []) = H3 at s3 e3 st3 ⊢
   refine ⟨by show 2 <= sizeLine; decide, fun lx hlx => ?_⟩
   have s4 := Same.new (o := .lst [.ref lt, .ref le]) hlx
   have e4 : upd H3 lx (.lst [.ref lt, .ref le]) lx = some (.lst [.ref lt, .ref le]) := upd_same
   have lxl := st3.ne hlx
   have st4 := st3.same s4
   generalize upd H3 lx (.lst [.ref lt, .ref le]) = H4 at s4 e4 st4 ⊢
   have s24 := s3.trans s4
   refine ⟨_, rfl, l, 9, rfl, by decide, by decide, st4, fun r5 H5 q0 q1 b5 st5 => ⟨rfl, .inr ⟨_, rfl, ?_⟩⟩⟩
   obtain ⟨xs4, hl4⟩ := st4.some
   have S5 := b5.same nl (s2.trans s24)
   have hn5 := (hn.same s24).but b5 hl4 nhl ntl
   by_cases c : decide (V.int r5 = V.int 0) = true
   ·rw [c]
    exact ⟨lx, _, _, _, rfl, rfl, .of (b5 _ _ e4 lxl), rfl, hN1 _ _ ⟨le, [], [], S5, st5, lel, ⟨hn5.h1, hn5.h2, b5 _ _ (s4 _ _ e3) lel, .nil⟩, G.bare, rfl⟩⟩
   ·rw [if_neg c]
    exact ⟨lx, _, _, _, rfl, rfl, .of (b5 _ _ e4 lxl), rfl, hN1 _ _ ⟨lt, zs, ts, S5, st5, ntl, hn5, G, rfl⟩⟩
  clear hn G
  rintro σ H3 ⟨lt, zs, ts, s3, st3, ntl, hn, G, rfl⟩
  refine seqG (fun σ H' => ∃ wt : Int, Same Hb H' /\ stt H' l /\ 1 <= wt /\ wt <= 1000000000 /\ Hnd K H' lh lt ys zs hs ts /\ σ = [some (.ref ls), some (.ref lr), some (.int i), some (.ref l), some (.ref lh), some (.ref lt), some (.int wt), v7, v8, v9, v10, v11, v12, v13, v14, v15, v16, v17]) ?m8 (fun N1 hN1 => ?m7)
  case m7 =>
   refine ⟨_, rfl, l, 9, rfl, by decide, by decide, st3, fun r1 H4 q0 q1 b4 st4 => ⟨_, _, rfl, rfl, ?_⟩⟩
   refine ⟨_, rfl, _, _, rfl, rfl, ⟨by decide, by decide, by decide⟩, l, 1000000000, rfl, by decide, by decide, st4, fun r2 H5 q2 q3 b5 st5 => ⟨_, _, rfl, rfl, ?_⟩⟩
   refine ⟨_, _, rfl, rfl, ⟨by decide, by decide, by decide⟩, by show 3 <= sizeLine; decide, fun lx hlx => ?_⟩
   have s6 := Same.new (o := .lst [.int (1 + r1), .int (1 + r2), .int (10 ^ (9 : Int).toNat)]) hlx
   have e6 : upd H5 lx (.lst [.int (1 + r1), .int (1 + r2), .int (10 ^ (9 : Int).toNat)]) lx = some (.lst [.int (1 + r1), .int (1 + r2), .int (10 ^ (9 : Int).toNat)]) := upd_same
   have lxl := st5.ne hlx
   have st6 := st5.same s6
   have b36 := (b4.trans b5).trans (But.of s6)
   generalize upd H5 lx (.lst [.int (1 + r1), .int (1 + r2), .int (10 ^ (9 : Int).toNat)]) = H6 at s6 e6 st6 b36 ⊢
   refine ⟨_, rfl, l, 3, rfl, by decide, by decide, st6, fun r3 H7 q4 q5 b7 st7 => ?_⟩
   obtain ⟨v, hv, wt, rfl, x1, x2⟩ := hitL (p := fun v : V => ∃ x : Int, v = V.int x /\ 1 <= x /\ x <= 1000000000) (xs := [V.int (1 + r1), .int (1 + r2), .int (10 ^ (9 : Int).toNat)]) (n := 3) rfl q4 q5 (fun v hv => by
    simp only [List.mem_cons, List.not_mem_nil, or_false] at hv
    rcases hv with rfl | rfl | rfl
    ·exact ⟨_, rfl, by omega, by omega⟩
    ·exact ⟨_, rfl, by omega, by omega⟩
    ·exact ⟨_, rfl, by decide, by decide⟩)
   have b37 := b36.trans b7
   obtain ⟨xs3, hl3⟩ := st3.some
   exact ⟨lx, _, _, _, rfl, rfl, .of (b7 _ _ e6 lxl), hv, hN1 _ _ ⟨wt, b37.same nl s3, st7, x1, x2, hn.but b37 hl3 nhl ntl, rfl⟩⟩
  clear hn
  rintro σ H4 ⟨wt, s4, st4, w1, w2, hn, rfl⟩
  have draw : ∀ (H4 : Hp) (Q : VK), Same Hb H4 -> stt H4 l -> Hnd K H4 lh lt ys zs hs ts -> (∀ r H', r ∈ rl -> guB ["fall", "calm"] r = true -> Same Hb H' -> stt H' l -> Hnd K H' lh lt ys zs hs ts -> Q (.str r.1) H') -> ∀ l2, H4 l2 = none -> ∀ lx, upd H4 l2 (.lst [V.str "turns fall", .str "turns calm"]) lx = none -> ∀ (r3 : Int) (H7 : Hp), 0 <= r3 -> r3 < 8 -> But l (upd (upd H4 l2 (.lst [V.str "turns fall", .str "turns calm"])) lx (.lst (RL6.map V.str ++ [V.str "turns fall", .str "turns calm"]))) H7 -> stt H7 l -> rIxL K (.ref lx) (.int r3) H7 Q := by
   intro H4 Q s4 st4 hn q l2 hl2 lx hlx r3 H7 q4 q5 b7 st7
   have s5 := Same.new (o := .lst [V.str "turns fall", .str "turns calm"]) hl2
   have s6 := Same.new (o := .lst (RL6.map V.str ++ [V.str "turns fall", .str "turns calm"])) hlx
   have st6 := (st4.same s5).same s6
   have lxl := (st4.same s5).ne hlx
   have e6 : upd (upd H4 l2 (.lst [V.str "turns fall", .str "turns calm"])) lx (.lst (RL6.map V.str ++ [V.str "turns fall", .str "turns calm"])) lx = some (.lst (RL.map V.str)) := upd_same
   have s46 := s5.trans s6
   obtain ⟨xs6, hl6⟩ := st6.some
   obtain ⟨v, hv, n, hn', rfl⟩ := hitL (p := fun v : V => ∃ n ∈ RL, v = V.str n) (xs := RL.map V.str) (n := 8) rfl q4 q5 (fun v hv => by
    obtain ⟨n, hn, rfl⟩ := List.mem_map.mp hv
    exact ⟨n, hn, rfl⟩)
   obtain ⟨r, hr, rfl, gu⟩ := rule_of n hn'
   exact ⟨lx, _, _, _, rfl, rfl, .of (b7 _ _ e6 lxl), hv, q r H7 hr gu (b7.same nl (s4.trans s46)) st7 ((hn.same s46).but b7 hl6 nhl ntl)⟩
  refine seqG (fun σ H' => ∃ r ∈ rl, guB ["fall", "calm"] r = true /\ Same Hb H' /\ stt H' l /\ Hnd K H' lh lt ys zs hs ts /\ σ = [some (.ref ls), some (.ref lr), some (.int i), some (.ref l), some (.ref lh), some (.ref lt), some (.int wt), some (.str r.1), v8, v9, v10, v11, v12, v13, v14, v15, v16, v17]) ?n2 (fun N1 hN1 => ?n1)
  case n1 =>
   refine ⟨_, rfl, by show 2 <= sizeLine; decide, fun l2 hl2 => ?_⟩
   refine ⟨lr, l2, _, _, rfl, rfl, Same.new hl2 _ _ (s4 _ _ hlr'), upd_same, by show 6 + 2 <= sizeLine; decide, fun lx hlx => ?_⟩
   refine ⟨_, rfl, l, 8, rfl, by decide, by decide, (st4.same (Same.new hl2)).same (Same.new hlx), fun r3 H7 q4 q5 b7 st7 => ?_⟩
   exact draw H4 _ s4 st4 hn (fun r H' hr gu s' st' hn' => hN1 _ _ ⟨r, hr, gu, s', st', hn', rfl⟩) l2 hl2 lx hlx r3 H7 q4 q5 b7 st7
  clear hn
  rintro σ H5 ⟨r, hr', gu, s5, st5, hn, rfl⟩
  have lys : ys.length = hs.length := by
   have := Paired.length hn.h2
   rw [List.length_map] at this
   exact this
  have pick : ∀ (H5 : Hp) (Q : VK), Same Hb H5 -> stt H5 l -> Hnd K H5 lh lt ys zs hs ts -> (∀ a H', a ∈ hs.map (·.1) -> Same Hb H' -> stt H' l -> Hnd K H' lh lt ys zs hs ts -> Q (.str a) H') -> ∀ (r3 : Int) (H7 : Hp), 0 <= r3 -> r3 < (ys.length : Int) -> But l H5 H7 -> stt H7 l -> rIxL K (.ref lh) (.int r3) H7 fun x H8 => ∃ p xs i v, x = .ref p /\ V.int 0 = .int i /\ SqT K H8 p xs /\ atI xs i = some v /\ Q v H8 := by
   intro H5 Q s5 st5 hn q r3 H7 q4 q5 b7 st7
   obtain ⟨xs5, hl5⟩ := st5.some
   have hn7 := hn.but b7 hl5 nhl ntl
   obtain ⟨v, hv, h, t, hm, rfl, ht⟩ := hitL (p := fun v : V => ∃ (h : Str × Int) (t : Addr), h ∈ hs /\ v = V.ref t /\ H7 t = some (.tup ((kH h).map kV))) (xs := ys) (n := ys.length) rfl q4 q5 (fun v hv => by
    obtain ⟨j, hj, e⟩ := List.getElem_of_mem hv
    obtain ⟨h, hh, t, e2, ht⟩ := paired_map hn7.h2 (i := j) (y := v) (by rw [List.getElem?_eq_getElem hj, e])
    exact ⟨h, t, List.mem_of_getElem? hh, e2, ht⟩)
   have ht' : H7 t = some (.tup [.str h.1, .int h.2]) := ht
   exact ⟨lh, ys, r3, _, rfl, rfl, .of hn7.h1, hv, t, _, 0, _, rfl, rfl, .of ht', rfl, q h.1 H7 (List.mem_map_of_mem hm) (b7.same nl s5) st7 hn7⟩
  have h8 := G.h8
  have h1 := G.h1
  refine seqG (fun σ H' => ∃ a, a ∈ hs.map (·.1) /\ Same Hb H' /\ stt H' l /\ Hnd K H' lh lt ys zs hs ts /\ σ = [some (.ref ls), some (.ref lr), some (.int i), some (.ref l), some (.ref lh), some (.ref lt), some (.int wt), some (.str r.1), some (.str a), v9, v10, v11, v12, v13, v14, v15, v16, v17]) ?n4 (fun N1 hN1 => ?n3)
  case n3 =>
   refine ⟨_, rfl, _, rfl, _, rfl, lh, _, rfl, .inl (.of hn.h1), l, _, rfl, by omega, by omega, st5, fun r3 H7 q4 q5 b7 st7 => ?_⟩
   exact pick H5 _ s5 st5 hn (fun a H' ha s' st' hn' => hN1 _ _ ⟨a, ha, s', st', hn', rfl⟩) r3 H7 q4 q5 b7 st7
  clear hn
  rintro σ H6 ⟨a, ha, s6, st6, hn, rfl⟩
  refine seqG (fun σ H' => ∃ b, b ∈ hs.map (·.1) /\ Same Hb H' /\ stt H' l /\ Hnd K H' lh lt ys zs hs ts /\ σ = [some (.ref ls), some (.ref lr), some (.int i), some (.ref l), some (.ref lh), some (.ref lt), some (.int wt), some (.str r.1), some (.str a), some (.str b), v10, v11, v12, v13, v14, v15, v16, v17]) ?n6 (fun N1 hN1 => ?n5)
  case n5 =>
   refine ⟨_, rfl, _, rfl, _, rfl, lh, _, rfl, .inl (.of hn.h1), l, _, rfl, by omega, by omega, st6, fun r3 H7 q4 q5 b7 st7 => ?_⟩
   exact pick H6 _ s6 st6 hn (fun b H' hb s' st' hn' => hN1 _ _ ⟨b, hb, s', st', hn', rfl⟩) r3 H7 q4 q5 b7 st7
  clear hn
  rintro σ H7 ⟨b, hb, s7, st7, hn, rfl⟩
  refine seqG (fun σ H' => ∃ wt2 : Int, 1 <= wt2 /\ wt2 <= 1000000000 /\ Same Hb H' /\ stt H' l /\ Hnd K H' lh lt ys zs hs ts /\ σ = [some (.ref ls), some (.ref lr), some (.int i), some (.ref l), some (.ref lh), some (.ref lt), some (.int wt), some (.str r.1), some (.str a), some (.str b), some (.int wt2), v11, v12, v13, v14, v15, v16, v17]) ?n8 (fun N1 hN1 => ?n7)
  case n7 =>
   refine ⟨_, rfl, _, rfl, l, wt, rfl, by omega, by omega, st7, fun r3 H8 q4 q5 b8 st8 => ⟨_, _, rfl, rfl, ?_⟩⟩
   obtain ⟨xs7, hl7⟩ := st7.some
   exact hN1 _ _ ⟨1 + r3, by omega, by omega, b8.same nl s7, st8, hn.but b8 hl7 nhl ntl, rfl⟩
  clear hn
  rintro σ H8 ⟨wt2, x1, x2, s8, st8, hn, rfl⟩
  refine seqG (fun σ H' => ∃ r2 ∈ rl, guB ["fall", "calm"] r2 = true /\ Same Hb H' /\ Hnd K H' lh lt ys zs hs ts /\ σ = [some (.ref ls), some (.ref lr), some (.int i), some (.ref l), some (.ref lh), some (.ref lt), some (.int wt), some (.str r.1), some (.str a), some (.str b), some (.int wt2), some (.str r2.1), v12, v13, v14, v15, v16, v17]) ?n10 (fun N1 hN1 => ?n9)
  case n9 =>
   refine ⟨_, rfl, by show 2 <= sizeLine; decide, fun l2 hl2 => ?_⟩
   refine ⟨lr, l2, _, _, rfl, rfl, Same.new hl2 _ _ (s8 _ _ hlr'), upd_same, by show 6 + 2 <= sizeLine; decide, fun lx hlx => ?_⟩
   refine ⟨_, rfl, l, 8, rfl, by decide, by decide, (st8.same (Same.new hl2)).same (Same.new hlx), fun r3 H9 q4 q5 b9 st9 => ?_⟩
   exact draw H8 _ s8 st8 hn (fun r H' hr gu s' st' hn' => hN1 _ _ ⟨r, hr, gu, s', hn', rfl⟩) l2 hl2 lx hlx r3 H9 q4 q5 b9 st9
  clear hn draw pick
  rintro σ H9 ⟨r2, hr2', gu2, s9, hn, rfl⟩
  obtain ⟨m, M⟩ := ex_most G
  have DO := dOf_ok G
  generalize dOf hs = D at DO
  refine seqG (fun σ H' => ∃ (p : Addr) (fp : List Addr), Same Hb H' /\ WebAt K C H' p hs ts fp /\ Hnd K H' lh lt ys zs hs ts /\ σ = [some (.ref ls), some (.ref lr), some (.int i), some (.ref l), some (.ref lh), some (.ref lt), some (.int wt), some (.str r.1), some (.str a), some (.str b), some (.int wt2), some (.str r2.1), some (.ref p), v13, v14, v15, v16, v17]) ?n12 (fun N1 hN1 => ?n11)
  case n11 =>
   refine ⟨_, rfl, _, rfl, fun p dx hp hdx ne => ?_⟩
   have s5 : Same H9 (upd (upd H9 dx (.own p)) p (.ins C dx [])) := (Same.new hdx).trans (Same.new (by rw [upd_ne ne.symm]; exact hp))
   refine ⟨p, dx, lh, lt, ys, zs, hs, ts, rfl, upd_same, s5 _ _ hn.h1, hn.h2.same s5, s5 _ _ hn.h3, hn.h4.same s5, G, fun fp H6 kp W fr => ⟨rfl, ?_⟩⟩
   have s46 : Same H9 H6 := fun b o e => kp b o (s5 _ _ e) (ne_of_none e hp)
   exact hN1 _ _ ⟨p, fp, s9.trans s46, W, hn.same s46, rfl⟩
  clear hn
  rintro σ H10 ⟨p, fp, s10, W, hn, rfl⟩
  have lo : (oT ts).length < 64 := by
   unfold oT
   rw [List.length_map]
   exact G.t64
  have esT := tes_of G
  have esO : Tes hs (oT ts) := fun t ht => esT t ((oT_mem t).mp ht)
  have n8 : (hs.map (·.1)).length <= 8 := by rw [List.length_map]; exact h8
  refine seqG (fun σ H' => ∃ (su l1 : Addr), Same H10 H' /\ H10 su = none /\ H' su = some (.lst [.ref l1]) /\ l1 ≠ su /\ SuAt H' l1 D hs ts r wt m a b /\ σ = [some (.ref ls), some (.ref lr), some (.int i), some (.ref l), some (.ref lh), some (.ref lt), some (.int wt), some (.str r.1), some (.str a), some (.str b), some (.int wt2), some (.str r2.1), some (.ref p), some (.ref su), v14, v15, v16, v17]) ?n14 (fun N1 hN1 => ?n13)
  case n13 =>
   have O : Ok wt m hs ts := ⟨w1, w2, G, M⟩
   refine ⟨_, rfl, _, rfl, _, rfl, _, rfl, lh, lt, wt, D, hs, ts, ys, zs, r, hr', rfl, gu, hn.h1, hn.h2, hn.h3, hn.h4, G, w1, w2, DO, fun d m' H1 s1 nd M' L1 => ?_⟩
   obtain rfl : m = m' := M.eq M'
   refine ⟨_, rfl, d, oT ts, _, D, r, hr', rfl, L1, oT_nodup G, lo, DO.pos, fun t ht => (c0_le O DO (esO t ht).1 (esO t ht).2.1).1, fun d' H2 s2 L2 => ?_⟩
   rw [cst_ite] at L2
   refine ⟨_, rfl, _, rfl, d', a, b, oT ts, _, D, hs.map (·.1), rfl, L2, oT_smp G, lo, DO.pos, ha, fun t ht => ⟨(esO t ht).1, (esO t ht).2.1⟩, n8, fun l1 fs ks H3 s3 nl3 h3 f3 S3 len3 => ?_⟩
   have s13 := s1.trans (s2.trans s3)
   have nl1 := (s1.trans s2).free nl3
   have su1 : SuAt H3 l1 D hs ts r wt m a b := ⟨fs, ks, h3, f3, S3, len3⟩
   refine ⟨by show 1 <= sizeLine; decide, fun su hsu => hN1 _ _ ⟨su, l1, s13.trans (Same.new hsu), s13.free hsu, upd_same, ne_of_none h3 hsu, su1.same (Same.new hsu), rfl⟩⟩
  rintro σ H11 ⟨su, l1, s11, nsu, hsu, l1s, su1, rfl⟩
  have hn11 := hn.same s11
  refine seqG (fun σ H' => ∃ (l2 : Addr), Same H10 H' /\ H' su = some (.lst [.ref l1, .ref l2]) /\ SuAt H' l1 D hs ts r wt m a b /\ SuAt H' l2 D hs ts r2 wt2 m a b /\ σ = [some (.ref ls), some (.ref lr), some (.int i), some (.ref l), some (.ref lh), some (.ref lt), some (.int wt), some (.str r.1), some (.str a), some (.str b), some (.int wt2), some (.str r2.1), some (.ref p), some (.ref su), v14, v15, v16, v17]) ?n16 (fun N1 hN1 => ?n15)
  case n15 =>
   have su0 := su1
   clear su1
   refine ⟨_, rfl, .inl ⟨rfl, _, .of hsu⟩, ?_⟩
   have O : Ok wt2 m hs ts := ⟨x1, x2, G, M⟩
   refine ⟨_, rfl, _, rfl, _, rfl, _, rfl, lh, lt, wt2, D, hs, ts, ys, zs, r2, hr2', rfl, gu2, hn11.h1, hn11.h2, hn11.h3, hn11.h4, G, x1, x2, DO, fun d m' H1 s1 nd M' L1 => ?_⟩
   obtain rfl : m = m' := M.eq M'
   refine ⟨_, rfl, d, oT ts, _, D, r2, hr2', rfl, L1, oT_nodup G, lo, DO.pos, fun t ht => (c0_le O DO (esO t ht).1 (esO t ht).2.1).1, fun d' H2 s2 L2 => ?_⟩
   rw [cst_ite] at L2
   refine ⟨_, rfl, _, rfl, d', a, b, oT ts, _, D, hs.map (·.1), rfl, L2, oT_smp G, lo, DO.pos, ha, fun t ht => ⟨(esO t ht).1, (esO t ht).2.1⟩, n8, fun lNEW fs ks H3 s3 nl3 h3 f3 S3 len3 => ?_⟩
   have s13 := s1.trans (s2.trans s3)
   have nlN := (s1.trans s2).free nl3
   have suN : SuAt H3 lNEW D hs ts r2 wt2 m a b := ⟨fs, ks, h3, f3, S3, len3⟩
   have hsu3 := s13 _ _ hsu
   refine ⟨su, _, _, rfl, rfl, hsu3, by show 1 < sizeLine; decide, hN1 _ _ ⟨lNEW, same_but (s11.trans s13) nsu, upd_same, (su0.same s13).upd hsu3 l1s, suN.upd hsu3 (Ne.symm (ne_of_none hsu nlN)), rfl⟩⟩
  clear su1 hsu hn11
  rintro σ H12 ⟨l2, s12, hsu, su1, su2, rfl⟩
  have W12 := W.same s12
  have hn12 := hn.same s12
  refine ⟨_, rfl, _, rfl, by show 3 <= sizeLine; decide, fun t1 ht1 => ?_⟩
  have q1 := Same.new (o := .tup [.int wt, .str r.1, .int 0]) ht1
  have e1 : upd H12 t1 (.tup [.int wt, .str r.1, .int 0]) t1 = some (.tup [.int wt, .str r.1, .int 0]) := upd_same
  generalize upd H12 t1 (.tup [.int wt, .str r.1, .int 0]) = H13 at q1 e1 ⊢
  refine ⟨_, rfl, _, rfl, by show 3 <= sizeLine; decide, fun t2 ht2 => ?_⟩
  have q2 := Same.new (o := .tup [.int wt2, .str r2.1, .int 1]) ht2
  have e2 : upd H13 t2 (.tup [.int wt2, .str r2.1, .int 1]) t2 = some (.tup [.int wt2, .str r2.1, .int 1]) := upd_same
  generalize upd H13 t2 (.tup [.int wt2, .str r2.1, .int 1]) = H14 at q2 e2 ⊢
  refine ⟨_, rfl, _, rfl, by show 3 <= sizeLine; decide, fun t3 ht3 => ?_⟩
  have q3 := Same.new (o := .tup [.int wt, .str r.1, .int 0]) ht3
  have e3 : upd H14 t3 (.tup [.int wt, .str r.1, .int 0]) t3 = some (.tup [.int wt, .str r.1, .int 0]) := upd_same
  generalize upd H14 t3 (.tup [.int wt, .str r.1, .int 0]) = H15 at q3 e3 ⊢
  refine ⟨by show 3 <= sizeLine; decide, fun lq hlq => ?_⟩
  have q4 := Same.new (o := .lst [.ref t1, .ref t2, .ref t3]) hlq
  have e4 : upd H15 lq (.lst [.ref t1, .ref t2, .ref t3]) lq = some (.lst [.ref t1, .ref t2, .ref t3]) := upd_same
  generalize upd H15 lq (.lst [.ref t1, .ref t2, .ref t3]) = H16 at q4 e4 ⊢
  have q14 := q1.trans (q2.trans (q3.trans q4))
  have s16 := s12.trans q14
  have W16 := W12.same q14
  have hn16 := hn12.same q14
  have hsu16 := q14 _ _ hsu
  have rows : ∀ y ∈ [V.ref t1, V.ref t2, V.ref t3], Row86 H16 l1 l2 D hs ts m a b y := fun y hy => by
   simp only [List.mem_cons, List.not_mem_nil, or_false] at hy
   rcases hy with rfl | rfl | rfl
   ·exact ⟨t1, l1, wt, r, 0, rfl, q4 _ _ (q3 _ _ (q2 _ _ e1)), hr', gu, w1, w2, rfl, su1.same q14⟩
   ·exact ⟨t2, l2, wt2, r2, 1, rfl, q4 _ _ (q3 _ _ e2), hr2', gu2, x1, x2, rfl, su2.same q14⟩
   ·exact ⟨t3, l1, wt, r, 0, rfl, q4 _ _ e3, hr', gu, w1, w2, rfl, su1.same q14⟩
  have s16b : Same Hb H16 := s10.trans s16
  clear q1 q2 q3 q4 q14 e1 e2 e3 su1 su2 W12 hn12 hsu W hn ht1 ht2 ht3 hlq s12
  refine ⟨lq, rfl, ⟨_, .of e4⟩, for_list (K := K) (a := lq) (xs := [.ref t1, .ref t2, .ref t3]) (fun j σ H' => ∃ v14 v15 v16 v17 : Option V, Same H16 H' /\ σ = [some (.ref ls), some (.ref lr), some (.int i), some (.ref l), some (.ref lh), some (.ref lt), some (.int wt), some (.str r.1), some (.str a), some (.str b), some (.int wt2), some (.str r2.1), some (.ref p), some (.ref su), v14, v15, v16, v17])
   ⟨v14, v15, v16, v17, Same.refl _, rfl⟩ (fun j σ H' _ ⟨_, _, _, _, q, _⟩ => .of (q _ _ e4)) ?_ ?_⟩
  rotate_left 1
  ·rintro σ H' ⟨v14, v15, v16, v17, sq, rfl⟩
   exact ⟨s16b.trans sq, _, _, _, _, _, _, _, _, _, _, _, _, _, _, _, _, rfl⟩
  rintro j y σ H17 hy ⟨v14, v15, v16, v17, s17, rfl⟩
  obtain ⟨t, lq', wt', r', at', rfl, ht, hrr, guu, y1, y2, hat, hsm⟩ := rows y (List.mem_of_getElem? hy)
  refine ⟨t, _, rfl, .of (s17 _ _ ht), rfl, _, _, rfl, _, _, rfl, _, _, rfl, rfl, ?_⟩
  dsimp only
  have O : Ok wt' m hs ts := ⟨y1, y2, G, M⟩
  have cT := cst_le (l := isL r') (g := r'.2.2.2) O DO esT
  refine seqG (fun σ H' => ∃ (v : V) (o : Option Int), Same H16 H' /\ FoV H' D v o /\ IsD (tsOf ts) (cst (isL r') r'.2.2.2 wt' m D hs (tsOf ts)) a b o /\ σ = [some (.ref ls), some (.ref lr), some (.int i), some (.ref l), some (.ref lh), some (.ref lt), some (.int wt), some (.str r.1), some (.str a), some (.str b), some (.int wt2), some (.str r2.1), some (.ref p), some (.ref su), some (.int wt'), some (.str r'.1), some (.int at'), some v]) ?p2 (fun N1 hN1 => ?p1)
  case p1 =>
   refine ⟨_, rfl, _, rfl, _, rfl, _, rfl, _, rfl, p, wt', m, D, a, b, hs, ts, fp, r', hrr, rfl, guu, W16.same s17, O, DO, ha, hb, fun H' s' d' => ?_, fun x tt H' s' ft d' z1 z2 => ?_⟩
   ·exact hN1 _ _ ⟨.non, none, s17.trans s', rfl, d', rfl⟩
   ·exact hN1 _ _ ⟨.ref tt, some x, s17.trans s', ⟨tt, rfl, ft, z1, z2⟩, d', rfl⟩
  rintro σ H18 ⟨v, o, s18, fo, di, rfl⟩
  have diO : IsD (oT ts) (cst (isL r') r'.2.2.2 wt' m D hs (oT ts)) a b o := di.conv (fun t => (oT_mem t).symm) (cst_conv (fun t => (oT_mem t).symm) fun t ht => ⟨(c0_le O DO (esT t ht).1 (esT t ht).2.1).1, rfl⟩)
  have cO' := cst_le (l := isL r') (g := r'.2.2.2) O DO esO
  obtain ⟨fs, ks, k1, k2, k3, k4⟩ := hsm.same s18
  refine ⟨_, rfl, _, rfl, _, rfl, su, _, _, _, rfl, rfl, .of (s18 _ _ hsu16), hat, v, o, lq', D, fs, ks, oT ts, _, a, b, rfl, fo, k1, k2, k3, diO, fun t ht => (cO' t ht).1, DO.pos, DO.big, k4, fun H19 s19 => ⟨_, rfl, iteF ?_⟩⟩
  have s19' := s18.trans s19
  have hn19 := hn16.same s19'
  have fo19 := fo.same s19
  refine ⟨_, rfl, _, rfl, rfl, lh, ys, rfl, .of hn19.h1, fun pr hpr => ?_⟩
  have w1' := Same.new (o := .lst ys.reverse) hpr
  have f1 : upd H19 pr (.lst ys.reverse) pr = some (.lst ys.reverse) := upd_same
  generalize upd H19 pr (.lst ys.reverse) = H20 at w1' f1 ⊢
  refine ⟨_, rfl, _, rfl, rfl, lt, zs, rfl, .of (w1' _ _ hn19.h3), fun ps hps => ?_⟩
  have w2' := Same.new (o := .lst zs.reverse) hps
  have f2 : upd H20 ps (.lst zs.reverse) ps = some (.lst zs.reverse) := upd_same
  generalize upd H20 ps (.lst zs.reverse) = H21 at w2' f2 ⊢
  have w12 := w1'.trans w2'
  have hn21 := hn19.same w12
  have tr1 : TupsAt K H21 ys.reverse (hs.reverse.map kH) := by
   rw [List.map_reverse]
   exact paired_rev hn21.h2
  have tr2 : TupsAt K H21 zs.reverse (ts.reverse.map kT) := by
   rw [List.map_reverse]
   exact paired_rev hn21.h4
  intro p2 dx2 hp2 hdx2 ne2
  have s5 : Same H21 (upd (upd H21 dx2 (.own p2)) p2 (.ins C dx2 [])) := (Same.new hdx2).trans (Same.new (by rw [upd_ne ne2.symm]; exact hp2))
  refine ⟨p2, dx2, pr, ps, ys.reverse, zs.reverse, hs.reverse, ts.reverse, rfl, upd_same, s5 _ _ (w2' _ _ f1), tr1.same s5, s5 _ _ f2, tr2.same s5, G.rev, fun fp2 H22 kp W2 fr2 => ⟨rfl, ?_⟩⟩
  have s22 : Same H21 H22 := fun b o e => kp b o (s5 _ _ e) (ne_of_none e hp2)
  have s1922 := w12.trans s22
  have Or : Ok wt' m hs.reverse ts.reverse := ⟨y1, y2, G.rev, most_rev G M⟩
  have cRv : ∀ t ∈ tsOf ts, cst (isL r') r'.2.2.2 wt' m D hs (tsOf ts) t = cst (isL r') r'.2.2.2 wt' m D hs.reverse (tsOf ts.reverse) t := cst_conv tsOf_rev fun t ht => ⟨(c0_le O DO (esT t ht).1 (esT t ht).2.1).1, c0_rev G (esT t ht).1 (esT t ht).2.1⟩
  have ha' : a ∈ hs.reverse.map (·.1) := by rw [List.map_reverse, List.mem_reverse]; exact ha
  have hb' : b ∈ hs.reverse.map (·.1) := by rw [List.map_reverse, List.mem_reverse]; exact hb
  refine ⟨_, rfl, _, rfl, _, rfl, _, rfl, p2, wt', m, D, b, a, hs.reverse, ts.reverse, fp2, r', hrr, rfl, guu, W2, Or, DO.rev G, hb', ha', fun H' s' d' => ?_, fun x tt H' s' ft d' z1 z2 => ?_⟩
  ·have e := IsD.unique tsOf_rev cRv di d'
   subst e
   have fv : v = .non := fo19
   subst fv
   exact ⟨_, rfl, .inl ⟨rfl, rfl⟩, _, rfl, iteF ⟨_, _, _, _, s19'.trans (s1922.trans s'), rfl⟩⟩
  ·have e := IsD.unique tsOf_rev cRv di d'
   subst e
   obtain ⟨t0, rfl, f0, _, _⟩ := fo19
   have f0' : H' t0 = some (.tup [.int (fr x D).1, .int (fr x D).2]) := (s1922.trans s') _ _ f0
   exact ⟨_, rfl, .inr ⟨tt, t0, _, _, rfl, rfl, .of ft, .of f0'⟩, _, rfl, iteF ⟨_, _, _, _, s19'.trans (s1922.trans s'), rfl⟩⟩
end
end Ev
set_option Elab.async false
set_option linter.all false
set_option maxRecDepth 100000
namespace Ev
open PySem L2
structure Fd (K : PySem.W.Frag) (mg : Str -> Option Value) (x : Str) (st : Stmt) : Prop where
 ex : ∃ f fd, Fun K x x st f fd /\ mg x = some (.ref f) /\ PySem.W.keepIn K (.ref f) = true
theorem fd_mk {K : PySem.W.Frag} {h : Heap} {mg : Str -> Option Value} {x : Str} {st : Stmt} (X : K.In h) (G : h.Ns mainGlobals mg) {f : Addr} {oc : Value} {od an : Option Addr} {osl : Array (Option Value)} {kV doc pm cdv ct : Value} (a : PySem.W.nsIn K mainGlobals x = some (some (.ref f)))
  (l : K.lookup f = some ⟨oc, od, .func (PySem.W.fnOf x x (defArgs st) (defBody st) (defScope st) .none kV doc pm an cdv ct), osl⟩) (c : PySem.W.codeIn K cdv x = true) (k : PySem.W.keepIn K (.ref f) = true) : Fd K mg x st := ⟨_, _, fun_mk l c k, PySem.W.mg_of X G a, k⟩
structure Md (K : PySem.W.Frag) (C : Addr) (m qual : Str) (st : Stmt) : Prop where
 ex : ∃ f fd, Fun K m qual st f fd /\ Meth K C m f
theorem md_mk {K : PySem.W.Frag} {C : Addr} {m qual : Str} {st : Stmt} {f : Addr} {oc : Value} {od an : Option Addr} {osl : Array (Option Value)} {kV doc pm cdv ct : Value} (a : PySem.W.findIn K (.ref C) m = some (some (.ref f))) (i : PySem.W.isFn K (.ref f) = true)
  (l : K.lookup f = some ⟨oc, od, .func (PySem.W.fnOf m qual (defArgs st) (defBody st) (defScope st) .none kV doc pm an cdv ct), osl⟩) (c : PySem.W.codeIn K cdv qual = true) (k : PySem.W.keepIn K (.ref f) = true) : Md K C m qual st := ⟨_, _, fun_mk l c k, a, i, k⟩
theorem cal {P : Program} {w : World} {K : PySem.W.Frag} {mg : Str -> Option Value} {base : Heap} {x : Str} {st : Stmt} {k : Nat} {ps : List Str} {sp : Sp} (d : Fd K mg x st) (ok : ∀ f fd, Fun K x x st f fd -> FnOk P w K mg base CX0 k f fd ps sp)
  (h : ∀ (kV doc pm : Value) (an : Option Addr) (cdv ct : Value) (us : List Value), us.length = ps.length -> bindArgs (PySem.W.fnOf x x (defArgs st) (defBody st) (defScope st) .none kV doc pm an cdv ct) ⟨us, []⟩ = pure (ps.zip us)) : Cal P w K mg base k x ps sp := by
 obtain ⟨f, fd, F, m, kp⟩ := d.ex
 exact ⟨f, fd, ok f fd F, m, kp, F.binds h⟩
theorem calM {P : Program} {w : World} {K : PySem.W.Frag} {mg : Str -> Option Value} {base : Heap} {C : Addr} {m qual : Str} {st : Stmt} {k : Nat} {ps : List Str} {sp : Sp} (d : Md K C m qual st) (ok : ∀ f fd, Fun K m qual st f fd -> FnOk P w K mg base CX0 k f fd ps sp)
  (h : ∀ (kV doc pm : Value) (an : Option Addr) (cdv ct : Value) (us : List Value), us.length = ps.length -> bindArgs (PySem.W.fnOf m qual (defArgs st) (defBody st) (defScope st) .none kV doc pm an cdv ct) ⟨us, []⟩ = pure (ps.zip us)) : CalM P w K mg base C k m ps sp := by
 obtain ⟨f, fd, F, m⟩ := d.ex
 exact ⟨f, fd, ok f fd F, m, F.binds h⟩
theorem calC {P : Program} {w : World} {K : PySem.W.Frag} {mg : Str -> Option Value} {base : Heap} {C : Addr} {x qual : Str} {st : Stmt} {k : Nat} {ps : List Str} {sp : Sp} (d : Md K C "__init__" qual st) (hx : mg x = some (.ref C)) (mk : PySem.W.makesIn K C = true) (kc : PySem.W.keepIn K (.ref C) = true) (ok : ∀ f fd, Fun K "__init__" qual st f fd -> FnOk P w K mg base CX0 k f fd ps sp)
  (h : ∀ (kV doc pm : Value) (an : Option Addr) (cdv ct : Value) (us : List Value), us.length = ps.length -> bindArgs (PySem.W.fnOf "__init__" qual (defArgs st) (defBody st) (defScope st) .none kV doc pm an cdv ct) ⟨us, []⟩ = pure (ps.zip us)) : CalC P w K mg base C k x ps sp := by
 obtain ⟨f, fd, F, m⟩ := d.ex
 exact ⟨f, fd, ok f fd F, ⟨mk, m.1, m.2, kc⟩, hx, F.binds h⟩
theorem tup3 {K : PySem.W.Frag} {a : Addr} {od : Option Addr} {p q : Str} {x y : Tok} {z : Value} {u : V} {n : Nat} {sl : Array (Option Value)} (h : K.lookup a = some ⟨.type "tuple", od, .seq #[.str p x, .str q y, z] n, sl⟩) (r : RelV u z) : ∀ H, SqT K H a [.str p, .str q, u] := fun H =>
 .inr ⟨_, _, _, h, rfl, rfl, (show 3 <= sizeLine by decide), .cons ⟨x, rfl⟩ (.cons ⟨y, rfl⟩ (.cons r .nil))⟩
theorem rules_at {K : PySem.W.Frag} {w : World} {mg : Str -> Option Value} {d : Addr} {es : Array DictEntry} {ep : Nat} {t0 t1 t2 t3 t4 t5 t6 t7 t8 t9 t10 t11 t12 t13 t14 t15 t16 : Tok} {b0 b1 b2 b3 b4 b5 b6 b7 b8 b9 b10 b11 b12 b13 b14 b15 b16 : Addr}
  {od0 od1 od2 od3 od4 od5 od6 od7 od8 od9 od10 od11 od12 od13 od14 od15 od16 : Option Addr} {x0 y0 n0 v0 x1 y1 n1 v1 x2 y2 n2 v2 x3 y3 n3 v3 x4 y4 n4 v4 x5 y5 n5 v5 x6 y6 n6 v6 x7 y7 n7 v7 x8 y8 n8 v8 x9 y9 n9 v9 x10 y10 n10 v10 x11 y11 n11 v11 x12 y12 n12 x13 y13 n13 x14 y14 n14 v14 x15 y15 n15 v15 x16 y16 n16 v16 : Nat} {sl0 sl1 sl2 sl3 sl4 sl5 sl6 sl7 sl8 sl9 sl10 sl11 sl12 sl13 sl14 sl15 sl16 : Array (Option Value)}
  (m : mg "RULES" = some (.ref d)) (hs : (d == sysModules) = false) (hl : K.lookup d = some ⟨.type "dict", none, .dict es ep, #[]⟩) (he : es.toList = entsOf w [("least one high", t0, .ref b0), ("least one fall", t1, .ref b1), ("least one calm", t2, .ref b2), ("least all high", t3, .ref b3), ("least all fall", t4, .ref b4), ("least all calm", t5, .ref b5), ("below one high", t6, .ref b6), ("below one fall", t7, .ref b7), ("below one calm", t8, .ref b8), ("below all high", t9, .ref b9), ("below all fall", t10, .ref b10), ("below all calm", t11, .ref b11), ("shares one", t12, .ref b12), ("shares all", t13, .ref b13), ("turns high", t14, .ref b14), ("turns fall", t15, .ref b15), ("turns calm", t16, .ref b16)])
  (u0 : K.lookup b0 = some ⟨.type "tuple", od0, .seq #[.str "least" x0, .str "one" y0, .str "high" v0] n0, sl0⟩)
  (u1 : K.lookup b1 = some ⟨.type "tuple", od1, .seq #[.str "least" x1, .str "one" y1, .str "fall" v1] n1, sl1⟩)
  (u2 : K.lookup b2 = some ⟨.type "tuple", od2, .seq #[.str "least" x2, .str "one" y2, .str "calm" v2] n2, sl2⟩)
  (u3 : K.lookup b3 = some ⟨.type "tuple", od3, .seq #[.str "least" x3, .str "all" y3, .str "high" v3] n3, sl3⟩)
  (u4 : K.lookup b4 = some ⟨.type "tuple", od4, .seq #[.str "least" x4, .str "all" y4, .str "fall" v4] n4, sl4⟩)
  (u5 : K.lookup b5 = some ⟨.type "tuple", od5, .seq #[.str "least" x5, .str "all" y5, .str "calm" v5] n5, sl5⟩)
  (u6 : K.lookup b6 = some ⟨.type "tuple", od6, .seq #[.str "below" x6, .str "one" y6, .str "high" v6] n6, sl6⟩)
  (u7 : K.lookup b7 = some ⟨.type "tuple", od7, .seq #[.str "below" x7, .str "one" y7, .str "fall" v7] n7, sl7⟩)
  (u8 : K.lookup b8 = some ⟨.type "tuple", od8, .seq #[.str "below" x8, .str "one" y8, .str "calm" v8] n8, sl8⟩)
  (u9 : K.lookup b9 = some ⟨.type "tuple", od9, .seq #[.str "below" x9, .str "all" y9, .str "high" v9] n9, sl9⟩)
  (u10 : K.lookup b10 = some ⟨.type "tuple", od10, .seq #[.str "below" x10, .str "all" y10, .str "fall" v10] n10, sl10⟩)
  (u11 : K.lookup b11 = some ⟨.type "tuple", od11, .seq #[.str "below" x11, .str "all" y11, .str "calm" v11] n11, sl11⟩)
  (u12 : K.lookup b12 = some ⟨.type "tuple", od12, .seq #[.str "shares" x12, .str "one" y12, .none] n12, sl12⟩)
  (u13 : K.lookup b13 = some ⟨.type "tuple", od13, .seq #[.str "shares" x13, .str "all" y13, .none] n13, sl13⟩)
  (u14 : K.lookup b14 = some ⟨.type "tuple", od14, .seq #[.str "turns" x14, .str "all" y14, .str "high" v14] n14, sl14⟩)
  (u15 : K.lookup b15 = some ⟨.type "tuple", od15, .seq #[.str "turns" x15, .str "all" y15, .str "fall" v15] n15, sl15⟩)
  (u16 : K.lookup b16 = some ⟨.type "tuple", od16, .seq #[.str "turns" x16, .str "all" y16, .str "calm" v16] n16, sl16⟩) :
  RulesAt K w mg d [b0, b1, b2, b3, b4, b5, b6, b7, b8, b9, b10, b11, b12, b13, b14, b15, b16] := by
 refine ⟨m, rfl, ⟨hs, ?_, [("least one high", t0, .ref b0), ("least one fall", t1, .ref b1), ("least one calm", t2, .ref b2), ("least all high", t3, .ref b3), ("least all fall", t4, .ref b4), ("least all calm", t5, .ref b5), ("below one high", t6, .ref b6), ("below one fall", t7, .ref b7), ("below one calm", t8, .ref b8), ("below all high", t9, .ref b9), ("below all fall", t10, .ref b10), ("below all calm", t11, .ref b11), ("shares one", t12, .ref b12), ("shares all", t13, .ref b13), ("turns high", t14, .ref b14), ("turns fall", t15, .ref b15), ("turns calm", t16, .ref b16)], _, es, ep, hl, ⟨rfl, rfl, rfl⟩, rfl, he, ?_⟩, ?_⟩
 ·rw [rkv_names rfl]
  exact rnames_nd
 ·exact .cons ⟨rfl, rfl⟩ (.cons ⟨rfl, rfl⟩ (.cons ⟨rfl, rfl⟩ (.cons ⟨rfl, rfl⟩ (.cons ⟨rfl, rfl⟩ (.cons ⟨rfl, rfl⟩ (.cons ⟨rfl, rfl⟩ (.cons ⟨rfl, rfl⟩ (.cons ⟨rfl, rfl⟩ (.cons ⟨rfl, rfl⟩ (.cons ⟨rfl, rfl⟩ (.cons ⟨rfl, rfl⟩ (.cons ⟨rfl, rfl⟩ (.cons ⟨rfl, rfl⟩ (.cons ⟨rfl, rfl⟩ (.cons ⟨rfl, rfl⟩ (.cons ⟨rfl, rfl⟩ (.nil)))))))))))))))))
 ·exact .cons (tup3 u0 ⟨_, rfl⟩) (.cons (tup3 u1 ⟨_, rfl⟩) (.cons (tup3 u2 ⟨_, rfl⟩) (.cons (tup3 u3 ⟨_, rfl⟩) (.cons (tup3 u4 ⟨_, rfl⟩) (.cons (tup3 u5 ⟨_, rfl⟩) (.cons (tup3 u6 ⟨_, rfl⟩) (.cons (tup3 u7 ⟨_, rfl⟩) (.cons (tup3 u8 ⟨_, rfl⟩) (.cons (tup3 u9 ⟨_, rfl⟩) (.cons (tup3 u10 ⟨_, rfl⟩) (.cons (tup3 u11 ⟨_, rfl⟩) (.cons (tup3 u12 rfl) (.cons (tup3 u13 rfl) (.cons (tup3 u14 ⟨_, rfl⟩) (.cons (tup3 u15 ⟨_, rfl⟩) (.cons (tup3 u16 ⟨_, rfl⟩) (.nil)))))))))))))))))
set_option maxHeartbeats 1600000 in
theorem all_mk {l : PySem.W.OpenLaw} {w : World} {K : PySem.W.Frag} {h : Heap} {mg : Str -> Option Value} {fa CW d fl : Addr} {as : List Addr} (X : K.In h) (G : h.Ns mainGlobals mg) (hfa : mg "law" = some (.ref fa))
  (f0 : Fd K mg "is_whole" sIsW)
  (f1 : Fd K mg "is_whole_within" sWhole)
  (f2 : Fd K mg "is_name" sName)
  (f3 : Fd K mg "lesser_first" sLesser)
  (f4 : Fd K mg "is_pair_of_names" sPair)
  (f5 : Fd K mg "sorted_ties" sSorted)
  (f6 : Fd K mg "ties_anew" sAnew)
  (f7 : Fd K mg "greatest_divisor" sGd)
  (f8 : Fd K mg "fraction_of" sFrac)
  (f9 : Fd K mg "is_less" sLess)
  (f10 : Fd K mg "is_hand_with_strength" sHand)
  (f11 : Fd K mg "checked_strengths" sStr)
  (f12 : Fd K mg "checked_ties" sTies)
  (f13 : Fd K mg "neighbours_of_all" sNear)
  (f14 : Fd K mg "is_rule" sIsRule)
  (f15 : Fd K mg "checked_words" sWords)
  (f16 : Fd K mg "is_shares_or_guarded_by" sGuard)
  (f17 : Fd K mg "is_let_by" sLet)
  (f18 : Fd K mg "checked_guard" sCGuard)
  (f19 : Fd K mg "check_weight" sCWeight)
  (f20 : Fd K mg "gap_along" sAlong)
  (f21 : Fd K mg "sum_of_two" sSum2)
  (f22 : Fd K mg "gaps_alone" sAlone)
  (f23 : Fd K mg "greatest_beside" sBeside)
  (f24 : Fd K mg "gaps_by_tie" sByTie)
  (f25 : Fd K mg "shorten" sShort)
  (f26 : Fd K mg "apart_by" sApart)
  (f27 : Fd K mg "_law_cell_at" sCell)
  (f28 : Fd K mg "_law_mixed" sMixed)
  (f29 : Fd K mg "_law_state" sState)
  (f30 : Fd K mg "_law_digit" sDigit)
  (f31 : Fd K mg "_law_named" sNamed)
  (f32 : Fd K mg "_law_web" sLWeb)
  (f33 : Fd K mg "_law_own" sOwn)
  (f34 : Fd K mg "_law_gaps" sLGaps)
  (f35 : Fd K mg "_law_longer" sLonger)
  (f36 : Fd K mg "_law_sums" sSums)
  (f37 : Fd K mg "_law_is_least" sIsLeast)
  (f38 : Fd K mg "_law_right" sRight)
  (m0 : Md K CW "__init__" "Web.__init__" sInit)
  (m1 : Md K CW "has_hand" "Web.has_hand" sHas)
  (m2 : Md K CW "hands" "Web.hands" sHands)
  (m3 : Md K CW "strength" "Web.strength" sStrength)
  (m4 : Md K CW "ties" "Web.ties" sTiesM)
  (m5 : Md K CW "most_neighbours" "Web.most_neighbours" sMost)
  {ocl kVl dcl pml cdl ctl : Value} {odl anl : Option Addr} {sll : Array (Option Value)} {t8 t9 t10 t11 : Tok}
  (al : PySem.W.nsIn K mainGlobals "law" = some (some (.ref fl))) (ll : K.lookup fl = some ⟨ocl, odl, .func (PySem.W.fnOf "law" "law" (defArgs sLaw) (defBody sLaw) (defScope sLaw) .none kVl dcl pml anl cdl ctl), sll⟩) (cl : PySem.W.codeIn K cdl "law" = true) (kl : PySem.W.keepIn K (.ref fl) = true)
  (aW : PySem.W.nsIn K mainGlobals "Web" = some (some (.ref CW)))
  (c8 : PySem.W.nsIn K mainGlobals "MOST_LETTERS" = some (some (.int 8 t8))) (c9 : PySem.W.nsIn K mainGlobals "MOST_HANDS" = some (some (.int 8 t9))) (c10 : PySem.W.nsIn K mainGlobals "MOST_STRENGTH" = some (some (.int 1000 t10))) (c11 : PySem.W.nsIn K mainGlobals "MOST_WEIGHT" = some (some (.int 1000000000 t11)))
  (wpg : PySem.W.plainGet K CW Str.empty = true) (whd : PySem.W.hasDictIn K CW = true) (wpo : PySem.W.plainOver K CW = true) (wsa : PySem.W.findIn K (.ref CW) "__setattr__" = some (some (.builtin "object.__setattr__"))) (wmk : PySem.W.makesIn K CW = true) (wkc : PySem.W.keepIn K (.ref CW) = true)
  (nS : PySem.W.findIn K (.ref CW) "strength_by_hand" = some none) (nP : PySem.W.findIn K (.ref CW) "sorted_pairs" = some none) (nN : PySem.W.findIn K (.ref CW) "neighbours_by_hand" = some none)
  (z0 : PySem.W.nsIn K mainGlobals "isinstance" = some none) (z1 : PySem.W.nsIn K mainGlobals "int" = some none) (z2 : PySem.W.nsIn K mainGlobals "bool" = some none) (z3 : PySem.W.nsIn K mainGlobals "str" = some none) (z4 : PySem.W.nsIn K mainGlobals "tuple" = some none) (z5 : PySem.W.nsIn K mainGlobals "list" = some none) (z6 : PySem.W.nsIn K mainGlobals "dict" = some none) (z7 : PySem.W.nsIn K mainGlobals "len" = some none) (z8 : PySem.W.nsIn K mainGlobals "all" = some none) (z9 : PySem.W.nsIn K mainGlobals "sorted" = some none) (z10 : PySem.W.nsIn K mainGlobals "max" = some none) (z11 : PySem.W.nsIn K mainGlobals "range" = some none) (z12 : PySem.W.nsIn K mainGlobals "any" = some none) (z13 : PySem.W.nsIn K mainGlobals "enumerate" = some none) (z14 : PySem.W.nsIn K mainGlobals "min" = some none) (z15 : PySem.W.nsIn K mainGlobals "abs" = some none) (R : RulesAt K w mg d as) :
  ∃ fd : FuncData, (∀ (s : Shared) (v : Value), BindsTo s fd ⟨[v], []⟩ [("_law_script", v)]) /\ ∀ base : Heap, K.In base -> base.Ns mainGlobals mg -> FnOk l.prog w K mg base CX0 9 fa fd ["_law_script"] (spLaw K) := by
 have e := hfa.symm.trans (PySem.W.mg_of X G al)
 cases e
 have B : Bi mg := ⟨PySem.W.mg_none_of X G z0, PySem.W.mg_none_of X G z1, PySem.W.mg_none_of X G z2, PySem.W.mg_none_of X G z3, PySem.W.mg_none_of X G z4, PySem.W.mg_none_of X G z5, PySem.W.mg_none_of X G z6, PySem.W.mg_none_of X G z7, PySem.W.mg_none_of X G z8, PySem.W.mg_none_of X G z9, PySem.W.mg_none_of X G z10, PySem.W.mg_none_of X G z11, PySem.W.mg_none_of X G z12, PySem.W.mg_none_of X G z13, PySem.W.mg_none_of X G z14, PySem.W.mg_none_of X G z15⟩
 have TW : Txt K mg CW := ⟨⟨wpg, whd, wpo, wsa⟩, nS, nP, nN⟩
 have FL := fun_mk (st := sLaw) ll cl kl
 refine ⟨PySem.W.fnOf "law" "law" (defArgs sLaw) (defBody sLaw) (defScope sLaw) .none kVl dcl pml anl cdl ctl, fun s v => .of_eq rfl, fun base _ _ => ?_⟩
 have cIsW : Cal l.prog w K mg base 1 "is_whole" ["thing"] spIsW := cal f0 (fun _ _ F => ok_isW F B) (fun _ _ _ _ _ _ us hl => match us, hl with | [_], _ => rfl)
 have cWhole : Cal l.prog w K mg base 2 "is_whole_within" ["thing", "least", "most"] spWhole := cal f1 (fun _ _ F => ok_whole F cIsW) (fun _ _ _ _ _ _ us hl => match us, hl with | [_, _, _], _ => rfl)
 have cName : Cal l.prog w K mg base 1 "is_name" ["thing"] spName := cal f2 (fun _ _ F => ok_name F B (PySem.W.mg_of X G c8)) (fun _ _ _ _ _ _ us hl => match us, hl with | [_], _ => rfl)
 have cLsr : Cal l.prog w K mg base 1 "lesser_first" ["one", "other"] spLesser := cal f3 (fun _ _ F => ok_lesser F) (fun _ _ _ _ _ _ us hl => match us, hl with | [_, _], _ => rfl)
 have cPair : Cal l.prog w K mg base 2 "is_pair_of_names" ["thing"] spPair := cal f4 (fun _ _ F => ok_pair F B cName) (fun _ _ _ _ _ _ us hl => match us, hl with | [_], _ => rfl)
 have cSort : Cal l.prog w K mg base 3 "sorted_ties" ["ties"] (spSorted K) := cal f5 (fun _ _ F => ok_sorted F B cPair cLsr) (fun _ _ _ _ _ _ us hl => match us, hl with | [_], _ => rfl)
 have cAnew : Cal l.prog w K mg base 1 "ties_anew" ["ties"] (spAnew K) := cal f6 (fun _ _ F => ok_anew F) (fun _ _ _ _ _ _ us hl => match us, hl with | [_], _ => rfl)
 have cHand : Cal l.prog w K mg base 3 "is_hand_with_strength" ["thing"] spHand := cal f10 (fun _ _ F => ok_hand F B cName cWhole (PySem.W.mg_of X G c10)) (fun _ _ _ _ _ _ us hl => match us, hl with | [_], _ => rfl)
 have cStr : Cal l.prog w K mg base 4 "checked_strengths" ["hands"] (spStr K) := cal f11 (fun _ _ F => ok_str F B cHand (PySem.W.mg_of X G c9)) (fun _ _ _ _ _ _ us hl => match us, hl with | [_], _ => rfl)
 have cTies : Cal l.prog w K mg base 4 "checked_ties" ["ties", "strengths"] (spTies K) := cal f12 (fun _ _ F => ok_ties F B cSort) (fun _ _ _ _ _ _ us hl => match us, hl with | [_, _], _ => rfl)
 have cNear : Cal l.prog w K mg base 2 "neighbours_of_all" ["names", "ties"] (spNear K) := cal f13 (fun _ _ F => ok_near F cLsr) (fun _ _ _ _ _ _ us hl => match us, hl with | [_, _], _ => rfl)
 have cWeb : CalC l.prog w K mg base CW 5 "Web" ["self", "hands", "ties"] (spInit K CW) := calC m0 (PySem.W.mg_of X G aW) wmk wkc (fun _ _ F => ok_init F TW B cStr cTies cNear) (fun _ _ _ _ _ _ us hl => match us, hl with | [_, _, _], _ => rfl)
 have mHas : CalM l.prog w K mg base CW 1 "has_hand" ["self", "thing"] (spHas K CW) := calM m1 (fun _ _ F => ok_has F TW B) (fun _ _ _ _ _ _ us hl => match us, hl with | [_, _], _ => rfl)
 have mHands : CalM l.prog w K mg base CW 1 "hands" ["self"] (spHands K CW) := calM m2 (fun _ _ F => ok_hands F TW B) (fun _ _ _ _ _ _ us hl => match us, hl with | [_], _ => rfl)
 have mStr : CalM l.prog w K mg base CW 2 "strength" ["self", "hand"] (spStrength K CW) := calM m3 (fun _ _ F => ok_strength F TW mHas) (fun _ _ _ _ _ _ us hl => match us, hl with | [_, _], _ => rfl)
 have mTies : CalM l.prog w K mg base CW 2 "ties" ["self"] (spTiesM K CW) := calM m4 (fun _ _ F => ok_tiesM F TW cAnew) (fun _ _ _ _ _ _ us hl => match us, hl with | [_], _ => rfl)
 have mMost : CalM l.prog w K mg base CW 1 "most_neighbours" ["self"] (spMost K CW) := calM m5 (fun _ _ F => ok_most F TW B) (fun _ _ _ _ _ _ us hl => match us, hl with | [_], _ => rfl)
 have cGd : Cal l.prog w K mg base 1 "greatest_divisor" ["one", "other"] spGd := cal f7 (fun _ _ F => ok_gd F) (fun _ _ _ _ _ _ us hl => match us, hl with | [_, _], _ => rfl)
 have cFr : Cal l.prog w K mg base 2 "fraction_of" ["top", "below"] spFrac := cal f8 (fun _ _ F => ok_frac F cGd) (fun _ _ _ _ _ _ us hl => match us, hl with | [_, _], _ => rfl)
 have cLess : Cal l.prog w K mg base 1 "is_less" ["one", "other"] spLess := cal f9 (fun _ _ F => ok_less F) (fun _ _ _ _ _ _ us hl => match us, hl with | [_, _], _ => rfl)
 have cIR : Cal l.prog w K mg base 1 "is_rule" ["thing"] spIsRule := cal f14 (fun _ _ F => ok_isRule F B R) (fun _ _ _ _ _ _ us hl => match us, hl with | [_], _ => rfl)
 have cWs : Cal l.prog w K mg base 2 "checked_words" ["rule"] (spWords K) := cal f15 (fun _ _ F => ok_words F R cIR) (fun _ _ _ _ _ _ us hl => match us, hl with | [_], _ => rfl)
 have cGu : Cal l.prog w K mg base 3 "is_shares_or_guarded_by" ["rule", "guards"] (spGuard K) := cal f16 (fun _ _ F => ok_guard F cWs) (fun _ _ _ _ _ _ us hl => match us, hl with | [_, _], _ => rfl)
 have cLet : Cal l.prog w K mg base 4 "is_let_by" ["rule"] spLet := cal f17 (fun _ _ F => ok_let F cGu) (fun _ _ _ _ _ _ us hl => match us, hl with | [_], _ => rfl)
 have cCG : Cal l.prog w K mg base 5 "checked_guard" ["rule"] spCGuard := cal f18 (fun _ _ F => ok_cguard F cLet cWs) (fun _ _ _ _ _ _ us hl => match us, hl with | [_], _ => rfl)
 have cCW : Cal l.prog w K mg base 3 "check_weight" ["thing"] spCWeight := cal f19 (fun _ _ F => ok_cweight F (PySem.W.mg_of X G c11) cWhole) (fun _ _ _ _ _ _ us hl => match us, hl with | [_], _ => rfl)
 have cAl : Cal l.prog w K mg base 3 "gap_along" ["web", "weight", "guard", "tie"] (spAlong K CW) := cal f20 (fun _ _ F => ok_along F TW mStr mMost cFr) (fun _ _ _ _ _ _ us hl => match us, hl with | [_, _, _, _], _ => rfl)
 have cS2 : Cal l.prog w K mg base 3 "sum_of_two" ["one", "other"] spSum2 := cal f21 (fun _ _ F => ok_sum2 F cFr) (fun _ _ _ _ _ _ us hl => match us, hl with | [_, _], _ => rfl)
 have cAlo : Cal l.prog w K mg base 6 "gaps_alone" ["web", "weight", "rule"] (spAlone K CW) := cal f22 (fun _ _ F => ok_alone F B TW cCG mTies cAl) (fun _ _ _ _ _ _ us hl => match us, hl with | [_, _, _], _ => rfl)
 have cBs : Cal l.prog w K mg base 2 "greatest_beside" ["tie", "gaps"] spBeside := cal f23 (fun _ _ F => ok_beside F cLess) (fun _ _ _ _ _ _ us hl => match us, hl with | [_, _], _ => rfl)
 have cBT : Cal l.prog w K mg base 7 "gaps_by_tie" ["web", "weight", "rule"] (spByTie K CW) := cal f24 (fun _ _ F => ok_byTie F B TW cAlo cWs cBs) (fun _ _ _ _ _ _ us hl => match us, hl with | [_, _, _], _ => rfl)
 have cSh : Cal l.prog w K mg base 4 "shorten" ["found", "one", "other", "gap"] spShort := cal f25 (fun _ _ F => ok_short F cS2 cLess) (fun _ _ _ _ _ _ us hl => match us, hl with | [_, _, _, _], _ => rfl)
 have cAp : Cal l.prog w K mg base 8 "apart_by" ["web", "weight", "rule", "one", "other"] (spApart K CW) := cal f26 (fun _ _ F => ok_apart F TW cCG cCW mHas cBT cFr mHands cSh) (fun _ _ _ _ _ _ us hl => match us, hl with | [_, _, _, _, _], _ => rfl)
 have cCell : Cal l.prog w K mg base 1 "_law_cell_at" ["_law_script", "_law_k"] (spCell K) := cal f27 (fun _ _ F => ok_cell F B) (fun _ _ _ _ _ _ us hl => match us, hl with | [_, _], _ => rfl)
 have cMx : Cal l.prog w K mg base 1 "_law_mixed" ["_law_number"] spMixed := cal f28 (fun _ _ F => ok_mixed F) (fun _ _ _ _ _ _ us hl => match us, hl with | [_], _ => rfl)
 have cStt : Cal l.prog w K mg base 1 "_law_state" ["_law_cell", "_law_k"] spState := cal f29 (fun _ _ F => ok_state F) (fun _ _ _ _ _ _ us hl => match us, hl with | [_, _], _ => rfl)
 have cDig : Cal l.prog w K mg base 2 "_law_digit" ["_law_state_here", "_law_base"] spDigit := cal f30 (fun _ _ F => ok_digit F cMx) (fun _ _ _ _ _ _ us hl => match us, hl with | [_, _], _ => rfl)
 have cNmd : Cal l.prog w K mg base 3 "_law_named" ["_law_state_here", "_law_many"] spNamed := cal f31 (fun _ _ F => ok_named F B cDig) (fun _ _ _ _ _ _ us hl => match us, hl with | [_, _], _ => rfl)
 have cLW : Cal l.prog w K mg base 4 "_law_web" ["_law_state_here"] (spLWeb K) := cal f32 (fun _ _ F => ok_lweb F B cDig cNmd) (fun _ _ _ _ _ _ us hl => match us, hl with | [_], _ => rfl)
 have cOwn : Cal l.prog w K mg base 1 "_law_own" ["_law_hands", "_law_ties", "_law_weight", "_law_rule"] (spOwn K) := cal f33 (fun _ _ F => ok_own F B) (fun _ _ _ _ _ _ us hl => match us, hl with | [_, _, _, _], _ => rfl)
 have cLG : Cal l.prog w K mg base 1 "_law_gaps" ["_law_own_here", "_law_rule"] spLGaps := cal f34 (fun _ _ F => ok_lgaps F) (fun _ _ _ _ _ _ us hl => match us, hl with | [_, _], _ => rfl)
 have cLo : Cal l.prog w K mg base 1 "_law_longer" ["_law_way", "_law_end", "_law_gap"] spLonger := cal f35 (fun _ _ F => ok_longer F) (fun _ _ _ _ _ _ us hl => match us, hl with | [_, _, _], _ => rfl)
 have cSu : Cal l.prog w K mg base 2 "_law_sums" ["_law_gaps_here", "_law_one", "_law_other"] spSums := cal f36 (fun _ _ F => ok_sums F cLo) (fun _ _ _ _ _ _ us hl => match us, hl with | [_, _, _], _ => rfl)
 have cIL : Cal l.prog w K mg base 1 "_law_is_least" ["_law_found", "_law_sums_here"] spIsLeast := cal f37 (fun _ _ F => ok_isLeast F B) (fun _ _ _ _ _ _ us hl => match us, hl with | [_, _], _ => rfl)
 have cRi : Cal l.prog w K mg base 2 "_law_right" ["_law_found", "_law_sums_here"] spRight := cal f38 (fun _ _ F => ok_right F B cIL) (fun _ _ _ _ _ _ us hl => match us, hl with | [_, _], _ => rfl)
 exact ok_law FL B cCell cStt cDig cLW cWeb cOwn cLG cSu cAp cRi
theorem walk {l : PySem.W.OpenLaw} {q : Program} {loose : List Str} {XP : (Str -> Option Value) -> Heap -> Prop} {YP : World -> Heap -> Prop} {d : DefRec} {K : Params -> PySem.W.Frag} (hn : l.most = some 63) (hdf : d.params.defaults = [])
  (hY : ∀ (w : World) (h : Heap), YP w h -> (K w.params).In h)
  (F : ∀ (w : World) (mg : Str -> Option Value) (fa : Addr) (h : Heap), (K w.params).In h -> h.Ns mainGlobals mg -> mg d.name = some (.ref fa) ->
   ∃ fd : FuncData, (∀ (s : Shared) (u : Value), BindsTo s fd ⟨[u], []⟩ [("_law_script", u)]) /\ ∀ base : Heap, (K w.params).In base -> base.Ns mainGlobals mg -> FnOk l.prog w (K w.params) mg base CX0 9 fa fd ["_law_script"] (spLaw (K w.params))) :
  PySem.W.WalkO q loose XP YP l.row.toRowW d [] (fun f vs => PySem.call f vs) :=
 L2.walk_of (n := 63) (k := 9) (x := "_law_script") (CX := fun _ => CX0) (sp := fun w => spLaw (K w.params)) hn (by decide) hdf ⟨rfl, by decide, by decide⟩ hY F (fun _ _ a ns hl _ hS => ⟨a, ns, rfl, hS, hl, fun _ => rfl⟩) fun _ _ _ _ _ z => z
end Ev
set_option Elab.async false
set_option linter.all false
namespace PySem.W.Fast
def tw17212950979981094432 : Unit := ()
def tw16297315467350020832 : Unit := ()
def tw17012585127627535682 : Unit := ()
def tw10432840831693800002 : Unit := ()
def tw16455252011055409762 : Unit := ()
def tw12928734072701418275 : Unit := ()
def tw1481514214497483652 : Unit := ()
def tw8750887731584619941 : Unit := ()
def tw12123361155181196901 : Unit := ()
def tw13606638127306141960 : Unit := ()
def tw2948183451992135787 : Unit := ()
def tw1308029766668342284 : Unit := ()
def tw4848093964737956108 : Unit := ()
def tw5295373335455898444 : Unit := ()
def tw8722966324203511885 : Unit := ()
def tw10784722984024340589 : Unit := ()
def tw7397016919022246512 : Unit := ()
def tw7331429912209162737 : Unit := ()
def tw16729140579155354289 : Unit := ()
def tw9596795821429589458 : Unit := ()
def tw4199031499536765780 : Unit := ()
def tw2065390385718589077 : Unit := ()
def tw2559036421950563478 : Unit := ()
def tw14081115737602322456 : Unit := ()
def tw100420981484310872 : Unit := ()
def tw7374649447626444185 : Unit := ()
def tw766576534584189913 : Unit := ()
def tw12724306578628951771 : Unit := ()
def tw12285544153924851132 : Unit := ()
end PySem.W.Fast
open PySem PySem.W PyProof.Rows
set_option maxRecDepth 100000 in
set_option maxHeartbeats 0 in
theorem PySem.Challenge.cw_evenpieces_k86_the_shortest_way_apart_holds : PySem.Challenge.rw_evenpieces_k86_the_shortest_way_apart.Holds := by
 w_on; o_law; k_head; (case hw => w_witness2)
 k_fill
 refine Ev.walk (l := PySem.Challenge.rw_evenpieces_k86_the_shortest_way_apart) rfl rfl (fun w h Y => PySem.W.kIn_of Y) ?F
 case F =>
  intro w mg fa h KX G hmg
  refine' Ev.all_mk KX G hmg (Ev.fd_mk KX G ?f0a ?f0l ?f0c ?f0k) (Ev.fd_mk KX G ?f1a ?f1l ?f1c ?f1k) (Ev.fd_mk KX G ?f2a ?f2l ?f2c ?f2k) (Ev.fd_mk KX G ?f3a ?f3l ?f3c ?f3k) (Ev.fd_mk KX G ?f4a ?f4l ?f4c ?f4k) (Ev.fd_mk KX G ?f5a ?f5l ?f5c ?f5k) (Ev.fd_mk KX G ?f6a ?f6l ?f6c ?f6k) (Ev.fd_mk KX G ?f7a ?f7l ?f7c ?f7k) (Ev.fd_mk KX G ?f8a ?f8l ?f8c ?f8k) (Ev.fd_mk KX G ?f9a ?f9l ?f9c ?f9k) (Ev.fd_mk KX G ?f10a ?f10l ?f10c ?f10k) (Ev.fd_mk KX G ?f11a ?f11l ?f11c ?f11k) (Ev.fd_mk KX G ?f12a ?f12l ?f12c ?f12k) (Ev.fd_mk KX G ?f13a ?f13l ?f13c ?f13k) (Ev.fd_mk KX G ?f14a ?f14l ?f14c ?f14k) (Ev.fd_mk KX G ?f15a ?f15l ?f15c ?f15k) (Ev.fd_mk KX G ?f16a ?f16l ?f16c ?f16k) (Ev.fd_mk KX G ?f17a ?f17l ?f17c ?f17k) (Ev.fd_mk KX G ?f18a ?f18l ?f18c ?f18k) (Ev.fd_mk KX G ?f19a ?f19l ?f19c ?f19k) (Ev.fd_mk KX G ?f20a ?f20l ?f20c ?f20k) (Ev.fd_mk KX G ?f21a ?f21l ?f21c ?f21k) (Ev.fd_mk KX G ?f22a ?f22l ?f22c ?f22k) (Ev.fd_mk KX G ?f23a ?f23l ?f23c ?f23k) (Ev.fd_mk KX G ?f24a ?f24l ?f24c ?f24k) (Ev.fd_mk KX G ?f25a ?f25l ?f25c ?f25k) (Ev.fd_mk KX G ?f26a ?f26l ?f26c ?f26k) (Ev.fd_mk KX G ?f27a ?f27l ?f27c ?f27k) (Ev.fd_mk KX G ?f28a ?f28l ?f28c ?f28k) (Ev.fd_mk KX G ?f29a ?f29l ?f29c ?f29k) (Ev.fd_mk KX G ?f30a ?f30l ?f30c ?f30k) (Ev.fd_mk KX G ?f31a ?f31l ?f31c ?f31k) (Ev.fd_mk KX G ?f32a ?f32l ?f32c ?f32k) (Ev.fd_mk KX G ?f33a ?f33l ?f33c ?f33k) (Ev.fd_mk KX G ?f34a ?f34l ?f34c ?f34k) (Ev.fd_mk KX G ?f35a ?f35l ?f35c ?f35k) (Ev.fd_mk KX G ?f36a ?f36l ?f36c ?f36k) (Ev.fd_mk KX G ?f37a ?f37l ?f37c ?f37k) (Ev.fd_mk KX G ?f38a ?f38l ?f38c ?f38k) (Ev.md_mk ?m0a ?m0i ?m0l ?m0c ?m0k) (Ev.md_mk ?m1a ?m1i ?m1l ?m1c ?m1k) (Ev.md_mk ?m2a ?m2i ?m2l ?m2c ?m2k) (Ev.md_mk ?m3a ?m3i ?m3l ?m3c ?m3k) (Ev.md_mk ?m4a ?m4i ?m4l ?m4c ?m4k) (Ev.md_mk ?m5a ?m5i ?m5l ?m5c ?m5k) ?al ?ll ?cl ?kl ?aW ?c8 ?c9 ?c10 ?c11 ?wpg ?whd ?wpo ?wsa ?wmk ?wkc ?nS ?nP ?nN ?z0 ?z1 ?z2 ?z3 ?z4 ?z5 ?z6 ?z7 ?z8 ?z9 ?z10 ?z11 ?z12 ?z13 ?z14 ?z15 (Ev.rules_at ?rm ?rs ?rl ?re ?u0 ?u1 ?u2 ?u3 ?u4 ?u5 ?u6 ?u7 ?u8 ?u9 ?u10 ?u11 ?u12 ?u13 ?u14 ?u15 ?u16)
  (case aW => k_is)
  (case f0a => k_is); (case f0l => k_is); (case f0c => k_is); (case f0k => k_is)
  (case f1a => k_is); (case f1l => k_is); (case f1c => k_is); (case f1k => k_is)
  (case f2a => k_is); (case f2l => k_is); (case f2c => k_is); (case f2k => k_is)
  (case f3a => k_is); (case f3l => k_is); (case f3c => k_is); (case f3k => k_is)
  (case f4a => k_is); (case f4l => k_is); (case f4c => k_is); (case f4k => k_is)
  (case f5a => k_is); (case f5l => k_is); (case f5c => k_is); (case f5k => k_is)
  (case f6a => k_is); (case f6l => k_is); (case f6c => k_is); (case f6k => k_is)
  (case f7a => k_is); (case f7l => k_is); (case f7c => k_is); (case f7k => k_is)
  (case f8a => k_is); (case f8l => k_is); (case f8c => k_is); (case f8k => k_is)
  (case f9a => k_is); (case f9l => k_is); (case f9c => k_is); (case f9k => k_is)
  (case f10a => k_is); (case f10l => k_is); (case f10c => k_is); (case f10k => k_is)
  (case f11a => k_is); (case f11l => k_is); (case f11c => k_is); (case f11k => k_is)
  (case f12a => k_is); (case f12l => k_is); (case f12c => k_is); (case f12k => k_is)
  (case f13a => k_is); (case f13l => k_is); (case f13c => k_is); (case f13k => k_is)
  (case f14a => k_is); (case f14l => k_is); (case f14c => k_is); (case f14k => k_is)
  (case f15a => k_is); (case f15l => k_is); (case f15c => k_is); (case f15k => k_is)
  (case f16a => k_is); (case f16l => k_is); (case f16c => k_is); (case f16k => k_is)
  (case f17a => k_is); (case f17l => k_is); (case f17c => k_is); (case f17k => k_is)
  (case f18a => k_is); (case f18l => k_is); (case f18c => k_is); (case f18k => k_is)
  (case f19a => k_is); (case f19l => k_is); (case f19c => k_is); (case f19k => k_is)
  (case f20a => k_is); (case f20l => k_is); (case f20c => k_is); (case f20k => k_is)
  (case f21a => k_is); (case f21l => k_is); (case f21c => k_is); (case f21k => k_is)
  (case f22a => k_is); (case f22l => k_is); (case f22c => k_is); (case f22k => k_is)
  (case f23a => k_is); (case f23l => k_is); (case f23c => k_is); (case f23k => k_is)
  (case f24a => k_is); (case f24l => k_is); (case f24c => k_is); (case f24k => k_is)
  (case f25a => k_is); (case f25l => k_is); (case f25c => k_is); (case f25k => k_is)
  (case f26a => k_is); (case f26l => k_is); (case f26c => k_is); (case f26k => k_is)
  (case f27a => k_is); (case f27l => k_is); (case f27c => k_is); (case f27k => k_is)
  (case f28a => k_is); (case f28l => k_is); (case f28c => k_is); (case f28k => k_is)
  (case f29a => k_is); (case f29l => k_is); (case f29c => k_is); (case f29k => k_is)
  (case f30a => k_is); (case f30l => k_is); (case f30c => k_is); (case f30k => k_is)
  (case f31a => k_is); (case f31l => k_is); (case f31c => k_is); (case f31k => k_is)
  (case f32a => k_is); (case f32l => k_is); (case f32c => k_is); (case f32k => k_is)
  (case f33a => k_is); (case f33l => k_is); (case f33c => k_is); (case f33k => k_is)
  (case f34a => k_is); (case f34l => k_is); (case f34c => k_is); (case f34k => k_is)
  (case f35a => k_is); (case f35l => k_is); (case f35c => k_is); (case f35k => k_is)
  (case f36a => k_is); (case f36l => k_is); (case f36c => k_is); (case f36k => k_is)
  (case f37a => k_is); (case f37l => k_is); (case f37c => k_is); (case f37k => k_is)
  (case f38a => k_is); (case f38l => k_is); (case f38c => k_is); (case f38k => k_is)
  (case m0a => k_is); (case m0i => k_is); (case m0l => k_is); (case m0c => k_is); (case m0k => k_is)
  (case m1a => k_is); (case m1i => k_is); (case m1l => k_is); (case m1c => k_is); (case m1k => k_is)
  (case m2a => k_is); (case m2i => k_is); (case m2l => k_is); (case m2c => k_is); (case m2k => k_is)
  (case m3a => k_is); (case m3i => k_is); (case m3l => k_is); (case m3c => k_is); (case m3k => k_is)
  (case m4a => k_is); (case m4i => k_is); (case m4l => k_is); (case m4c => k_is); (case m4k => k_is)
  (case m5a => k_is); (case m5i => k_is); (case m5l => k_is); (case m5c => k_is); (case m5k => k_is)
  (case al => k_is); (case ll => k_is); (case cl => k_is); (case kl => k_is); (case c8 => k_is); (case c9 => k_is); (case c10 => k_is); (case c11 => k_is); (case wpg => k_is); (case whd => k_is); (case wpo => k_is); (case wsa => k_is); (case wmk => k_is); (case wkc => k_is); (case nS => k_is); (case nP => k_is); (case nN => k_is); (case z0 => k_is); (case z1 => k_is); (case z2 => k_is); (case z3 => k_is); (case z4 => k_is); (case z5 => k_is); (case z6 => k_is); (case z7 => k_is); (case z8 => k_is); (case z9 => k_is); (case z10 => k_is); (case z11 => k_is); (case z12 => k_is); (case z13 => k_is); (case z14 => k_is); (case z15 => k_is)
  case' rm => refine' PySem.W.mg_of KX G ?rn
  (first | (case rn => k_is) | (case rm => k_is))
  (case rl => k_is)
  (case rs => rfl)
  (case re => rfl)
  (case u0 => k_is); (case u1 => k_is); (case u2 => k_is); (case u3 => k_is); (case u4 => k_is); (case u5 => k_is); (case u6 => k_is); (case u7 => k_is); (case u8 => k_is); (case u9 => k_is); (case u10 => k_is); (case u11 => k_is); (case u12 => k_is); (case u13 => k_is); (case u14 => k_is); (case u15 => k_is); (case u16 => k_is)

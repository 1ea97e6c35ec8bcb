import PyProof.Rows.All
import Wide.All
import OpenK.AllK
import Wide.FinOn
import Lean
import PyProof.EqAt
import PyProof.EqKinds
import PyProof.TupleCall
import PyProof.FitsReplace
import PySem.Challenge.RW_evenpieces_k74_moves_as_texts
-- CHANGE: your row's module here, as the last of these rows
set_option Elab.async false
set_option linter.all false
set_option maxRecDepth 100000
/-! THE HAND LAYER, for ints, bools, texts, own classes, LISTS and tuples (index, slices, in, append, pop ..), calls, loops. Paste it whole ahead of your own text; what your proof does not reach may be deleted. -/
namespace L2
open PySem PySem.Spec PyProof.Rows

/-- a key: an int or a str -/
abbrev Key := Sum Int Str
def keyIs : Key → Value → Bool
  | .inl k, v => Value.isInt k v
  | .inr x, v => Value.isStrOf x v
def keyH (w : World) : Key → Int
  | .inl k => hashInt k
  | .inr x => hashStr w x
theorem keyIs_shape : ∀ {k : Key} {v : Value}, keyIs k v = true → (∃ i t, k = Sum.inl i ∧ v = Value.int i t) ∨ (∃ x t, k = Sum.inr x ∧ v = Value.str x t)
  | .inl i, v, h => by
    obtain ⟨t, e⟩ := Value.isInt_shape (k := i) (v := v) h
    exact .inl ⟨i, t, rfl, e⟩
  | .inr x, v, h => by
    obtain ⟨t, e⟩ := Value.isStrOf_shape (x := x) (v := v) h
    exact .inr ⟨x, t, rfl, e⟩


theorem key_ll (a b : Int) : decide ((Sum.inl a : Key) = Sum.inl b) = (a == b) := by
  by_cases e : a = b
  · subst e; simp
  · have h : ¬ (Sum.inl a : Key) = Sum.inl b := fun q => e (Sum.inl.inj q)
    rw [decide_eq_false h]
    exact (beq_eq_false_iff_ne.mpr e).symm
theorem key_rr (a b : Str) : decide ((Sum.inr a : Key) = Sum.inr b) = decide (a = b) := by
  by_cases e : a = b
  · subst e; simp
  · have h : ¬ (Sum.inr a : Key) = Sum.inr b := fun q => e (Sum.inr.inj q)
    rw [decide_eq_false h, decide_eq_false e]
theorem key_lr (a : Int) (b : Str) : decide ((Sum.inl a : Key) = Sum.inr b) = false := decide_eq_false (fun q => nomatch q)
theorem key_rl (a : Str) (b : Int) : decide ((Sum.inr a : Key) = Sum.inl b) = false := decide_eq_false (fun q => nomatch q)

def mixKind (prog : Program) (w : World) : PySem.KeyKind prog w Key where
  is := keyIs
  hash := keyH w
  inj := fun v a b ha hb => by
    rcases keyIs_shape ha with ⟨i, t, rfl, rfl⟩ | ⟨x, t, rfl, rfl⟩
    · rcases keyIs_shape hb with ⟨j, u, rfl, e⟩ | ⟨y, u, rfl, e⟩
      · injection e with e1 _; rw [e1]
      · exact nomatch e
    · rcases keyIs_shape hb with ⟨j, u, rfl, e⟩ | ⟨y, u, rfl, e⟩
      · exact nomatch e
      · injection e with e1 _; rw [e1]
  byValue := fun k v h => by
    rcases keyIs_shape h with ⟨i, t, rfl, rfl⟩ | ⟨x, t, rfl, rfl⟩ <;> rfl
  pyHash := fun hv h => by
    rcases keyIs_shape hv with ⟨i, t, rfl, rfl⟩ | ⟨x, t, rfl, rfl⟩
    · exact wpAny_pyHash_int h
    · exact wpAny_pyHash_str h
  eqBool := fun hu hv h => by
    rcases keyIs_shape hu with ⟨i, t, rfl, rfl⟩ | ⟨x, t, rfl, rfl⟩
    · rcases keyIs_shape hv with ⟨j, u, rfl, rfl⟩ | ⟨y, u, rfl, rfl⟩
      · rw [key_ll] at h; exact wpAny_eqBool_int h
      · rw [key_lr] at h; exact SeqAt.EqAt.int_str i t y u _ _ _ _ h
    · rcases keyIs_shape hv with ⟨j, u, rfl, rfl⟩ | ⟨y, u, rfl, rfl⟩
      · rw [key_rl] at h; exact SeqAt.EqAt.str_int x t j u _ _ _ _ h
      · rw [key_rr] at h; exact wpAny_eqBool_str h
  «strs» := fun k x t v h => by
    rcases keyIs_shape h with ⟨i, u, rfl, e⟩ | ⟨y, u, rfl, e⟩
    · exact nomatch e
    · injection e with e1 _
      subst e1
      cases v <;> rfl




end L2

namespace L2
open PySem PySem.Spec PyProof.Rows

/-- a value, without the heap -/
inductive V where
  | non | bl (b : Bool) | int (i : Int) | str (x : Str) | byt (b : Array UInt8) | flt (b : UInt64) | ref (a : Addr) | ty (n : String)
  deriving DecidableEq

def RelV : V → Value → Prop
  | .non, u => u = Value.none
  | .bl b, u => u = Value.bool b
  | .int i, u => ∃ t, u = Value.int i t
  | .str x, u => ∃ t, u = Value.str x t
  | .byt b, u => ∃ t, u = Value.bytes b t
  | .flt b, u => ∃ t, u = Value.float b t
  | .ref a, u => u = Value.ref a
  | .ty n, u => u = Value.type n

abbrev Vals : List V → List Value → Prop := Paired RelV
theorem Vals.length {xs : List V} {us : List Value} (r : Vals xs us) : xs.length = us.length := Paired.length r
theorem Vals.get : ∀ {xs : List V} {us : List Value} {i : Nat} {x : V}, Vals xs us → xs[i]? = some x → ∃ u, us[i]? = some u ∧ RelV x u
  | _, _, _, _, .nil, e => by simp at e
  | _, _, 0, _, .cons r _, e => by simp at e; subst e; exact ⟨_, rfl, r⟩
  | _, _, i + 1, x, .cons _ t, e => by
    obtain ⟨u, h1, h2⟩ := Vals.get (i := i) (x := x) t (by simpa using e)
    exact ⟨u, by simpa using h1, h2⟩
theorem Vals.set {x : V} {u : Value} (r : RelV x u) : ∀ {xs : List V} {us : List Value} (i : Nat), Vals xs us → Vals (xs.set i x) (us.set i u)
  | _, _, _, .nil => .nil
  | _, _, 0, .cons _ t => .cons r t
  | _, _, i + 1, .cons q t => .cons q (Vals.set r i t)
theorem Vals.append : ∀ {xs ys : List V} {us ws : List Value}, Vals xs us → Vals ys ws → Vals (xs ++ ys) (us ++ ws)
  | _, _, _, _, .nil, s => s
  | _, _, _, _, .cons r t, s => .cons r (Vals.append t s)




def RelO : Option V → Option Value → Prop
  | some v, some u => RelV v u
  | none, none => True
  | _, _ => False
def KV {κ : Type} : List (κ × V) → List (κ × Value) → Prop := Paired fun (p : κ × V) (q : κ × Value) => p.1 = q.1 ∧ RelV p.2 q.2

/-- a key of a dict (00_mix): an int or a text -/
def kV : Key → V
  | .inl i => .int i
  | .inr x => .str x

/-- what stands at a tracked address -/
inductive HO where
  /-- a list -/
  | lst (xs : List V)
  /-- a tuple (never changes) -/
  | tup (xs : List V)
  /-- a dict whose keys are ints and texts; one whose keys are tuples of ints and texts (the empty one is both) -/
  | dK (kvs : List (Key × V)) | dT (kvs : List (List Key × V))
  /-- a set of ints: its members, its size -/
  | set (S : Int → Bool) (n : Nat)
  /-- an instance of the class at C, its dict at dx, its attributes -/
  | ins (C dx : Addr) (fs : List (Str × V))
  /-- the dict of the instance at x -/
  | own (x : Addr)
  /-- the dict of an exception -/
  | xd (fs : List (Str × V))
  /-- a bound method, f of x -/
  | met (f x : Addr)
  /-- a range object lo, lo + 1, .. below hi -/
  | rng (lo hi : Int)
  /-- a thing that is known to the object (the script; a dict while a loop walks it): read, never written while it is so -/
  | frz (o : Obj) (u : HO)
  /-- a code object's table -/
  | tbl (ps : Array Value)
  /-- any other thing, by what is true of its one object (a def of one's own: SetO a S n := HO.ext fun h => ..) -/
  | ext (φ : Heap → Prop)

abbrev Hp := Addr → Option HO
def upd (H : Hp) (a : Addr) (o : HO) : Hp := fun b => if b = a then some o else H b
theorem upd_same {H : Hp} {a : Addr} {o : HO} : upd H a o a = some o := by unfold upd; rw [if_pos rfl]
theorem upd_ne {H : Hp} {a b : Addr} {o : HO} (h : b ≠ a) : upd H a o b = H b := by unfold upd; rw [if_neg h]
theorem upd_upd {H : Hp} {a : Addr} {o u : HO} : upd (upd H a o) a u = upd H a u := by
  funext b; unfold upd; split <;> rfl

theorem ne_of_none {H : Hp} {a b : Addr} {o : HO} (h : H a = some o) (h' : H b = none) : a ≠ b := by
  intro e; subst e; rw [h] at h'; cases h'

section
variable (P : Program) (w : World)
def ObjOk (H : Hp) (h : Heap) (a : Addr) : HO → Prop
  | .lst xs => xs.length ≤ sizeLine ∧ ∃ (its : List Value) (n : Nat), Vals xs its ∧ h.get? a = some { cls := .type "list", data := .seq its.toArray n }
  | .tup xs => xs.length ≤ sizeLine ∧ ∃ its : List Value, Vals xs its ∧ IsTup h a its.toArray
  | .dK kvs => kvs.length ≤ sizeLine ∧ (a == sysModules) = false ∧ ∃ vs, KV kvs vs ∧ h.DictOf (mixKind P w) a vs
  | .dT kvs => kvs.length ≤ sizeLine ∧ (a == sysModules) = false ∧ ∃ xs : List (List Key × Addr × Value),
      Paired (fun (p : List Key × V) (q : List Key × Addr × Value) => p.1 = q.1 ∧ H q.2.1 = some (.tup (p.1.map kV)) ∧ RelV p.2 q.2.2) kvs xs ∧
      ∃ o es ep, h.get? a = some o ∧ o.ExactDict ∧ o.data = .dict es ep ∧ es.toList = xs.map (entryOfKey (tupleKind (mixKind P w))) ∧ (xs.map (·.1)).Nodup
  | .set S n => h.SetOf (intKind P w) a S n
  | .ins C dx fs => H dx = some (.own a) ∧ fs.length ≤ 1000 ∧ dx ≠ a ∧ h.get? a = some (PySem.W.instObj C dx) ∧
      ∃ mA, h.Ns1 dx mA ∧ (∀ f, RelO (fs.lookup f) (mA f)) ∧ PySem.Within mA (fs.map (·.1))
  | .own _ => ∃ o, h.get? a = some o
  | .xd fs => ∃ mA, h.Ns1 a mA ∧ ∀ f, RelO (fs.lookup f) (mA f)
  | .rng lo hi => ∃ t u v, h.get? a = some { cls := .type "range", data := .fields #[.int lo t, .int hi u, .int 1 v] }
  | .frz o u => h.get? a = some o ∧ ObjOk H h a u
  | .tbl ps => h.get? a = some { cls := .none, data := .fields ps }
  | .met f x => h.get? a = some (PySem.W.methodObj (.ref f) (.ref x))
  | .ext φ => φ h ∧ (∃ o, h.get? a = some o) ∧ ∀ h1 h2 : Heap, φ h1 → (∀ o, h1.get? a = some o → h2.get? a = some o) → φ h2
/-- the abstract heap is held -/
def HOk (H : Hp) (h : Heap) : Prop := ∀ a o, H a = some o → ObjOk P w H h a o
end

section
variable {P : Program} {w : World} {H H' : Hp} {h h' : Heap} {a : Addr} {o : HO}
theorem ObjOk.lt (x : ObjOk P w H h a o) : a < h.objs.size := by
  cases o with
  | lst xs => obtain ⟨_, _, _, _, e⟩ := x; exact Heap.lt_size e
  | tup xs => obtain ⟨_, _, _, p⟩ := x; exact p.lt
  | dK kvs => obtain ⟨_, _, _, _, o, _, _, e, _⟩ := x; exact Heap.lt_size e
  | dT kvs => obtain ⟨_, _, _, _, o, _, _, e, _⟩ := x; exact Heap.lt_size e
  | set S n => obtain ⟨o, _, _, _, e, _⟩ := x; exact Heap.lt_size e
  | ins C dx fs => obtain ⟨_, _, _, e, _⟩ := x; exact Heap.lt_size e
  | own y => obtain ⟨_, e⟩ := x; exact Heap.lt_size e
  | xd fs => obtain ⟨_, ⟨_, _, _, e, _⟩, _⟩ := x; exact Heap.lt_size e
  | rng lo hi => obtain ⟨_, _, _, e⟩ := x; exact Heap.lt_size e
  | frz ob u => obtain ⟨e, _⟩ := x; exact Heap.lt_size e
  | tbl ps => exact Heap.lt_size (show h.get? a = some _ from x)
  | met f y => exact Heap.lt_size (show h.get? a = some _ from x)
  | ext φ => obtain ⟨_, ⟨_, e⟩, _⟩ := x; exact Heap.lt_size e
theorem Paired.mapP {α β : Type} {F G : α → β → Prop} : ∀ {l₁ : List α} {l₂ : List β}, Paired F l₁ l₂ → (∀ a b, F a b → G a b) → Paired G l₁ l₂
  | _, _, .nil, _ => .nil
  | _, _, .cons r t, f => .cons (f _ _ r) (Paired.mapP t f)

/-- what an object's description leans on: its own object, its own dict, the tuples -/
theorem ObjOk.stay (x : ObjOk P w H h a o) (k : ∀ b u, (b = a ∨ H b = some (.own a)) → h.get? b = some u → h'.get? b = some u)
    (ho : ∀ b, H b = some (.own a) → H' b = some (.own a)) (ht : ∀ b xs, H b = some (.tup xs) → H' b = some (.tup xs)) : ObjOk P w H' h' a o := by
  induction o with
  | lst xs => obtain ⟨z, its, n, r, e⟩ := x; exact ⟨z, its, n, r, k _ _ (.inl rfl) e⟩
  | tup xs => obtain ⟨z, its, r, ob, e, c⟩ := x; exact ⟨z, its, r, ob, k _ _ (.inl rfl) e, c⟩
  | dK kvs => obtain ⟨z, y, vs, r, ob, es, ep, e, c⟩ := x; exact ⟨z, y, vs, r, ob, es, ep, k _ _ (.inl rfl) e, c⟩
  | dT kvs =>
    obtain ⟨z, y, xs, r, ob, es, ep, e, c⟩ := x
    exact ⟨z, y, xs, Paired.mapP r fun p q z => ⟨z.1, ht _ _ z.2.1, z.2.2⟩, ob, es, ep, k _ _ (.inl rfl) e, c⟩
  | set S n => obtain ⟨ob, es, ep, t, e, c⟩ := x; exact ⟨ob, es, ep, t, k _ _ (.inl rfl) e, c⟩
  | ins C dx fs =>
    obtain ⟨d, z, ne, e, mA, ⟨od, es, ep, e2, c⟩, r⟩ := x
    exact ⟨ho _ d, z, ne, k _ _ (.inl rfl) e, mA, ⟨od, es, ep, k _ _ (.inr d) e2, c⟩, r⟩
  | own y => obtain ⟨ob, e⟩ := x; exact ⟨ob, k _ _ (.inl rfl) e⟩
  | xd fs => obtain ⟨mA, ⟨od, es, ep, e, c⟩, r⟩ := x; exact ⟨mA, ⟨od, es, ep, k _ _ (.inl rfl) e, c⟩, r⟩
  | rng lo hi => obtain ⟨t, u, v, e⟩ := x; exact ⟨t, u, v, k _ _ (.inl rfl) e⟩
  | frz ob u ih => obtain ⟨e, q⟩ := x; exact ⟨k _ _ (.inl rfl) e, ih q⟩
  | tbl ps =>
    have e : h.get? a = some { cls := .none, data := .fields ps } := x
    show h'.get? a = some { cls := .none, data := .fields ps }
    exact k a _ (.inl rfl) e
  | met f y =>
    have e : h.get? a = some (PySem.W.methodObj (.ref f) (.ref y)) := x
    show h'.get? a = some (PySem.W.methodObj (.ref f) (.ref y))
    exact k a _ (.inl rfl) e
  | ext φ => obtain ⟨p, ⟨o, e⟩, st⟩ := x; exact ⟨st _ _ p fun o q => k _ _ (.inl rfl) q, ⟨o, k _ _ (.inl rfl) e⟩, st⟩
theorem HOk.lt (x : HOk P w H h) (e : H a = some o) : a < h.objs.size := (x a o e).lt
theorem HOk.fresh (x : HOk P w H h) (e : h.objs.size ≤ a) : H a = none := by
  cases q : H a with
  | none => rfl
  | some u => exact absurd (Nat.lt_of_lt_of_le (x.lt q) e) (Nat.lt_irrefl _)
/-- every object of the heap is kept -/
theorem HOk.kept (x : HOk P w H h) (k : ∀ b u, h.get? b = some u → h'.get? b = some u) : HOk P w H h' := fun a o e =>
  (x a o e).stay (fun b u _ q => k b u q) (fun _ q => q) fun _ _ q => q
/-- a new object is laid and tracked -/
theorem HOk.laid (x : HOk P w H h) (k : ∀ b u, h.get? b = some u → h'.get? b = some u) (hp : h.objs.size ≤ a) (new : ObjOk P w (upd H a o) h' a o) : HOk P w (upd H a o) h' := fun b u e => by
  have hn := x.fresh hp
  by_cases hb : b = a
  · subst hb; rw [upd_same] at e; cases e; exact new
  · rw [upd_ne hb] at e
    exact (x b u e).stay (fun c v _ q => k c v q) (fun c q => by rw [upd_ne (ne_of_none q hn)]; exact q) fun c xs q => by rw [upd_ne (ne_of_none q hn)]; exact q
end

/-- what may be read as u: it is u, or a known u -/
def Rd (H : Hp) (a : Addr) (u : HO) : Prop := H a = some u ∨ ∃ o, H a = some (.frz o u)

theorem Rd.ok {P : Program} {w : World} {H : Hp} {h : Heap} {a : Addr} {u : HO} (r : Rd H a u) (x : HOk P w H h) : ObjOk P w H h a u := by
  rcases r with r | ⟨o, r⟩
  · exact x a u r
  · obtain ⟨_, q⟩ := x a _ r
    exact q
/-- what may be written -/
def Mut : Option HO → Prop
  | some (.lst _) => True
  | some (.dK _) => True
  | some (.dT _) => True
  | some (.set _ _) => True
  | some (.ins _ _ _) => True
  | some (.ext _) => True
  | _ => False
section
variable {P : Program} {w : World} {H : Hp} {h h' : Heap} {x e : Addr} {o' : HO}
/-- the object at e is changed: x itself, or the dict of the instance x -/
theorem HOk.write (ok : HOk P w H h) (mu : Mut (H x)) (he : e = x ∨ H e = some (.own x)) (k : ∀ b u, b ≠ e → h.get? b = some u → h'.get? b = some u) (heo : ∃ u, h'.get? e = some u)
    (new : ObjOk P w (upd H x o') h' x o') : HOk P w (upd H x o') h' := fun b u q => by
  have nown : ∀ c y, H c = some (.own y) → c ≠ x := fun c y r z => by subst z; rw [r] at mu; exact mu
  have ntup : ∀ c xs, H c = some (.tup xs) → c ≠ x := fun c xs r z => by subst z; rw [r] at mu; exact mu
  by_cases hb : b = x
  · subst hb; rw [upd_same] at q; cases q; exact new
  · rw [upd_ne hb] at q
    by_cases hbe : b = e
    · have q' : H b = some (.own x) := by
        rcases he with z | z
        · exact absurd (hbe.trans z) hb
        · rw [hbe]; exact z
      rw [q] at q'; cases q'
      obtain ⟨v, hv⟩ := heo
      exact ⟨v, by rw [hbe]; exact hv⟩
    · refine (ok b u q).stay (fun c v hc r => k c v ?_ r) (fun c r => by rw [upd_ne (nown c b r)]; exact r) fun c xs r => by rw [upd_ne (ntup c xs r)]; exact r
      rcases hc with rfl | hc
      · exact hbe
      · rintro rfl
        rcases he with z | z
        · exact nown c b hc z
        · rw [hc] at z; cases z; exact hb rfl
end

/-! ### kept unless tracked; of the frames at fs (the callers') the slots may change (an exception that passes writes there); of the records at ex (iterators) nothing is said -/
structure Un (fs ex : List Addr) (H H' : Hp) (h h' : Heap) : Prop where
  keep : ∀ b o, h.get? b = some o → H b = none → b ∉ fs → b ∉ ex → h'.get? b = some o
  slot : ∀ b o, h.get? b = some o → H b = none → b ∈ fs → b ∉ ex → ∃ sl, h'.get? b = some { o with slots := sl }
  free : ∀ b o, h.get? b = some o → H b = none → b ∉ ex → H' b = none
  there : ∀ b o, h.get? b = some o → b ∉ ex → ∃ o', h'.get? b = some o'
  tups : ∀ b xs, H b = some (.tup xs) → H' b = some (.tup xs)
  frzs : ∀ b o u, H b = some (.frz o u) → H' b = some (.frz o u)
  tbls : ∀ b ps, H b = some (.tbl ps) → ∃ more, H' b = some (.tbl (ps ++ more))
section
variable {fs fs' ex ex' : List Addr} {H H1 H2 : Hp} {h h1 h2 h' : Heap} {a x e : Addr} {o : HO}
theorem Un.any (u : Un fs ex H H1 h h1) {b : Addr} {ob : Obj} (q : h.get? b = some ob) (n : H b = none) (hx : b ∉ ex) : ∃ sl, h1.get? b = some { ob with slots := sl } := by
  by_cases hb : b ∈ fs
  · exact u.slot b ob q n hb hx
  · exact ⟨ob.slots, u.keep b ob q n hb hx⟩

theorem Un.kept (k : ∀ b u, h.get? b = some u → h'.get? b = some u) : Un fs ex H H h h' :=
  ⟨fun b ob q _ _ _ => k b ob q, fun b ob q _ _ _ => ⟨ob.slots, k b ob q⟩, fun _ _ _ n _ => n, fun b ob q _ => ⟨ob, k b ob q⟩, fun _ _ q => q, fun _ _ _ q => q, fun _ ps q => ⟨#[], by rw [q]; simp⟩⟩
theorem Un.refl : Un fs ex H H h h := Un.kept fun _ _ q => q
theorem Un.laid (k : ∀ b u, h.get? b = some u → h'.get? b = some u) (hp : h.objs.size ≤ a) (hn : H a = none) : Un fs ex H (upd H a o) h h' where
  keep := fun b u q _ _ _ => k b u q
  slot := fun b u q _ _ _ => ⟨u.slots, k b u q⟩
  free := fun b u q n _ => by rw [upd_ne (Nat.ne_of_lt (Nat.lt_of_lt_of_le (Heap.lt_size q) hp))]; exact n
  there := fun b u q _ => ⟨u, k b u q⟩
  tups := fun b xs q => by rw [upd_ne (ne_of_none q hn)]; exact q
  frzs := fun b u xs q => by rw [upd_ne (ne_of_none q hn)]; exact q
  tbls := fun b ps q => ⟨#[], by rw [upd_ne (ne_of_none q hn), q]; simp⟩
theorem Un.write (mu : Mut (H x)) (he : e = x ∨ H e = some (.own x)) (k : ∀ b u, b ≠ e → h.get? b = some u → h'.get? b = some u) (heo : ∃ u, h'.get? e = some u) : Un fs ex H (upd H x o) h h' := by
  have hx : ∀ b, H b = none → b ≠ x := fun b n z => by subst z; rw [n] at mu; exact mu
  have hb : ∀ b, H b = none → b ≠ e := fun b n z => by
    subst z
    rcases he with r | r
    · exact hx b n r
    · rw [n] at r; cases r
  have hm : ∀ b u, H b = some u → ¬ Mut (some u) → b ≠ x := fun b u q nm z => by subst z; rw [q] at mu; exact nm mu
  refine ⟨fun b u q n _ _ => k b u (hb b n) q, fun b u q n _ _ => ⟨u.slots, k b u (hb b n) q⟩, fun b u q n _ => by rw [upd_ne (hx b n)]; exact n, fun b u q _ => ?_,
    fun b xs q => by rw [upd_ne (hm b _ q fun z => z)]; exact q, fun b u xs q => by rw [upd_ne (hm b _ q fun z => z)]; exact q, fun b ps q => ⟨#[], by rw [upd_ne (hm b _ q fun z => z), q]; simp⟩⟩
  by_cases hbe : b = e
  · subst hbe; exact heo
  · exact ⟨u, k b u hbe q⟩

end

/-! ### the heap without what is tracked -/
def trk (h : Heap) (H : Hp) : List Addr := (List.range h.objs.size).filter fun a => (H a).isSome
def hidT (h : Heap) (H : Hp) : Heap := PySem.W.hideAll h (trk h H)
theorem hidT_size (h : Heap) (H : Hp) : (hidT h H).objs.size = h.objs.size := PySem.W.hideAll_size _ _
theorem hidT_get {h : Heap} {H : Hp} {b : Addr} {o : Obj} (e : h.get? b = some o) (n : H b = none) : (hidT h H).get? b = some o :=
  PySem.W.hideAll_get _ e fun hm => by
    have q : (H b).isSome = true := (List.mem_filter.mp hm).2
    rw [n] at q; simp at q
theorem of_hidT {h : Heap} {H : Hp} {b : Addr} {o : Obj} (e : (hidT h H).get? b = some o) : h.get? b = some o ∧ H b = none := by
  have e' : h.get? b = some o := PySem.W.of_hideAll (trk h H) e
  refine ⟨e', ?_⟩
  cases q : H b with
  | none => rfl
  | some x =>
    have hm : b ∈ trk h H := List.mem_filter.mpr ⟨List.mem_range.mpr (Heap.lt_size e'), by simp [q]⟩
    have z : (hidT h H).get? b = none := PySem.W.hideAll_none (trk h H) hm
    rw [z] at e; cases e

/-! ### OpenK's ledger, filled with every new object but one -/
def allNews (g h : Heap) (L : Addr) : List (Addr × Obj) := (List.range h.objs.size).filterMap fun a => if a = L ∨ (g.get? a).isSome = true then none else (h.get? a).map fun o => (a, o)


def rest (g h : Heap) (L d : Addr) : List (Addr × Obj) := (allNews g h L).filter fun p => decide (p.1 ≠ d)





end L2

namespace L2
open PySem PySem.Spec PyProof.Rows

/-- the module's facts, over the base: the heap at the law's entry without what is tracked there -/
structure Mod (K : PySem.W.Frag) (mg : Str → Option Value) (base : Heap) : Prop where
  kin : K.In base
  glob : base.Ns mainGlobals mg
  blt : ∃ mb, base.Ns builtinsNs mb ∧ ∀ x : Str, x ≠ "__name__" → mb x = bootBuiltins x
  nolimit : base.NoLimit

/-- the context: a def's body (or a comprehension's block) running. base: fixed through the whole law; s₀, H₀: the entry; outer: the frames whose slots others may change (a def's callers); stack: all frames that run;
   ex: iterators that were made ahead of the entry and are walked here (a comprehension's); fn: the names whose cells were made at the entry (a def: all; a comprehension's block: its own); calm: not within an except suite; pn: pins that every state bears; xe: what is wanted of an exception that leaves the code -/
structure Cx where
  prog : Program
  w : World
  K : PySem.W.Frag
  mg : Str → Option Value
  base : Heap
  A : Around
  N : List Str
  s₀ : Shared
  H₀ : Hp
  env : Env
  outer : List Env
  stack : List Env
  ex : List Addr
  fn : Str → Bool
  calm : Bool
  pn : List (Addr × Obj)
  xe : Value → Shared → Prop
/-- the callers' frames -/
def frs (l : List Env) : List Addr := l.filterMap (·.frame)
abbrev Cx.fs (X : Cx) : List Addr := frs X.outer

def Vis (sc : Scope) (x : Str) : Prop := sc.names.lookup x = some .local ∨ sc.names.lookup x = some .cell ∨ sc.names.lookup x = some .free
def Loc (sc : Scope) (x : Str) : Prop := sc.names.lookup x = some .local ∨ sc.names.lookup x = some .cell
def Look (env : Env) (h : Heap) (m : Str → Option Value) (x : Str) (u : Value) : Prop :=
  (env.kindOf x = some .local ∧ m x = some u) ∨ ((env.kindOf x = some .cell ∨ env.kindOf x = some .free) ∧ ∃ c, env.cells.lookup x = some c ∧ h.IsCell c (some u))

structure Cx.Ok (X : Cx) : Prop where
  mod : Mod X.K X.mg X.base
  kind : X.env.scope.kind = .function
  glob : X.env.globals = mainGlobals
  blt : X.env.builtins = builtinsNs
  above : X.s₀.heap.objs.size ≤ X.env.locals
  inj : ∀ x y c, X.env.cells.lookup x = some c → X.env.cells.lookup y = some c → x = y
  has : ∀ x, (X.env.kindOf x = some .cell ∨ X.env.kindOf x = some .free) → ∃ c, X.env.cells.lookup x = some c
  cab : ∀ x c, X.fn x = true → X.env.cells.lookup x = some c → X.s₀.heap.objs.size ≤ c
  hd : X.calm = true → X.A.handled = none
  frames : X.A.frames = some X.stack
  stk : X.stack = X.outer ∨ (X.stack = X.env :: X.outer ∧ X.env.frame = some X.env.locals)
  exf : ∀ b ∈ X.ex, b ≠ X.env.locals ∧ ∀ x c, X.env.cells.lookup x = some c → c ≠ b
  bs : ∀ b o, X.base.get? b = some o → X.s₀.heap.get? b = some o ∧ X.H₀ b = none
  bsz : X.base.objs.size ≤ X.s₀.heap.objs.size
  noex : ∀ b o, X.base.get? b = some o → b ∉ X.ex
  exfs : ∀ b ∈ X.ex, b ∉ X.fs
  funs : X.s₀.heap.FunFrames X.base X.outer
  frf : ∀ b ∈ X.fs, X.H₀ b = none

structure Inv (X : Cx) (pins : List (Addr × Obj)) (σ : List (Option V)) (H : Hp) (s : Shared) : Prop where
  ok : X.Ok
  os : s.os = X.s₀.os
  bare : AllBare s.gens
  base : Un X.fs X.ex X.H₀ H X.s₀.heap s.heap
  loc : ∃ m, s.heap.Ns X.env.locals m ∧ ∀ (i : Nat) (x : Str) (v : V), X.N[i]? = some x → σ[i]? = some (some v) → Vis X.env.scope x → ∃ u, RelV v u ∧ Look X.env s.heap m x u
  cell : ∀ x c, X.env.cells.lookup x = some c → ∃ v, s.heap.IsCell c v
  free : H X.env.locals = none
  freeC : ∀ x c, X.env.cells.lookup x = some c → H c = none
  pin : ∀ p ∈ X.pn ++ pins, s.heap.get? p.1 = some p.2 ∧ H p.1 = none ∧ p.1 ≠ X.env.locals ∧ p.1 ∉ X.fs ∧ ∀ v, p.2.data ≠ .cell v
  hok : HOk X.prog X.w H s.heap
  len : σ.length = X.N.length

section
variable {X : Cx} {pins : List (Addr × Obj)} {σ : List (Option V)} {H H' : Hp} {s : Shared} {h' : Heap}

theorem Cx.Ok.nofr (ok : X.Ok) {b : Addr} {o : Obj} (e : X.base.get? b = some o) : b ∉ X.fs := fun hb => by
  have := (ok.funs.mem hb).1
  rw [e] at this; cases this
theorem Inv.bs (I : Inv X pins σ H s) : ∀ b o, X.base.get? b = some o → s.heap.get? b = some o ∧ H b = none := fun b o e =>
  ⟨I.base.keep b o (I.ok.bs b o e).1 (I.ok.bs b o e).2 (I.ok.nofr e) (I.ok.noex b o e), I.base.free b o (I.ok.bs b o e).1 (I.ok.bs b o e).2 (I.ok.noex b o e)⟩
theorem Inv.bk (I : Inv X pins σ H s) : ∀ b o, X.base.get? b = some o → s.heap.get? b = some o := fun b o e => (I.bs b o e).1
theorem Inv.mod (I : Inv X pins σ H s) : Mod X.K X.mg X.base := I.ok.mod
theorem Inv.kIn (I : Inv X pins σ H s) : X.K.In s.heap := I.ok.mod.kin.keeps I.bk


theorem Inv.lt (I : Inv X pins σ H s) : X.env.locals < s.heap.objs.size := let ⟨_, hn, _⟩ := I.loc; hn.lt
theorem Inv.sz (I : Inv X pins σ H s) : X.s₀.heap.objs.size ≤ s.heap.objs.size := Nat.le_trans I.ok.above (Nat.le_of_lt I.lt)
theorem Inv.nofs (I : Inv X pins σ H s) {a : Addr} (h : s.heap.objs.size ≤ a) : a ∉ X.fs := fun hb => by
  obtain ⟨_, o, ho, _⟩ := I.ok.funs.mem hb
  exact absurd (Nat.lt_of_lt_of_le (Heap.lt_size ho) (Nat.le_trans I.sz h)) (Nat.lt_irrefl _)
theorem Inv.cne (I : Inv X pins σ H s) : ∀ x c, X.env.cells.lookup x = some c → c ≠ X.env.locals := fun x c e z => by
  obtain ⟨v, o, ho, hd⟩ := I.cell x c e
  obtain ⟨m, ⟨o', es, ep, ho', hd', _⟩, _⟩ := I.loc
  rw [z, ho'] at ho; cases ho; rw [hd'] at hd; cases hd
theorem Inv.funs (I : Inv X pins σ H s) : s.heap.FunFrames X.base X.outer := by
  have all : ∀ (l : List Env), (∀ b ∈ frs l, b ∈ X.fs) → X.s₀.heap.FunFrames X.base l → s.heap.FunFrames X.base l := by
    intro l
    induction l with
    | nil => intro _ _; trivial
    | cons env r ih =>
      intro hs hl
      obtain ⟨hk, ⟨L, o, hf, hn, ho, hd⟩, hr⟩ := hl
      have hL : L ∈ X.fs := hs L (by unfold frs; rw [List.filterMap_cons, hf]; exact List.mem_cons_self)
      obtain ⟨sl, e⟩ := I.base.slot L o ho (I.ok.frf L hL) hL fun z => I.ok.exfs L z hL
      exact ⟨hk, ⟨L, _, hf, hn, e, hd⟩, ih (fun b hb => hs b (by unfold frs; rw [List.filterMap_cons, hf]; exact List.mem_cons_of_mem _ hb)) hr⟩
  exact all X.outer (fun _ hb => hb) I.ok.funs

/-- the frames that run, for a call -/
theorem Inv.stack (I : Inv X pins σ H s) : s.heap.FunFrames X.base X.stack := by
  rcases I.ok.stk with e | ⟨e, hf⟩
  · rw [e]; exact I.funs
  · rw [e]
    obtain ⟨m, hn, _⟩ := I.loc
    refine .cons (by rw [I.ok.kind]; decide) hf hn ?_ I.funs
    exact Heap.get?_none_of_le (Nat.le_trans I.ok.bsz I.ok.above)
theorem Inv.stkSub (I : Inv X pins σ H s) : ∀ b ∈ frs X.stack, b ∈ X.env.locals :: X.fs := fun b hb => by
  rcases I.ok.stk with e | ⟨e, hf⟩
  · rw [e] at hb; exact List.mem_cons_of_mem _ hb
  · rw [e] at hb
    unfold frs at hb
    rw [List.filterMap_cons, hf] at hb
    exact hb
theorem Inv.stkFree (I : Inv X pins σ H s) : ∀ b ∈ frs X.stack, H b = none := fun b hb => by
  rcases List.mem_cons.mp (I.stkSub b hb) with e | hb
  · rw [e]; exact I.free
  · obtain ⟨_, o, ho, _⟩ := I.ok.funs.mem hb
    exact I.base.free b o ho (I.ok.frf b hb) fun z => I.ok.exfs b z hb

/-- THE STEP: the untracked objects but the frame and the records at ch are kept (the callers' frames up to slots), the frame's map is kept, the new abstract heap is held -/
theorem Inv.step {g' : Array GenState} {t' : Nat} {d' : Drawn} {ch : List Addr} (I : Inv X pins σ H s)
    (hch : ∀ b ∈ ch, (b ∈ X.ex ∨ X.s₀.heap.objs.size ≤ b) ∧ b ≠ X.env.locals ∧ (∀ x c, X.env.cells.lookup x = some c → c ≠ b) ∧ ∀ p ∈ X.pn ++ pins, p.1 ≠ b)
    (keep : ∀ b o, b ≠ X.env.locals → b ∉ X.fs → b ∉ ch → s.heap.get? b = some o → H b = none → h'.get? b = some o)
    (slot : ∀ b o, b ≠ X.env.locals → b ∈ X.fs → b ∉ ch → s.heap.get? b = some o → H b = none → ∃ sl, h'.get? b = some { o with slots := sl }) (free : ∀ b o, b ∉ ch → s.heap.get? b = some o → H b = none → H' b = none)
    (there : ∀ b o, b ∉ ch → s.heap.get? b = some o → ∃ o', h'.get? b = some o')
    (tups : ∀ b xs, H b = some (.tup xs) → H' b = some (.tup xs)) (frzs : ∀ b o u, H b = some (.frz o u) → H' b = some (.frz o u)) (tbls : ∀ b ps, H b = some (.tbl ps) → ∃ more, H' b = some (.tbl (ps ++ more)))
    (ns : ∀ m, s.heap.Ns X.env.locals m → h'.Ns X.env.locals m) (hok : HOk X.prog X.w H' h') (hg : AllBare g') :
    Inv X pins σ H' { s with heap := h', gens := g', drawn := d', toks := t' } := by
  have neL : ∀ b o, X.s₀.heap.get? b = some o → b ≠ X.env.locals := fun b o e => Nat.ne_of_lt (Nat.lt_of_lt_of_le (Heap.lt_size e) I.ok.above)
  have neC : ∀ b o, X.s₀.heap.get? b = some o → b ∉ X.ex → b ∉ ch := fun b o e hx hb => by
    rcases (hch b hb).1 with z | z
    · exact hx z
    · exact absurd (Nat.lt_of_lt_of_le (Heap.lt_size e) z) (Nat.lt_irrefl _)
  have cellK : ∀ x c, X.env.cells.lookup x = some c → ∀ v, s.heap.IsCell c v → h'.IsCell c v := fun x c e v ⟨o, ho, hd⟩ => by
    have nch : c ∉ ch := fun z => (hch c z).2.2.1 x c e rfl
    by_cases hc : c ∈ X.fs
    · obtain ⟨sl, q⟩ := slot c o (I.cne x c e) hc nch ho (I.freeC x c e)
      exact ⟨_, q, hd⟩
    · exact ⟨o, keep c o (I.cne x c e) hc nch ho (I.freeC x c e), hd⟩
  refine ⟨I.ok, I.os, hg, ⟨fun b o e n hb hx => ?_, fun b o e n hb hx => ?_, fun b o e n hx => ?_, fun b o e hx => ?_, fun b xs e => tups b xs (I.base.tups b xs e), fun b o xs e => frzs b o xs (I.base.frzs b o xs e), fun b ps e => ?_⟩, ?_, fun x c e => ?_, ?_, fun x c e => ?_, fun p hp => ?_, hok, I.len⟩
  · exact keep b o (neL b o e) hb (neC b o e hx) (I.base.keep b o e n hb hx) (I.base.free b o e n hx)
  · obtain ⟨sl, e1⟩ := I.base.slot b o e n hb hx
    obtain ⟨sl', e2⟩ := slot b _ (neL b o e) hb (neC b o e hx) e1 (I.base.free b o e n hx)
    exact ⟨sl', e2⟩
  · obtain ⟨o', e1⟩ := I.base.there b o e hx
    exact free b o' (neC b o e hx) e1 (I.base.free b o e n hx)
  · obtain ⟨o', e1⟩ := I.base.there b o e hx
    exact there b o' (neC b o e hx) e1
  · obtain ⟨m1, e1⟩ := I.base.tbls b ps e
    obtain ⟨m2, e2⟩ := tbls b _ e1
    exact ⟨m1 ++ m2, by rw [e2, Array.append_assoc]⟩
  · obtain ⟨m, hn, hl⟩ := I.loc
    refine ⟨m, ns m hn, fun i x v e1 e2 e3 => ?_⟩
    obtain ⟨u, r, l⟩ := hl i x v e1 e2 e3
    refine ⟨u, r, ?_⟩
    rcases l with l | ⟨k, c, e, z⟩
    · exact .inl l
    · exact .inr ⟨k, c, e, cellK x c e _ z⟩
  · obtain ⟨v, z⟩ := I.cell x c e
    exact ⟨v, cellK x c e v z⟩
  · obtain ⟨m, ⟨o, _, _, ho, _⟩, _⟩ := I.loc
    exact free _ o (fun z => (hch _ z).2.1 rfl) ho I.free
  · obtain ⟨v, o, ho, hd⟩ := I.cell x c e
    exact free c o (fun z => (hch c z).2.2.1 x c e rfl) ho (I.freeC x c e)
  · obtain ⟨e, n, ne, nf, d⟩ := I.pin p hp
    have nch : p.1 ∉ ch := fun z => (hch p.1 z).2.2.2 p hp rfl
    exact ⟨keep p.1 p.2 ne nf nch e n, free p.1 p.2 nch e n, ne, nf, d⟩
/-- .. where the frame's own object is kept too -/
theorem Inv.un {t' : Nat} (I : Inv X pins σ H s) (u : Un X.fs [] H H' s.heap h') (hok : HOk X.prog X.w H' h') : Inv X pins σ H' { s with heap := h', toks := t' } := by
  obtain ⟨m, ⟨o, es, ep, ho, r⟩, _⟩ := id I.loc
  obtain ⟨sl, hL⟩ := u.any ho I.free (by simp)
  exact I.step (g' := s.gens) (d' := s.drawn) (ch := []) (fun _ z => nomatch z) (fun b o _ hb _ e n => u.keep b o e n hb (by simp)) (fun b o _ hb _ e n => u.slot b o e n hb (by simp)) (fun b o _ e n => u.free b o e n (by simp)) (fun b o _ e => u.there b o e (by simp)) u.tups u.frzs u.tbls (fun m' hm => by
    obtain ⟨o', es', ep', ho', r'⟩ := hm
    rw [ho] at ho'; cases ho'
    exact ⟨_, es', ep', hL, r'⟩) hok I.bare
/-- behind a call (or a comprehension's block): the slots of this frame may have changed too, the records at ch may have turned -/
theorem Inv.call {g' : Array GenState} {t' : Nat} {d' : Drawn} {ch : List Addr} (I : Inv X pins σ H s) (u : Un (frs X.stack) ch H H' s.heap h') (hok : HOk X.prog X.w H' h') (hg : AllBare g')
    (hch : ∀ b ∈ ch, (b ∈ X.ex ∨ X.s₀.heap.objs.size ≤ b) ∧ b ≠ X.env.locals ∧ (∀ x c, X.env.cells.lookup x = some c → c ≠ b) ∧ ∀ p ∈ X.pn ++ pins, p.1 ≠ b) :
    Inv X pins σ H' { s with heap := h', gens := g', drawn := d', toks := t' } := by
  obtain ⟨m, ⟨o, es, ep, ho, r⟩, _⟩ := id I.loc
  obtain ⟨sl, hL⟩ := u.any ho I.free fun z => (hch _ z).2.1 rfl
  exact I.step (ch := ch) hch (fun b o hL hb hc e n => u.keep b o e n (fun z => (List.mem_cons.mp (I.stkSub b z)).elim hL hb) hc) (fun b o _ _ hc e n => u.any e n hc) (fun b o hc e n => u.free b o e n hc) (fun b o hc e => u.there b o e hc) u.tups u.frzs u.tbls (fun m' hm => by
    obtain ⟨o', es', ep', ho', r'⟩ := hm
    rw [ho] at ho'; cases ho'
    exact ⟨_, es', ep', hL, r'⟩) hok hg
/-- an untracked record of ours (an iterator) has turned -/
theorem Inv.turned {t' : Nat} {it : Addr} (I : Inv X pins σ H s) (k : ∀ b o, b ≠ it → s.heap.get? b = some o → h'.get? b = some o) (hn : H it = none) (hL : it ≠ X.env.locals)
    (h1 : it ∈ X.ex ∨ X.s₀.heap.objs.size ≤ it) (h2 : ∀ x c, X.env.cells.lookup x = some c → c ≠ it) (h3 : ∀ p ∈ X.pn ++ pins, p.1 ≠ it) : Inv X pins σ H { s with heap := h', toks := t' } := by
  have nit : ∀ b u, H b = some u → b ≠ it := fun b u e z => by rw [z, hn] at e; cases e
  refine I.step (g' := s.gens) (d' := s.drawn) (ch := [it]) (fun b hb => ?_) (fun b o _ _ hc e _ => k b o (fun z => hc (by simp [z])) e) (fun b o _ _ hc e _ => ⟨o.slots, k b o (fun z => hc (by simp [z])) e⟩) (fun _ _ _ _ n => n)
    (fun b o hc e => ⟨o, k b o (fun z => hc (by simp [z])) e⟩) (fun _ _ e => e) (fun _ _ _ e => e) (fun b ps e => ⟨#[], by rw [e]; simp⟩) (fun m hm => ?_) (fun b u e => ?_) I.bare
  · have e : b = it := by simpa using hb
    subst e
    exact ⟨h1, hL, h2, h3⟩
  · obtain ⟨o, es, ep, ho, r⟩ := hm
    exact ⟨o, es, ep, k _ o (Ne.symm hL) ho, r⟩
  · refine (I.hok b u e).stay (fun c v hc q => k c v ?_ q) (fun _ q => q) fun _ _ q => q
    rcases hc with z | z
    · rw [z]; exact nit b u e
    · exact nit c _ z
theorem Inv.tok (I : Inv X pins σ H s) (t : Nat) : Inv X pins σ H { s with toks := t } := I.un (h' := s.heap) (t' := t) Un.refl I.hok
/-- all objects kept -/
theorem Inv.kept {t' : Nat} (I : Inv X pins σ H s) (k : ∀ b u, s.heap.get? b = some u → h'.get? b = some u) : Inv X pins σ H { s with heap := h', toks := t' } := I.un (Un.kept k) (I.hok.kept k)
/-- a new object laid and tracked -/
theorem Inv.laid {a : Addr} {o : HO} {t' : Nat} (I : Inv X pins σ H s) (k : ∀ b u, s.heap.get? b = some u → h'.get? b = some u) (hp : s.heap.objs.size ≤ a) (new : ObjOk X.prog X.w (upd H a o) h' a o) :
    Inv X pins σ (upd H a o) { s with heap := h', toks := t' } := I.un (Un.laid k hp (I.hok.fresh hp)) (I.hok.laid k hp new)
/-- an object written -/
theorem Inv.write {x e : Addr} {o : HO} {t' : Nat} (I : Inv X pins σ H s) (mu : Mut (H x)) (he : e = x ∨ H e = some (.own x)) (k : ∀ b u, b ≠ e → s.heap.get? b = some u → h'.get? b = some u) (heo : ∃ u, h'.get? e = some u)
    (new : ObjOk X.prog X.w (upd H x o) h' x o) : Inv X pins σ (upd H x o) { s with heap := h', toks := t' } := I.un (Un.write mu he k heo) (I.hok.write mu he k heo new)

theorem Inv.pins_of {pins' : List (Addr × Obj)} (I : Inv X pins σ H s) (h : ∀ p ∈ pins', s.heap.get? p.1 = some p.2 ∧ H p.1 = none ∧ p.1 ≠ X.env.locals ∧ p.1 ∉ X.fs ∧ ∀ v, p.2.data ≠ .cell v) : Inv X pins' σ H s :=
  ⟨I.ok, I.os, I.bare, I.base, I.loc, I.cell, I.free, I.freeC, fun p hp => (List.mem_append.mp hp).elim (fun z => I.pin p (List.mem_append_left _ z)) (h p), I.hok, I.len⟩

theorem nodup_ix {N : List Str} (hN : N.Nodup) {i j : Nat} {x : Str} (a : N[i]? = some x) (b : N[j]? = some x) : i = j := by
  obtain ⟨h1, e1⟩ := List.getElem?_eq_some_iff.mp a
  obtain ⟨h2, e2⟩ := List.getElem?_eq_some_iff.mp b
  exact (List.getElem_inj hN).mp (e1.trans e2.symm)

/-- a name is stored; what changed -/
theorem store_ok2 {M : Model} {A : Around} {E : Value → Shared → Prop} {i : Nat} {x : Str} {v : V} {u : Value} {Q : Unit → Shared → Prop} (I : Inv X pins σ H s) (hN : X.N.Nodup) (hi : X.N[i]? = some x) (hx : Loc X.env.scope x) (r : RelV v u)
    (h : ∀ s', Inv X pins (σ.set i (some v)) H s' → (∃ a, Heap.SameBut a s.heap s'.heap ∧ (a = X.env.locals ∨ X.env.cells.lookup x = some a)) → Q () s') (hf : X.fn x = true ∨ X.env.scope.names.lookup x = some .local := by first | exact .inl rfl | exact .inr rfl | assumption) : wpAny M A (storeName X.env x u) Q E s := by
  obtain ⟨m, hn, hl⟩ := id I.loc
  have hcls : (X.env.scope.kind == .class || (X.env.scope.kind == .module && X.env.locals != X.env.globals)) = false := by rw [I.ok.kind]; rfl
  have hiσ : i < σ.length := by rw [I.len]; exact (List.getElem?_eq_some_iff.mp hi).1
  have cne := I.cne
  have tracked : ∀ {a : Addr} {h' : Heap}, (∃ o, s.heap.get? a = some o ∧ H a = none) → Heap.SameBut a s.heap h' → HOk X.prog X.w H h' := fun {a h'} ha hs b ob e => by
    obtain ⟨_, _, hfree⟩ := ha
    refine (I.hok b ob e).stay (fun c w' hc q => (hs.2 c ?_).trans q) (fun _ q => q) fun _ _ q => q
    rintro rfl
    rcases hc with rfl | hc
    · rw [hfree] at e; cases e
    · rw [hfree] at hc; cases hc
  rcases hx with hk | hk
  · refine wpAny_storeName_local hk hn (fun h' hn' hs => ?_) hcls
    obtain ⟨oL, _, _, hoL, _⟩ := id hn
    refine h _ ⟨I.ok, I.os, I.bare, ⟨fun b o e n hb hx => ?_, fun b o e n hb hx => ?_, I.base.free, fun b o e hx => ?_, I.base.tups, I.base.frzs, I.base.tbls⟩, ⟨_, hn', fun j y v' e1 e2 e3 => ?_⟩, fun y c e => ?_, I.free, I.freeC, fun p hp => ?_, tracked ⟨oL, hoL, I.free⟩ hs, by simpa using I.len⟩ ⟨_, hs, .inl rfl⟩
    · exact (hs.2 b (Nat.ne_of_lt (Nat.lt_of_lt_of_le (Heap.lt_size e) I.ok.above))).trans (I.base.keep b o e n hb hx)
    · obtain ⟨sl, e1⟩ := I.base.slot b o e n hb hx
      exact ⟨sl, (hs.2 b (Nat.ne_of_lt (Nat.lt_of_lt_of_le (Heap.lt_size e) I.ok.above))).trans e1⟩
    · obtain ⟨o', e1⟩ := I.base.there b o e hx
      exact ⟨o', (hs.2 b (Nat.ne_of_lt (Nat.lt_of_lt_of_le (Heap.lt_size e) I.ok.above))).trans e1⟩
    · by_cases hj : j = i
      · subst hj
        rw [hi] at e1; cases e1
        rw [List.getElem?_set_self hiσ] at e2
        cases e2
        exact ⟨u, r, .inl ⟨hk, by simp⟩⟩
      · rw [List.getElem?_set_ne (Ne.symm hj)] at e2
        obtain ⟨u', r', q⟩ := hl j y v' e1 e2 e3
        refine ⟨u', r', ?_⟩
        rcases q with ⟨k, e⟩ | ⟨k, c, e, z⟩
        · refine .inl ⟨k, ?_⟩
          have : y ≠ x := fun e => hj (nodup_ix hN e1 (e ▸ hi))
          simp [this, e]
        · exact .inr ⟨k, c, e, z.sameBut hs (cne y c e)⟩
    · obtain ⟨w', z⟩ := I.cell y c e
      exact ⟨w', z.sameBut hs (cne y c e)⟩
    · obtain ⟨e, n, ne, nf, d⟩ := I.pin p hp
      exact ⟨(hs.2 p.1 ne).trans e, n, ne, nf, d⟩
  · have hfn : X.fn x = true := by
      rcases hf with z | z
      · exact z
      · rw [z] at hk; cases hk
    obtain ⟨c, hc⟩ := I.ok.has x (.inl hk)
    obtain ⟨w', z⟩ := I.cell x c hc
    refine wpAny_storeName_cell I.ok.kind hk hc z (fun h' hc' hs => ?_)
    obtain ⟨oc, hoc, hocd⟩ := id z
    refine h { s with heap := h' } ⟨I.ok, I.os, I.bare, ⟨fun b o e n hb hx => ?_, fun b o e n hb hx => ?_, I.base.free, fun b o e hx => ?_, I.base.tups, I.base.frzs, I.base.tbls⟩, ⟨m, hn.sameBut hs (Ne.symm (cne x c hc)), fun j y v' e1 e2 e3 => ?_⟩, fun y c' e => ?_, I.free, I.freeC, fun p hp => ?_, tracked ⟨oc, hoc, I.freeC x c hc⟩ hs, by simpa using I.len⟩ ⟨c, hs, .inr hc⟩
    · exact (hs.2 b (Nat.ne_of_lt (Nat.lt_of_lt_of_le (Heap.lt_size e) (I.ok.cab x c hfn hc)))).trans (I.base.keep b o e n hb hx)
    · obtain ⟨sl, e1⟩ := I.base.slot b o e n hb hx
      exact ⟨sl, (hs.2 b (Nat.ne_of_lt (Nat.lt_of_lt_of_le (Heap.lt_size e) (I.ok.cab x c hfn hc)))).trans e1⟩
    · obtain ⟨o', e1⟩ := I.base.there b o e hx
      exact ⟨o', (hs.2 b (Nat.ne_of_lt (Nat.lt_of_lt_of_le (Heap.lt_size e) (I.ok.cab x c hfn hc)))).trans e1⟩
    · by_cases hj : j = i
      · subst hj
        rw [hi] at e1; cases e1
        rw [List.getElem?_set_self hiσ] at e2
        cases e2
        exact ⟨u, r, .inr ⟨.inl hk, c, hc, hc'⟩⟩
      · rw [List.getElem?_set_ne (Ne.symm hj)] at e2
        obtain ⟨u', r', q⟩ := hl j y v' e1 e2 e3
        refine ⟨u', r', ?_⟩
        rcases q with q | ⟨k, c', e, z'⟩
        · exact .inl q
        · refine .inr ⟨k, c', e, z'.sameBut hs ?_⟩
          rintro rfl
          exact hj (nodup_ix hN e1 (I.ok.inj _ _ _ e hc ▸ hi))
    · by_cases hcc : c' = c
      · subst hcc; exact ⟨_, hc'⟩
      · obtain ⟨w2, z2⟩ := I.cell y c' e
        exact ⟨w2, z2.sameBut hs hcc⟩
    · obtain ⟨e, n, ne, nf, d⟩ := I.pin p hp
      refine ⟨(hs.2 p.1 ?_).trans e, n, ne, nf, d⟩
      intro q
      rw [q, hoc] at e
      have q' : oc = p.2 := Option.some.inj e
      exact d w' (by rw [← q']; exact hocd)
theorem store_ok {M : Model} {A : Around} {E : Value → Shared → Prop} {i : Nat} {x : Str} {v : V} {u : Value} {Q : Unit → Shared → Prop} (I : Inv X pins σ H s) (hN : X.N.Nodup) (hi : X.N[i]? = some x) (hx : Loc X.env.scope x) (r : RelV v u)
    (h : ∀ s', Inv X pins (σ.set i (some v)) H s' → Q () s') (hf : X.fn x = true ∨ X.env.scope.names.lookup x = some .local := by first | exact .inl rfl | exact .inr rfl | assumption) : wpAny M A (storeName X.env x u) Q E s :=
  store_ok2 I hN hi hx r (fun s' I' _ => h s' I') hf
/-- behind a call or a block, the state as it is -/
theorem Inv.call' {s' : Shared} {ch : List Addr} (I : Inv X pins σ H s) (ho : s'.os = s.os) (u : Un (frs X.stack) ch H H' s.heap s'.heap) (hok : HOk X.prog X.w H' s'.heap) (hg : AllBare s'.gens)
    (hch : ∀ b ∈ ch, (b ∈ X.ex ∨ X.s₀.heap.objs.size ≤ b) ∧ b ≠ X.env.locals ∧ (∀ x c, X.env.cells.lookup x = some c → c ≠ b) ∧ ∀ p ∈ X.pn ++ pins, p.1 ≠ b) : Inv X pins σ H' s' := by
  obtain ⟨h', g', d', t', o'⟩ := s'
  have e : o' = s.os := ho
  subst e
  exact I.call (g' := g') (t' := t') (d' := d') u hok hg hch
end

/-! ### the judgements -/
/-- an exception: its class, its own dict's address (where it has one), the abstract heap behind it -/
abbrev XK := Value → Option Addr → Hp → Prop
abbrev St := List (Option V)
abbrev VK := V → Hp → Prop
/-- an expression's reading; a test's; an argument list's -/
abbrev TE := St → Hp → VK → Prop
abbrev TT := St → Hp → (Bool → Hp → Prop) → Prop
abbrev TA := St → Hp → (List V → Hp → Prop) → Prop
/-- what is wanted behind a statement -/
structure Ends where
  nx : St → Hp → Prop
  rt : VK
  bk : St → Hp → Prop := fun _ _ => False
  ct : St → Hp → Prop := fun _ _ => False
abbrev TS := Ends → St → Hp → Prop

def EP (X : Cx) (pins : List (Addr × Obj)) (σ : St) (Q : VK) (u : Value) (s' : Shared) : Prop := ∃ v H', Inv X pins σ H' s' ∧ RelV v u ∧ Q v H'
def TP (X : Cx) (pins : List (Addr × Obj)) (σ : St) (Q : Bool → Hp → Prop) (b : Bool) (s' : Shared) : Prop := ∃ H', Inv X pins σ H' s' ∧ Q b H'
def AP (X : Cx) (pins : List (Addr × Obj)) (σ : St) (Q : List V → Hp → Prop) (us : List Value) (s' : Shared) : Prop := ∃ vs H', Inv X pins σ H' s' ∧ Vals vs us ∧ Q vs H'
def SP (X : Cx) (pins : List (Addr × Obj)) (D : Ends) (f : Flow) (s' : Shared) : Prop :=
  match f with
  | .next => ∃ σ' H', Inv X pins σ' H' s' ∧ D.nx σ' H'
  | .brk => ∃ σ' H', Inv X pins σ' H' s' ∧ D.bk σ' H'
  | .cont => ∃ σ' H', Inv X pins σ' H' s' ∧ D.ct σ' H'
  | .ret u => ∃ v σ' H', Inv X pins σ' H' s' ∧ RelV v u ∧ D.rt v H'

def PE (X : Cx) (e : Expr) (t : TE) : Prop :=
  ∀ (pins : List (Addr × Obj)) (s : Shared) (σ : St) (H : Hp) (Q : VK), Inv X pins σ H s → t σ H Q → wpAny (model X.prog X.w) X.A (eval e X.env) (EP X pins σ Q) X.xe s
def PT (X : Cx) (e : Expr) (t : TT) : Prop :=
  ∀ (pins : List (Addr × Obj)) (s : Shared) (σ : St) (H : Hp) (Q : Bool → Hp → Prop), Inv X pins σ H s → t σ H Q → wpAny (model X.prog X.w) X.A (isTrue e X.env (eval e X.env)) (TP X pins σ Q) X.xe s
/-- a test whatever its 'whole' is (and, or) -/
def PW (X : Cx) (e : Expr) (t : TT) : Prop :=
  ∀ (whole : Sem Value) (pins : List (Addr × Obj)) (s : Shared) (σ : St) (H : Hp) (Q : Bool → Hp → Prop), Inv X pins σ H s → t σ H Q → wpAny (model X.prog X.w) X.A (isTrue e X.env whole) (TP X pins σ Q) X.xe s
theorem PW.pt {X : Cx} {e : Expr} {t : TT} (h : PW X e t) : PT X e t := h _
/-- an argument list (no star), from the left -/
def PA (X : Cx) (es : List Expr) (t : TA) : Prop :=
  ∀ (pos : Pos) (pins : List (Addr × Obj)) (s : Shared) (σ : St) (H : Hp) (Q : List V → Hp → Prop), Inv X pins σ H s → t σ H Q → wpAny (model X.prog X.w) X.A (spliced (backTo pos (starEach es X.env))) (AP X pins σ Q) X.xe s
def PS (X : Cx) (st : Stmt) (t : TS) : Prop :=
  ∀ (pins : List (Addr × Obj)) (s : Shared) (σ : St) (H : Hp) (D : Ends), Inv X pins σ H s → t D σ H → wpAny (model X.prog X.w) X.A (exec st X.env) (SP X pins D) X.xe s
def PSs (X : Cx) (st : List Stmt) (t : TS) : Prop :=
  ∀ (pins : List (Addr × Obj)) (s : Shared) (σ : St) (H : Hp) (D : Ends), Inv X pins σ H s → t D σ H → wpAny (model X.prog X.w) X.A (execs st X.env) (SP X pins D) X.xe s
/-- weaken the end -/
theorem thn {α : Type} {t : Sem α} {Q Q' : α → Shared → Prop} {M : Model} {A : Around} {E : Value → Shared → Prop} {s : Shared} (h : wpAny M A t Q E s) (hQ : ∀ a s, Q a s → Q' a s) : wpAny M A t Q' E s := wpAny_mono h hQ fun _ _ x => x
end L2

namespace L2
open PySem PySem.Spec PyProof.Rows
section
variable {X : Cx}



/-! ### names and constants -/
def tVar (i : Nat) : TE := fun σ H Q => ∃ v, σ[i]? = some (some v) ∧ Q v H
def tC (v : V) : TE := fun _ H Q => Q v H
theorem pe_var {i : Nat} {x : Str} {pos : Pos} (hN : X.N[i]? = some x) (hv : Vis X.env.scope x) (hd : (x == ("__debug__" : Str)) = false := by decide) (hcd : (x == ("__classdict__" : Str)) = false := by decide) : PE X (.Name x pos) (tVar i) := by
  intro pins s σ H Q I h
  obtain ⟨v, e, h⟩ := h
  obtain ⟨m, hn, hl⟩ := I.loc
  obtain ⟨u, r, l⟩ := hl i x v hN e hv
  have fin : EP X pins σ Q u s := ⟨v, H, I, r, h⟩
  rcases l with ⟨hk, hm⟩ | ⟨hk, c, hc, hcell⟩
  · exact wpAny_Name (wpAny_loadName_local I.ok.kind hk hn hm fin) hd
  · rcases hk with hk | hk
    · exact wpAny_Name (wpAny_loadName_cell I.ok.kind hk hc hcell fin) hd
    · exact wpAny_Name (wpAny_loadName_free I.ok.kind hk hc hcell fin hcd) hd
theorem pe_int {i j pos} : PE X (.Constant (.int i) j pos) (tC (.int i)) := fun _ _ _ H _ I h => wpAny_Constant_int ⟨.int i, H, I.tok _, ⟨_, rfl⟩, h⟩
theorem pe_bl {b j pos} : PE X (.Constant (.bool b) j pos) (tC (.bl b)) := fun _ _ _ H _ I h => Constant_bool ⟨.bl b, H, I, rfl, h⟩
theorem pe_non {j pos} : PE X (.Constant .none j pos) (tC .non) := fun _ _ _ H _ I h => Constant_none ⟨.non, H, I, rfl, h⟩
theorem pe_str {x j pos} : PE X (.Constant (.str x) j pos) (tC (.str x)) := fun _ _ _ H _ I h => Calls.Constant_str ⟨.str x, H, I.tok _, ⟨_, rfl⟩, h⟩

/-- a global name of the def -/
def Gl (X : Cx) (x : Str) : Prop := X.env.kindOf x = some .globalImplicit
theorem ld_glob {E : Value → Shared → Prop} {pins : List (Addr × Obj)} {s : Shared} {σ : St} {H : Hp} {x : Str} {u : Value} {pos : Pos} {Q : Value → Shared → Prop} (I : Inv X pins σ H s) (hg : Gl X x) (hm : X.mg x = some u) (h : Q u s)
    (hd : (x == ("__debug__" : Str)) = false := by decide) : wpAny (model X.prog X.w) X.A (eval (.Name x pos) X.env) Q E s :=
  Calls.Name_function_global I.ok.kind hg (Calls.loadGlobal_global (by rw [I.ok.glob]; exact I.mod.glob.keeps I.bk) hm h) hd
theorem ld_blt {E : Value → Shared → Prop} {pins : List (Addr × Obj)} {s : Shared} {σ : St} {H : Hp} {x : Str} {u : Value} {pos : Pos} {Q : Value → Shared → Prop} (I : Inv X pins σ H s) (hg : Gl X x) (hm : X.mg x = none) (hv : bootBuiltins x = some u) (h : Q u s)
    (hn : x ≠ "__name__" := by decide) (hd : (x == ("__debug__" : Str)) = false := by decide) : wpAny (model X.prog X.w) X.A (eval (.Name x pos) X.env) Q E s := by
  obtain ⟨mb, h1, h2⟩ := I.mod.blt
  exact Calls.Name_function_global I.ok.kind hg (Calls.loadGlobal_builtin (by rw [I.ok.glob]; exact I.mod.glob.keeps I.bk) hm (by rw [I.ok.blt]; exact h1.keeps I.bk) ((h2 x hn).trans hv) h) hd
/-- a module's constant, a class, a function, as a value -/
theorem pe_glob {x : Str} {v : V} {u : Value} {pos : Pos} (hg : Gl X x) (hm : X.mg x = some u) (r : RelV v u) (hd : (x == ("__debug__" : Str)) = false := by decide) : PE X (.Name x pos) (tC v) :=
  fun _ _ _ H _ I h => ld_glob I hg hm ⟨v, H, I, r, h⟩ hd
theorem pe_bltn {x : Str} {v : V} {u : Value} {pos : Pos} (hg : Gl X x) (hm : X.mg x = none) (hv : bootBuiltins x = some u) (r : RelV v u) (hn : x ≠ "__name__" := by decide) (hd : (x == ("__debug__" : Str)) = false := by decide) : PE X (.Name x pos) (tC v) :=
  fun _ _ _ H _ I h => ld_blt I hg hm hv ⟨v, H, I, r, h⟩ hn hd

/-! ### arithmetic -/
/-- two ints -/
def t2I (ta tb : TE) (k : Int → Int → Hp → Prop) : St → Hp → Prop := fun σ H => ta σ H fun x H1 => tb σ H1 fun y H2 => ∃ i j, x = .int i ∧ y = .int j ∧ k i j H2
def tAdd (ta tb : TE) : TE := fun σ H Q => t2I ta tb (fun i j H2 => Q (.int (i + j)) H2) σ H
def tSub (ta tb : TE) : TE := fun σ H Q => t2I ta tb (fun i j H2 => Q (.int (i - j)) H2) σ H
/-- the left factor below 2^64 -/
def tMul (ta tb : TE) : TE := fun σ H Q => t2I ta tb (fun i j H2 => (-(2 ^ 64) < i ∧ i < 2 ^ 64) ∧ Q (.int (i * j)) H2) σ H
variable {a b : Expr} {ta tb : TE} {pos : Pos}




/-! ### comparisons -/
def PC (X : Cx) (op : CmpOp) (a b : Expr) (t : TE) : Prop :=
  ∀ (pins : List (Addr × Obj)) (s : Shared) (σ : St) (H : Hp) (Q : VK), Inv X pins σ H s → t σ H Q →
    wpAny (model X.prog X.w) X.A (eval a X.env) (fun v s₁ => wpAny (model X.prog X.w) X.A (eval b X.env) (fun u s₂ => wpAny (model X.prog X.w) X.A (compareOp op v u) (EP X pins σ Q) X.xe s₂) X.xe s₁) X.xe s

def tCmp (p : Int → Int → Bool) (ta tb : TE) : TE := fun σ H Q => t2I ta tb (fun i j H2 => Q (.bl (p i j)) H2) σ H
abbrev tLt : TE → TE → TE := tCmp fun i j => decide (i < j)
abbrev tLe : TE → TE → TE := tCmp fun i j => decide (i ≤ j)
abbrev tGt : TE → TE → TE := tCmp fun i j => decide (j < i)
abbrev tGe : TE → TE → TE := tCmp fun i j => decide (j ≤ i)
abbrev tEqI : TE → TE → TE := tCmp fun i j => decide (i = j)
abbrev tNeI : TE → TE → TE := tCmp fun i j => !decide (i = j)







/-- is None -/
def tIsN (ta : TE) : TE := fun σ H Q => ta σ H fun x H1 => Q (.bl (decide (x = .non))) H1
def tNotN (ta : TE) : TE := fun σ H Q => ta σ H fun x H1 => Q (.bl (!decide (x = .non))) H1



/-- a comparison as a value, as a test -/
def tB (t : TE) : TT := fun σ H Q => t σ H fun x H1 => ∃ c, x = .bl c ∧ Q c H1


/-- an expression whose value is a bool, as a test -/
theorem pt_val {e : Expr} {t : TE} (h : PE X e t) (he : ∀ whole, isTrue e X.env whole = (do let v ← whole; standAt e.pos; holding [v] (truthy v)) := by intro _; rfl) : PT X e (tB t) := by
  intro pins s σ H Q I hw
  refine isTrue_plain (thn (h pins s σ H _ I hw) fun v s1 ⟨x, H1, I1, r1, q1⟩ => ?_) (he _)
  obtain ⟨d, rfl, q⟩ := q1
  cases r1
  exact wpAny_truthy_bool ⟨H1, I1, q⟩

/-! ### and, or, not -/
variable {tA tB' : TT} {rest : List Expr}
def tAnd (t u : TT) : TT := fun σ H Q => t σ H fun c H1 => if c = true then u σ H1 Q else Q false H1
def tOr (t u : TT) : TT := fun σ H Q => t σ H fun c H1 => if c = true then Q true H1 else u σ H1 Q
def tNot (t : TT) : TT := fun σ H Q => t σ H fun c H1 => Q (!c) H1
theorem pw_and1 (ha : PT X a tA) : PW X (.BoolOp .And [a] pos) tA := by
  intro wh pins s σ H Q I h
  refine isTrue_and (thn (ha pins s σ H Q I h) fun c s1 e => ?_)
  cases c with
  | true => exact isTrue_and_nil e
  | false => exact e
theorem pw_or1 (ha : PT X a tA) : PW X (.BoolOp .Or [a] pos) tA := by
  intro wh pins s σ H Q I h
  refine isTrue_or (thn (ha pins s σ H Q I h) fun c s1 e => ?_)
  cases c with
  | false => exact isTrue_or_nil e
  | true => exact e
theorem pw_and (ha : PT X a tA) (hb : PW X (.BoolOp .And (b :: rest) pos) tB') : PW X (.BoolOp .And (a :: b :: rest) pos) (tAnd tA tB') := by
  intro wh pins s σ H Q I h
  refine isTrue_and (thn (ha pins s σ H _ I h) fun c s1 ⟨H1, I1, q1⟩ => ?_)
  cases c with
  | true => exact hb wh pins s1 σ H1 Q I1 q1
  | false => exact ⟨H1, I1, q1⟩
theorem pw_or (ha : PT X a tA) (hb : PW X (.BoolOp .Or (b :: rest) pos) tB') : PW X (.BoolOp .Or (a :: b :: rest) pos) (tOr tA tB') := by
  intro wh pins s σ H Q I h
  refine isTrue_or (thn (ha pins s σ H _ I h) fun c s1 ⟨H1, I1, q1⟩ => ?_)
  cases c with
  | true => exact ⟨H1, I1, q1⟩
  | false => exact hb wh pins s1 σ H1 Q I1 q1
theorem pt_not (ha : PT X a tA) : PT X (.UnaryOp .Not a pos) (tNot tA) := by
  intro pins s σ H Q I h
  exact isTrue_not (ha pins s σ H (fun c H1 => Q (!c) H1) I h)
/-- .. as values (bools) -/
def tAndV (ta tb : TE) : TE := fun σ H Q => ta σ H fun x H1 => ∃ c, x = .bl c ∧ if c = true then tb σ H1 Q else Q (.bl false) H1
def tOrV (ta tb : TE) : TE := fun σ H Q => ta σ H fun x H1 => ∃ c, x = .bl c ∧ if c = true then Q (.bl true) H1 else tb σ H1 Q
def tNotV (ta : TE) : TE := fun σ H Q => ta σ H fun x H1 => ∃ c, x = .bl c ∧ Q (.bl (!c)) H1
theorem pe_one {op} {t : TE} (h : PE X a t) : PE X (.BoolOp op [a] pos) t := fun pins s σ H Q I hw => BoolOp_one (h pins s σ H Q I hw)
theorem pe_and (ha : PE X a ta) (hb : PE X (.BoolOp .And (b :: rest) pos) tb) : PE X (.BoolOp .And (a :: b :: rest) pos) (tAndV ta tb) := by
  intro pins s σ H Q I h
  refine BoolOp_and (thn (ha pins s σ H _ I h) fun v s1 ⟨x, H1, I1, r1, q1⟩ => ?_)
  obtain ⟨c, rfl, q1⟩ := q1
  cases r1
  refine wpAny_truthy_bool ?_
  cases c with
  | true => exact hb pins s1 σ H1 Q I1 q1
  | false => exact ⟨.bl false, H1, I1, rfl, q1⟩
theorem pe_or (ha : PE X a ta) (hb : PE X (.BoolOp .Or (b :: rest) pos) tb) : PE X (.BoolOp .Or (a :: b :: rest) pos) (tOrV ta tb) := by
  intro pins s σ H Q I h
  refine BoolOp_or (thn (ha pins s σ H _ I h) fun v s1 ⟨x, H1, I1, r1, q1⟩ => ?_)
  obtain ⟨c, rfl, q1⟩ := q1
  cases r1
  refine wpAny_truthy_bool ?_
  cases c with
  | false => exact hb pins s1 σ H1 Q I1 q1
  | true => exact ⟨.bl true, H1, I1, rfl, q1⟩
theorem pe_not (ha : PE X a ta) : PE X (.UnaryOp .Not a pos) (tNotV ta) := by
  intro pins s σ H Q I h
  refine UnaryOp_ (thn (ha pins s σ H _ I h) fun v s1 ⟨x, H1, I1, r1, q1⟩ => ?_)
  obtain ⟨c, rfl, q1⟩ := q1
  cases r1
  exact not_of (wpAny_truthy_bool ⟨.bl (!c), H1, I1, rfl, q1⟩)
/-- a if t else b -/
def tIf (t : TT) (ta tb : TE) : TE := fun σ H Q => t σ H fun c H1 => if c = true then ta σ H1 Q else tb σ H1 Q

end
end L2

namespace L2
open PySem PySem.Spec PyProof.Rows

/-! ### a list, a tuple that is read: tracked, frozen, or an object of the module -/
def SqL (K : PySem.W.Frag) (H : Hp) (a : Addr) (xs : List V) : Prop :=
  Rd H a (.lst xs) ∨
    ∃ (o : Obj) (its : Array Value) (n : Nat), K.lookup a = some o ∧ o.cls = .type "list" ∧ o.dict = none ∧ o.data = .seq its n ∧ its.size ≤ sizeLine ∧ Vals xs its.toList
def SqT (K : PySem.W.Frag) (H : Hp) (a : Addr) (xs : List V) : Prop :=
  Rd H a (.tup xs) ∨
    ∃ (o : Obj) (its : Array Value) (n : Nat), K.lookup a = some o ∧ o.cls = .type "tuple" ∧ o.data = .seq its n ∧ its.size ≤ sizeLine ∧ Vals xs its.toList
def absV : Value → Option V
  | .none => some .non
  | .bool b => some (.bl b)
  | .int i _ => some (.int i)
  | .str x _ => some (.str x)
  | .bytes b _ => some (.byt b)
  | .float b _ => some (.flt b)
  | .ref a => some (.ref a)
  | .type n => some (.ty n)
  | _ => none
theorem RelV.abs {x : V} {u : Value} (r : RelV x u) : absV u = some x := by
  cases x with
  | non => cases r; rfl
  | bl _ => cases r; rfl
  | int _ => obtain ⟨t, rfl⟩ := r; rfl
  | str _ => obtain ⟨t, rfl⟩ := r; rfl
  | byt _ => obtain ⟨t, rfl⟩ := r; rfl
  | flt _ => obtain ⟨t, rfl⟩ := r; rfl
  | ref _ => cases r; rfl
  | ty _ => cases r; rfl
theorem RelV.inj {x y : V} {u : Value} (r : RelV x u) (q : RelV y u) : x = y := Option.some.inj (r.abs.symm.trans q.abs)
theorem Vals.inj : ∀ {xs ys : List V} {us : List Value}, Vals xs us → Vals ys us → xs = ys
  | _, _, _, .nil, .nil => rfl
  | _, _, _, .cons r t, .cons r' t' => by rw [r.inj r', Vals.inj t t']
section
variable {X : Cx} {pins : List (Addr × Obj)} {σ : St} {H : Hp} {s : Shared} {a : Addr} {xs ys : List V}
theorem SqL.of {K : PySem.W.Frag} (h : H a = some (.lst xs)) : SqL K H a xs := .inl (.inl h)
theorem SqT.of {K : PySem.W.Frag} (h : H a = some (.tup xs)) : SqT K H a xs := .inl (.inl h)
theorem Inv.list (I : Inv X pins σ H s) (h : SqL X.K H a xs) : ∃ its : List Value, Vals xs its ∧ PlainL s.heap a its.toArray ∧ xs.length ≤ sizeLine := by
  rcases h with h | ⟨o, its, n, hk, hc, hd, hs, hz, r⟩
  · obtain ⟨z, its, n, r, e⟩ := h.ok I.hok
    exact ⟨its, r, ⟨_, n, e, rfl, rfl, rfl⟩, z⟩
  · refine ⟨its.toList, r, ⟨o, n, I.kIn a o hk, hc, hd, by simpa using hs⟩, ?_⟩
    have e := r.length
    simp only [Array.length_toList] at e
    omega
theorem Inv.tuple (I : Inv X pins σ H s) (h : SqT X.K H a xs) : ∃ its : List Value, Vals xs its ∧ IsTup s.heap a its.toArray ∧ xs.length ≤ sizeLine := by
  rcases h with h | ⟨o, its, n, hk, hc, hs, hz, r⟩
  · obtain ⟨z, its, r, p⟩ := h.ok I.hok
    exact ⟨its, r, p, z⟩
  · refine ⟨its.toList, r, ⟨o, I.kIn a o hk, hc, n, by simpa using hs⟩, ?_⟩
    have e := r.length
    simp only [Array.length_toList] at e
    omega
theorem Inv.list_inj (I : Inv X pins σ H s) (h : SqL X.K H a xs) (h' : SqL X.K H a ys) : xs = ys := by
  obtain ⟨its, r, ⟨o, n, e, _, _, d⟩, _⟩ := I.list h
  obtain ⟨its', r', ⟨o', n', e', _, _, d'⟩, _⟩ := I.list h'
  rw [e] at e'; cases e'
  rw [d] at d'
  injection d' with d1 _
  have : its = its' := by simpa using congrArg Array.toList d1
  subst this
  exact r.inj r'
theorem Inv.tuple_inj (I : Inv X pins σ H s) (h : SqT X.K H a xs) (h' : SqT X.K H a ys) : xs = ys := by
  obtain ⟨its, r, ⟨o, e, _, n, d⟩, _⟩ := I.tuple h
  obtain ⟨its', r', ⟨o', e', _, n', d'⟩, _⟩ := I.tuple h'
  rw [e] at e'; cases e'
  rw [d] at d'
  injection d' with d1 _
  have : its = its' := by simpa using congrArg Array.toList d1
  subst this
  exact r.inj r'
end

/-! ### another wish about exceptions -/
abbrev Cx.wish (X : Cx) (E : Value → Shared → Prop) : Cx := { X with xe := E }
/-- no exception leaves -/
abbrev Cx.nox (X : Cx) : Cx := X.wish fun _ _ => False
theorem Cx.Ok.wish {X : Cx} (ok : X.Ok) (E : Value → Shared → Prop) : (X.wish E).Ok :=
  ⟨ok.mod, ok.kind, ok.glob, ok.blt, ok.above, ok.inj, ok.has, ok.cab, ok.hd, ok.frames, ok.stk, ok.exf, ok.bs, ok.bsz, ok.noex, ok.exfs, ok.funs, ok.frf⟩
theorem Cx.Ok.unwish {X : Cx} {E : Value → Shared → Prop} (ok : (X.wish E).Ok) : X.Ok :=
  ⟨ok.mod, ok.kind, ok.glob, ok.blt, ok.above, ok.inj, ok.has, ok.cab, ok.hd, ok.frames, ok.stk, ok.exf, ok.bs, ok.bsz, ok.noex, ok.exfs, ok.funs, ok.frf⟩
section
variable {X : Cx} {pins : List (Addr × Obj)} {σ : St} {H : Hp} {s : Shared} {E : Value → Shared → Prop}
theorem Inv.wish (I : Inv X pins σ H s) (E : Value → Shared → Prop) : Inv (X.wish E) pins σ H s := ⟨I.ok.wish E, I.os, I.bare, I.base, I.loc, I.cell, I.free, I.freeC, I.pin, I.hok, I.len⟩
theorem Inv.unwish (I : Inv (X.wish E) pins σ H s) : Inv X pins σ H s := ⟨I.ok.unwish, I.os, I.bare, I.base, I.loc, I.cell, I.free, I.freeC, I.pin, I.hok, I.len⟩
theorem SP.unwish {D : Ends} {f : Flow} {s' : Shared} (h : SP (X.wish E) pins D f s') : SP X pins D f s' := by
  cases f with
  | next => obtain ⟨σ', H', I, q⟩ := h; exact ⟨σ', H', I.unwish, q⟩
  | brk => obtain ⟨σ', H', I, q⟩ := h; exact ⟨σ', H', I.unwish, q⟩
  | cont => obtain ⟨σ', H', I, q⟩ := h; exact ⟨σ', H', I.unwish, q⟩
  | ret u => obtain ⟨v, σ', H', I, r, q⟩ := h; exact ⟨v, σ', H', I.unwish, r, q⟩


theorem PSs.nox {st : List Stmt} {t : TS} (h : PSs X.nox st t) : PSs X st t := fun pins s σ H D I hw =>
  wpAny_mono (h pins s σ H D (I.wish _) hw) (fun _ _ q => q.unwish) fun _ _ z => False.elim z
end

/-! ### blocks and small statements -/
section
variable {X : Cx} {st : Stmt} {rest : List Stmt} {t u : TS} {e : Expr} {te : TE} {pos : Pos}
def tNext : TS := fun D σ H => D.nx σ H
def tSeq (t u : TS) : TS := fun D σ H => t { D with nx := u D } σ H
theorem pss_nil : PSs X [] tNext := fun _ _ σ H _ I h => wpAny_execs_nil ⟨σ, H, I, h⟩
theorem pss_cons (h1 : PS X st t) (h2 : PSs X rest u) : PSs X (st :: rest) (tSeq t u) := by
  intro pins s σ H D I h
  refine wpAny_execs_cons (thn (h1 pins s σ H { D with nx := u D } I h) fun f s1 q => ?_)
  cases f with
  | next =>
    obtain ⟨σ', H', I', q⟩ := q
    exact h2 pins s1 σ' H' D I' q
  | ret v => exact q
  | brk => exact q
  | cont => exact q
theorem pss_one (h1 : PS X st t) : PSs X [st] t := by
  intro pins s σ H D I h
  refine wpAny_execs_cons (thn (h1 pins s σ H D I h) fun f s1 q => ?_)
  cases f with
  | next => exact wpAny_execs_nil q
  | ret v => exact q
  | brk => exact q
  | cont => exact q
def tBreak : TS := fun D σ H => D.bk σ H
def tCont : TS := fun D σ H => D.ct σ H



/-- in a def's body nothing is shown -/
theorem Inv.quiet {pins : List (Addr × Obj)} {σ : St} {H : Hp} {s : Shared} (I : Inv X pins σ H s) : interactive X.env = false := by simp [interactive, I.ok.kind]

/-- an expression whose value is dropped -/
def tDrop (te : TE) : TS := fun D σ H => te σ H fun _ H1 => D.nx σ H1
theorem ps_expr (he : PE X e te) (hs : swapsWith e none pos.line X.env = pure false := by rfl) : PS X (.Expr e pos) (tDrop te) := by
  intro pins s σ H D I h
  exact wpAny_Expr_any (thn (he pins s σ H _ I h) fun v s1 ⟨x, H1, I1, r1, q1⟩ => ⟨σ, H1, I1, q1⟩) I.quiet hs
def tRet (te : TE) : TS := fun D σ H => te σ H D.rt
theorem ps_ret (he : PE X e te) : PS X (.Return (some e) pos) (tRet te) := by
  intro pins s σ H D I h
  exact wpAny_Return_some (thn (he pins s σ H _ I h) fun v s1 ⟨x, H1, I1, r1, q1⟩ => ⟨x, σ, H1, I1, r1, q1⟩)
def tRetN : TS := fun D _ H => D.rt .non H

def tIfS (c : TT) (t u : TS) : TS := fun D σ H => c σ H fun b H1 => if b = true then t D σ H1 else u D σ H1
theorem ps_if {c : Expr} {a b : List Stmt} {tc : TT} (hc : PT X c tc) (ha : PSs X a t) (hb : PSs X b u) : PS X (.If c a b pos) (tIfS tc t u) := by
  intro pins s σ H D I h
  refine wpAny_If (thn (hc pins s σ H _ I h) fun d s1 ⟨H1, I1, q1⟩ => ?_)
  cases d with
  | true => exact ha pins s1 σ H1 D I1 q1
  | false => exact hb pins s1 σ H1 D I1 q1
/-- code that the proof never comes to -/
def tNever : TS := fun _ _ _ => False

theorem pss_never {sts : List Stmt} : PSs X sts tNever := fun _ _ _ _ _ _ h => h.elim
end

/-! ### targets -/
abbrev TG := V → St → Hp → (St → Hp → Prop) → Prop
abbrev TGs := List V → St → Hp → (St → Hp → Prop) → Prop
def PG (X : Cx) (target : Expr) (t : TG) : Prop :=
  ∀ (pins : List (Addr × Obj)) (s : Shared) (σ : St) (H : Hp) (v : V) (u : Value) (Q : St → Hp → Prop), Inv X pins σ H s → RelV v u → t v σ H Q →
    wpAny (model X.prog X.w) X.A (assign target X.env u) (fun _ s' => ∃ σ' H', Inv X pins σ' H' s' ∧ Q σ' H') X.xe s
/-- several targets, one after another -/
def PGs (X : Cx) (ts : List Expr) (t : TGs) : Prop :=
  ∀ (pins : List (Addr × Obj)) (s : Shared) (σ : St) (H : Hp) (vs : List V) (us : List Value) (Q : St → Hp → Prop), Inv X pins σ H s → Vals vs us → t vs σ H Q →
    wpAny (model X.prog X.w) X.A (assignInOrder ((assignEach ts X.env).map (·.2)) us) (fun _ s' => ∃ σ' H', Inv X pins σ' H' s' ∧ Q σ' H') X.xe s
/-- o[i] = v, by values -/
abbrev TSet := V → V → V → Hp → (Hp → Prop) → Prop
def PSet (X : Cx) (t : TSet) : Prop :=
  ∀ (pins : List (Addr × Obj)) (s : Shared) (σ : St) (H : Hp) (o i v : V) (ov iv u : Value) (Q : Hp → Prop), Inv X pins σ H s → RelV o ov → RelV i iv → RelV v u → t o i v H Q →
    wpAny (model X.prog X.w) X.A (setItem ov iv u) (fun _ s' => ∃ H', Inv X pins σ H' s' ∧ Q H') X.xe s
/-- a op= b, by values -/
abbrev TIp := V → V → Hp → VK → Prop
def PIp (X : Cx) (op : Operator) (t : TIp) : Prop :=
  ∀ (pins : List (Addr × Obj)) (s : Shared) (σ : St) (H : Hp) (x y : V) (v u : Value) (Q : VK), Inv X pins σ H s → RelV x v → RelV y u → t x y H Q →
    wpAny (model X.prog X.w) X.A (inplaceOp op v u) (EP X pins σ Q) X.xe s
section
variable {X : Cx} {pos : Pos}
def gName (i : Nat) : TG := fun v σ H Q => Q (σ.set i (some v)) H
theorem pg_name {i : Nat} {x : Str} (hN : X.N.Nodup) (hi : X.N[i]? = some x) (hx : Loc X.env.scope x) (hf : X.fn x = true ∨ X.env.scope.names.lookup x = some .local := by first | exact .inl rfl | exact .inr rfl | assumption) : PG X (.Name x pos) (gName i) := by
  intro pins s σ H v u Q I r h
  exact wpAny_assign_Name (store_ok I hN hi hx r (fun s' I' => ⟨_, H, I', h⟩) hf)
def gNil : TGs := fun vs σ H Q => vs = [] ∧ Q σ H
def gCons (t : TG) (u : TGs) : TGs := fun vs σ H Q => ∃ v r, vs = v :: r ∧ t v σ H fun σ' H' => u r σ' H' Q


/-- (a, b, ..) = a tuple of that length -/
def gTup (K : PySem.W.Frag) (n : Nat) (t : TGs) : TG := fun v σ H Q => ∃ a xs, v = .ref a ∧ SqT K H a xs ∧ xs.length = n ∧ t xs σ H Q

/-- o[i] = .. -/
def gSub (to ti : TE) (t : TSet) : TG := fun v σ H Q => to σ H fun o H1 => ti σ H1 fun i H2 => t o i v H2 fun H3 => Q σ H3
theorem pg_sub {o i : Expr} {to ti : TE} {t : TSet} (ho : PE X o to) (hi : PE X i ti) (hs : PSet X t)
    (ha : ∀ v, assign (.Subscript o i pos) X.env v = (do
      let ov ← holding [v] (eval o X.env)
      let iv ← holding [v, ov] (eval i X.env)
      standAt pos
      holding [v, ov, iv] (setItem ov iv v)
      release [v, ov, iv] []) := by intro _; rfl) : PG X (.Subscript o i pos) (gSub to ti t) := by
  intro pins s σ H v u Q I r h
  rw [ha]
  refine wpAny_bind (wpAny_holding (thn (ho pins s σ H _ I h) fun ov s1 ⟨x, H1, I1, r1, q1⟩ => ?_))
  refine wpAny_bind (wpAny_holding (thn (hi pins s1 σ H1 _ I1 q1) fun iv s2 ⟨y, H2, I2, r2, q2⟩ => ?_))
  refine wpAny_bind (wpAny_standAt (wpAny_bind (wpAny_holding (thn (hs pins s2 σ H2 x y v ov iv u _ I2 r1 r2 r q2) fun _ s3 ⟨H3, I3, q3⟩ => ?_))))
  exact wpAny_release ⟨σ, H3, I3, q3⟩
/-- target = value -/
def tAsg (te : TE) (g : TG) : TS := fun D σ H => te σ H fun x H1 => g x σ H1 D.nx
theorem ps_asg {tg e : Expr} {te : TE} {g : TG} (he : PE X e te) (hg : PG X tg g) (hs : swapsWithSole [tg] e pos.line X.env = pure false := by rfl) (hw : swappedStores [tg] e X.env = pure none := by rfl)
    (h1 : (assignEach [tg] X.env).map (·.2) = [assign tg X.env] := by rfl) : PS X (.Assign [tg] e pos) (tAsg te g) := by
  intro pins s σ H D I h
  refine wpAny_Assign_stores (thn (he pins s σ H _ I h) fun v s1 ⟨x, H1, I1, r1, q1⟩ => ?_) hs hw
  rw [h1]
  exact thn (hg pins s1 σ H1 x v _ I1 r1 q1) fun _ s2 q => q
/-- name = value -/
theorem ps_set {i : Nat} {x : Str} {e : Expr} {te : TE} {pos' : Pos} (hN : X.N.Nodup) (hi : X.N[i]? = some x) (hx : Loc X.env.scope x) (he : PE X e te) (hs : swapsWith e (some (.Name x pos')) pos.line X.env = pure false := by rfl) (hf : X.fn x = true ∨ X.env.scope.names.lookup x = some .local := by first | exact .inl rfl | exact .inr rfl | assumption) :
    PS X (.Assign [.Name x pos'] e pos) (tAsg te (gName i)) := by
  intro pins s σ H D I h
  refine wpAny_Assign_Name (thn (he pins s σ H _ I h) fun v s1 ⟨y, H1, I1, r1, q1⟩ => ?_) hs
  exact store_ok I1 hN hi hx r1 (fun s2 I2 => ⟨_, H1, I2, q1⟩) hf
/-- a, b = x, y with plain local names: stored from the right; the pair itself is not tracked (the opening rows as in PyProof/Rows/TupAssign.lean:23) -/
def tPar (i j : Nat) (ta : TA) : TS := fun D σ H => ta σ H fun vs H1 => ∃ v w, vs = [v, w] ∧ D.nx ((σ.set i (some v)).set j (some w)) H1

/-- name op= e -/
def tAug (i : Nat) (te : TE) (ti : TIp) : TS := fun D σ H => ∃ x, σ[i]? = some (some x) ∧ te σ H fun y H1 => ti x y H1 fun z H2 => D.nx (σ.set i (some z)) H2

/-- o[i] op= e -/
def tAugS (to ti te : TE) (tget : V → V → Hp → VK → Prop) (tip : TIp) (tset : TSet) : TS := fun D σ H => to σ H fun o H1 => ti σ H1 fun i H2 => tget o i H2 fun x H3 => te σ H3 fun y H4 => tip x y H4 fun z H5 => tset o i z H5 fun H6 => D.nx σ H6
/-- o[i], by values -/
def PGet (X : Cx) (t : V → V → Hp → VK → Prop) : Prop :=
  ∀ (pins : List (Addr × Obj)) (s : Shared) (σ : St) (H : Hp) (o i : V) (ov iv : Value) (Q : VK), Inv X pins σ H s → RelV o ov → RelV i iv → t o i H Q →
    wpAny (model X.prog X.w) X.A (getItem ov iv) (EP X pins σ Q) X.xe s

/-- ints -/
def ipI (f : Int → Int → Int) : TIp := fun x y H Q => ∃ i j, x = .int i ∧ y = .int j ∧ Q (.int (f i j)) H


end

/-! ### while -/
section
variable {X : Cx} {pos : Pos}
/-- the invariant W with its measure -/
def tWhile (c : TT) (tb : TS) : TS := fun D σ H => ∃ W : Nat → St → Hp → Prop, (∃ m, W m σ H) ∧ ∀ m σ H, W m σ H →
  c σ H fun b H1 => if b = true then ∃ N : St → Hp → Prop, (∀ σ' H', N σ' H' → ∃ m', m' < m ∧ W m' σ' H') ∧ tb { D with nx := N, ct := N, bk := D.nx } σ H1 else D.nx σ H1

end

/-! ### what a loop or a comprehension walks -/
/-- at turn i: it yields x (the heap may grow), or it stops -/
structure It where
  go : Nat → Hp → Prop
  yld : Nat → Hp → V → Hp → Prop
  stop : Nat → Hp → Prop
/-- the iterator's own objects may turn: they are not the frame's, not pinned, younger than the entry (or a comprehension's own) -/
def FpOk (X : Cx) (pins : List (Addr × Obj)) (H : Hp) (b : Addr) : Prop :=
  H b = none ∧ b ≠ X.env.locals ∧ b ∉ X.fs ∧ (b ∈ X.ex ∨ X.s₀.heap.objs.size ≤ b) ∧ (∀ x c, X.env.cells.lookup x = some c → c ≠ b) ∧ ∀ p ∈ X.pn ++ pins, p.1 ≠ b
theorem Inv.fpOk {X : Cx} {pins : List (Addr × Obj)} {σ : St} {H H' : Hp} {s : Shared} {b : Addr} (I : Inv X pins σ H s) (hb : s.heap.objs.size ≤ b) (hn : H' b = none) : FpOk X pins H' b := by
  refine ⟨hn, Nat.ne_of_gt (Nat.lt_of_lt_of_le I.lt hb), I.nofs hb, .inr (Nat.le_trans I.sz hb), fun x c e z => ?_, fun p hp z => ?_⟩
  · obtain ⟨v, q⟩ := I.cell x c e
    exact absurd (Nat.lt_of_lt_of_le q.lt (by rw [z]; exact hb)) (Nat.lt_irrefl _)
  · exact absurd (Nat.lt_of_lt_of_le (Heap.lt_size (I.pin p hp).1) (by rw [z]; exact hb)) (Nat.lt_irrefl _)
structure Turn (P : Program) (w : World) (K : PySem.W.Frag) (tg : Expr) (J : It) (fp : List Addr) (it : Addr) (tn : Nat → Heap → Prop) : Prop where
  mem : it ∈ fp
  obj : ∀ i h, tn i h → ∀ b ∈ fp, ∃ o, h.get? b = some o ∧ ∀ v, o.data ≠ .cell v
  keep : ∀ i h h', tn i h → (∀ b ∈ fp, ∀ o, h.get? b = some o → h'.get? b = some o) → tn i h'
  item : ∀ (X : Cx), X.prog = P → X.w = w → X.K = K → X.calm = true → ∀ (i : Nat) (pins : List (Addr × Obj)) (s : Shared) (σ : St) (H : Hp) (E : Value → Shared → Prop), Inv X pins σ H s → (∀ b ∈ fp, FpOk X pins H b) → tn i s.heap → J.go i H →
    wpAny (model P w) X.A (pyNext (.ref it)) (fun r s1 => ∃ u, r = some u ∧
      wpAny (model P w) X.A (letOwnedTupleGo tg (.ref it) u) (fun _ s2 => ∃ x H', Inv X pins σ H' s2 ∧ RelV x u ∧ J.yld i H x H' ∧ tn (i + 1) s2.heap ∧ ∀ b ∈ fp, H' b = none) E s1) E s
  done : ∀ (X : Cx), X.prog = P → X.w = w → X.K = K → X.calm = true → ∀ (i : Nat) (pins : List (Addr × Obj)) (s : Shared) (σ : St) (H : Hp) (E : Value → Shared → Prop), Inv X pins σ H s → (∀ b ∈ fp, FpOk X pins H b) → tn i s.heap → J.stop i H →
    wpAny (model P w) X.A (pyNext (.ref it)) (fun r s1 => r = none ∧ Inv X pins σ H s1) E s
  self : ∀ (A : Around) (i : Nat) (s : Shared) (Q : Value → Shared → Prop) (E : Value → Shared → Prop), tn i s.heap → Q (.ref it) s → wpAny (model P w) A (pyIter (.ref it)) Q E s
abbrev TI := St → Hp → (It → Hp → Prop) → Prop
/-- an iterator has come -/
def PIE (X : Cx) (pins : List (Addr × Obj)) (σ : St) (tg : Expr) (R : It → Hp → Prop) (itv : Value) (s2 : Shared) : Prop :=
  ∃ (it : Addr) (fp : List Addr) (tn : Nat → Heap → Prop) (J : It) (H' : Hp), itv = .ref it ∧ Inv X pins σ H' s2 ∧ Turn X.prog X.w X.K tg J fp it tn ∧ tn 0 s2.heap ∧ (∀ b ∈ fp, FpOk X pins H' b) ∧ R J H'
def PI (X : Cx) (tg iter : Expr) (wi : TI) : Prop :=
  ∀ (pins : List (Addr × Obj)) (s : Shared) (σ : St) (H : Hp) (R : It → Hp → Prop), Inv X pins σ H s → wi σ H R →
    wpAny (model X.prog X.w) X.A (eval iter X.env) (fun v s1 => wpAny (model X.prog X.w) X.A (pyIter v) (PIE X pins σ tg R) X.xe s1) X.xe s

/-- the step ahead of the store is nothing for an iterator that keeps no tuple -/
theorem go_of {M : Model} {A : Around} {E : Value → Shared → Prop} {s : Shared} {tg : Expr} {it : Addr} {u : Value} {o : Obj} {n : String} {vs : Array Value} {Q : Unit → Shared → Prop} (ho : s.heap.get? it = some o) (hc : o.cls = .type n) (hd : o.data = .fields vs)
    (hn : ["enumerate", "zip", "dict_itemiterator", "dict_reverseitemiterator", "odict_iterator", "itertools.zip_longest", "itertools.pairwise"].contains n = false) (hQ : Q () s) : wpAny M A (letOwnedTupleGo tg (.ref it) u) Q E s := by
  unfold letOwnedTupleGo
  cases tg <;> first
    | exact wpAny_pure hQ
    | (cases u <;> first
        | exact wpAny_pure hQ
        | (refine wpAny_bind (wpAny_load ho ?_)
           rw [hc, hd]
           show wpAny M A (if (["enumerate", "zip", "dict_itemiterator", "dict_reverseitemiterator", "odict_iterator", "itertools.zip_longest", "itertools.pairwise"].contains n && vs[0]? == some (rawInt _)) = true then _ else _) Q E s
           rw [if_neg (by intro h; rw [hn, Bool.false_and] at h; cases h)]
           exact wpAny_pure hQ))

/-- the list at a, as it stands at each turn (a loop may append to it) -/
def Itl (K : PySem.W.Frag) (a : Addr) : It :=
  ⟨fun i H => ∃ xs x, SqL K H a xs ∧ xs[i]? = some x, fun i H x H' => H' = H ∧ ∀ xs, SqL K H a xs → xs[i]? = some x, fun i H => ∃ xs, SqL K H a xs ∧ xs.length ≤ i⟩
def Itt (K : PySem.W.Frag) (a : Addr) : It :=
  ⟨fun i H => ∃ xs x, SqT K H a xs ∧ xs[i]? = some x, fun i H x H' => H' = H ∧ ∀ xs, SqT K H a xs → xs[i]? = some x, fun i H => ∃ xs, SqT K H a xs ∧ xs.length ≤ i⟩
/-- lo, lo + 1, .. (n of them) -/
def Itr (lo : Int) (n : Nat) : It := ⟨fun i _ => i < n, fun i H x H' => H' = H ∧ x = .int (lo + i), fun i _ => n ≤ i⟩
theorem turn_list {P : Program} {w : World} {K : PySem.W.Frag} {tg : Expr} (a it : Addr) : Turn P w K tg (Itl K a) [it] it (fun i h => h.IsListIter it a i) where
  mem := by simp
  obj := fun i h st b hb => by
    have e : b = it := by simpa using hb
    subst e
    obtain ⟨o, e, c, d⟩ := st
    exact ⟨o, e, fun v z => by rw [d] at z; cases z⟩
  keep := fun i h h' st k => st.at fun o e => k it (by simp) o e
  item := by
    intro X hP hw hK hc i pins s σ H E I hf st hg
    subst hP hw hK
    obtain ⟨xs, x, hq, hx⟩ := hg
    obtain ⟨its, rv, p, hz⟩ := I.list hq
    obtain ⟨u, hu, ru⟩ := rv.get hx
    obtain ⟨f0, f1, f2, f3, f4, f5⟩ := hf it (by simp)
    refine wpAny_pyNext_list_item st p.isList (x := u) (by simpa using hu) fun h' st' sb => ?_
    have I1 : Inv X pins σ H { s with heap := h' } := I.turned (t' := s.toks) (fun b o hb e => (sb.2 b hb).trans e) f0 f1 f3 f4 f5
    obtain ⟨o, e, c, d⟩ := id st'
    exact ⟨u, rfl, go_of (s := { s with heap := h' }) e c d (by decide) ⟨x, H, I1, ru, ⟨rfl, fun ys hy => by rw [I.list_inj hy hq]; exact hx⟩, st', fun b hb => (hf b hb).1⟩⟩
  done := by
    intro X hP hw hK hc i pins s σ H E I hf st hg
    subst hP hw hK
    obtain ⟨xs, hq, hx⟩ := hg
    obtain ⟨its, rv, p, hz⟩ := I.list hq
    obtain ⟨f0, f1, f2, f3, f4, f5⟩ := hf it (by simp)
    have hl := rv.length
    exact wpAny_pyNext_list_end (I.ok.hd hc) st p.isList (by simp; omega) fun h' eb => ⟨rfl, I.turned (t' := s.toks) (fun b o hb e => eb b o hb e) f0 f1 f3 f4 f5⟩
  self := fun _ _ _ _ _ st h => wpAny_pyIter_listiter st h

theorem turn_range {P : Program} {w : World} {K : PySem.W.Frag} {tg : Expr} (it : Addr) (lo : Int) (n : Nat) : Turn P w K tg (Itr lo n) [it] it (fun i h => IsRangeIter h it (lo + (i : Nat) * 1) ((n : Int) - (i : Nat)) 1) where
  mem := by simp
  obj := fun i h st b hb => by
    have e : b = it := by simpa using hb
    subst e
    exact ⟨_, st, fun v z => by
      have z' : Data.fields _ = Data.cell v := z
      cases z'⟩
  keep := fun i h h' st k => k it (by simp) _ st
  item := by
    intro X hP hw hK hc i pins s σ H E I hf st hg
    subst hP hw hK
    obtain ⟨f0, f1, f2, f3, f4, f5⟩ := hf it (by simp)
    have W := Walks.range (prog := X.prog) (w := X.w) (I.ok.hd hc) it lo 1 n
    refine W.item i s _ _ hg st fun v h' tk hv st' kk => ?_
    obtain ⟨t, rfl⟩ := hv
    have I1 : Inv X pins σ H { s with heap := h', toks := tk } := I.turned (fun b o hb e => kk b o (by simpa using hb) e) f0 f1 f3 f4 f5
    refine ⟨_, rfl, go_of (s := { s with heap := h', toks := tk }) (n := "range_iterator") st' rfl rfl (by decide) ⟨.int (lo + i), H, I1, ⟨t, ?_⟩, ⟨rfl, rfl⟩, st', fun b hb => (hf b hb).1⟩⟩
    rw [Int.mul_one]
  done := by
    intro X hP hw hK hc i pins s σ H E I hf st hg
    subst hP hw hK
    obtain ⟨f0, f1, f2, f3, f4, f5⟩ := hf it (by simp)
    exact wpAny_pyNext_range_end (I.ok.hd hc) st (by have : n ≤ i := hg; omega) fun h' eb => ⟨rfl, I.turned (t' := s.toks) (fun b o hb e => eb b o hb e) f0 f1 f3 f4 f5⟩
  self := fun _ _ _ _ _ st h => wpAny_pyIter_rangeiter st h
end L2

namespace L2
open PySem PySem.Spec PyProof.Rows
section
variable {X : Cx} {tg : Expr}
def iList (K : PySem.W.Frag) (tl : TE) : TI := fun σ H R => tl σ H fun x H1 => ∃ a, x = .ref a ∧ (∃ xs, SqL K H1 a xs) ∧ R (Itl K a) H1
def iTup (K : PySem.W.Frag) (tl : TE) : TI := fun σ H R => tl σ H fun x H1 => ∃ a, x = .ref a ∧ (∃ xs, SqT K H1 a xs) ∧ R (Itt K a) H1
theorem pi_list {l : Expr} {tl : TE} (hl : PE X l tl) : PI X tg l (iList X.K tl) := by
  intro pins s σ H R I h
  refine thn (hl pins s σ H _ I h) fun v s1 ⟨x, H1, I1, r1, q1⟩ => ?_
  obtain ⟨a, e, ⟨xs, hq⟩, q⟩ := q1
  subst e
  cases r1
  obtain ⟨its, rv, p, hz⟩ := I1.list hq
  refine wpAny_pyIter_list p.isList ?_
  refine ⟨s1.heap.objs.size, [s1.heap.objs.size], _, _, H1, rfl, I1.kept (t' := s1.toks) fun b o e => Heap.get?_push_of_some _ e, turn_list a _, ⟨_, Heap.get?_push_size _ rfl, rfl, rfl⟩, fun b hb => ?_, q⟩
  have e : b = s1.heap.objs.size := by simpa using hb
  subst e
  exact I1.fpOk (Nat.le_refl _) (I1.hok.fresh (Nat.le_refl _))

/-- a range object just made, walked -/
theorem range_it {pins : List (Addr × Obj)} {σ : St} {H : Hp} {s : Shared} {R : It → Hp → Prop} {E : Value → Shared → Prop} {lo hi : Int} {t u v : Tok} {tk : Nat} (I : Inv X pins σ H s) (h1 : -(2 ^ 62) ≤ lo) (h2 : lo < 2 ^ 62) (h3 : -(2 ^ 62) ≤ hi) (h4 : hi < 2 ^ 62)
    (q : R (Itr lo (hi - lo).toNat) H) : wpAny (model X.prog X.w) X.A (pyIter (.ref s.heap.objs.size)) (PIE X pins σ tg R) E { s with heap := s.heap.push { cls := .type "range", data := .fields #[.int lo t, .int hi u, .int 1 v] }, toks := tk } := by
  refine wpAny_pyIter_range (IsRange.new ..) (small_one h1 h2 h3 h4) ?_
  have I1 : Inv X pins σ H { s with heap := s.heap.push { cls := .type "range", data := .fields #[.int lo t, .int hi u, .int 1 v] }, toks := tk } := I.kept fun b o e => Heap.get?_push_of_some _ e
  refine ⟨(s.heap.push { cls := .type "range", data := .fields #[.int lo t, .int hi u, .int 1 v] }).objs.size, [(s.heap.push { cls := .type "range", data := .fields #[.int lo t, .int hi u, .int 1 v] }).objs.size], _, _, H, rfl,
    I1.kept (t' := tk) fun b o e => Heap.get?_push_of_some _ e, turn_range _ lo (hi - lo).toNat, ?_, fun b hb => ?_, q⟩
  · have e1 : lo + ((0 : Nat) : Int) * 1 = lo := by simp
    have e2 : (((hi - lo).toNat : Nat) : Int) - ((0 : Nat) : Int) = Builtin.Range.rangeSize lo hi 1 := by rw [rangeSize_one]; split <;> omega
    show IsRangeIter _ _ (lo + ((0 : Nat) : Int) * 1) ((((hi - lo).toNat : Nat) : Int) - ((0 : Nat) : Int)) 1
    rw [e1, e2]
    exact Heap.get?_push_size _ rfl
  · have e : b = (s.heap.push { cls := .type "range", data := .fields #[.int lo t, .int hi u, .int 1 v] }).objs.size := by simpa using hb
    subst e
    exact I1.fpOk (Nat.le_refl _) (I1.hok.fresh (Nat.le_refl _))
def iRng1 (ta : TA) : TI := fun σ H R => ta σ H fun vs H1 => ∃ j : Int, vs = [.int j] ∧ -(2 ^ 62) ≤ j ∧ j < 2 ^ 62 ∧ R (Itr 0 j.toNat) H1
def iRng2 (ta : TA) : TI := fun σ H R => ta σ H fun vs H1 => ∃ i j : Int, vs = [.int i, .int j] ∧ (-(2 ^ 62) ≤ i ∧ i < 2 ^ 62 ∧ -(2 ^ 62) ≤ j ∧ j < 2 ^ 62) ∧ R (Itr i (j - i).toNat) H1
theorem pi_range1 {a : Expr} {ta : TA} {p pos : Pos} (hg : Gl X "range") (hm : X.mg "range" = none) (ha : PA X [a] ta) (hs : starEach [a] X.env = [(false, eval a X.env)] := by rfl) : PI X tg (.Call (.Name "range" p) [a] [] pos) (iRng1 ta) := by
  intro pins s σ H R I h
  refine Call_ (ld_blt I hg hm boot_range (PyProof.Rows.callWith_type1 (thn (ha pos pins s σ H _ I h) fun us s1 ⟨vs, H1, I1, r1, q1⟩ => ?_) hs rfl))
  obtain ⟨j, e, q1, q2, q⟩ := q1
  subst e
  cases r1 with
  | cons r rr =>
    cases rr
    obtain ⟨t, rfl⟩ := r
    exact call_range_1 (range_it I1 (by omega) (by omega) q1 q2 (by simpa using q))
theorem pi_range2 {a b : Expr} {ta : TA} {p pos : Pos} (hg : Gl X "range") (hm : X.mg "range" = none) (ha : PA X [a, b] ta) (hs : starEach [a, b] X.env = [(false, eval a X.env), (false, eval b X.env)] := by rfl) (hs2 : starEach [b] X.env = [(false, eval b X.env)] := by rfl) :
    PI X tg (.Call (.Name "range" p) [a, b] [] pos) (iRng2 ta) := by
  intro pins s σ H R I h
  refine Call_ (ld_blt I hg hm boot_range (PyProof.Rows.callWith_type1 (thn (ha pos pins s σ H _ I h) fun us s1 ⟨vs, H1, I1, r1, q1⟩ => ?_) (by rw [hs, hs2]) (by rw [hs2]; rfl)))
  obtain ⟨i, j, e, ⟨q1, q2, q3, q4⟩, q⟩ := q1
  subst e
  cases r1 with
  | cons r rr =>
    cases rr with
    | cons r' rr =>
      cases rr
      obtain ⟨t, rfl⟩ := r
      obtain ⟨t', rfl⟩ := r'
      exact call_range_2 (range_it I1 q1 q2 q3 q4 q)

/-! ### for -/
/-- W: the invariant by the turn and a measure; N: what the body is to reach -/
def tFor (wi : TI) (g : TG) (tb : TS) : TS := fun D σ H => wi σ H fun J H1 => ∃ W : Nat → Nat → St → Hp → Prop, (∃ m, W 0 m σ H1) ∧ ∀ i m σ H, W i m σ H →
  (J.stop i H ∧ D.nx σ H) ∨ (J.go i H ∧ ∃ N : St → Hp → Prop, (∀ σ' H', N σ' H' → ∃ m', m' < m ∧ W (i + 1) m' σ' H') ∧ ∀ x H', J.yld i H x H' → g x σ H' fun σ2 H2 => tb { D with nx := N, ct := N, bk := D.nx } σ2 H2)
/-- the records at fp as they stand -/
def pinsAt (fp : List Addr) (h : Heap) : List (Addr × Obj) := fp.filterMap fun b => (h.get? b).map fun o => (b, o)
theorem mem_pinsAt {fp : List Addr} {h : Heap} {b : Addr} {o : Obj} (hb : b ∈ fp) (e : h.get? b = some o) : (b, o) ∈ pinsAt fp h := List.mem_filterMap.mpr ⟨b, hb, by rw [e]; rfl⟩
theorem of_pinsAt {fp : List Addr} {h : Heap} {p : Addr × Obj} (hp : p ∈ pinsAt fp h) : p.1 ∈ fp ∧ h.get? p.1 = some p.2 := by
  obtain ⟨b, hb, e⟩ := List.mem_filterMap.mp hp
  cases q : h.get? b with
  | none => rw [q] at e; cases e
  | some o =>
    rw [q] at e
    have e' : (b, o) = p := Option.some.inj e
    subst e'
    exact ⟨hb, q⟩
theorem Inv.pinned {pins : List (Addr × Obj)} {σ : St} {H : Hp} {s : Shared} {fp : List Addr} (I : Inv X pins σ H s) (hf : ∀ b ∈ fp, FpOk X pins H b) (ho : ∀ b ∈ fp, ∃ o, s.heap.get? b = some o ∧ ∀ v, o.data ≠ .cell v) : Inv X (pins ++ pinsAt fp s.heap) σ H s :=
  I.pins_of fun p hp => (List.mem_append.mp hp).elim (fun z => I.pin p (List.mem_append_right _ z)) fun z => by
    obtain ⟨hb, e⟩ := of_pinsAt z
    obtain ⟨f0, f1, f2, _⟩ := hf p.1 hb
    obtain ⟨o, e', d⟩ := ho p.1 hb
    rw [e] at e'; cases e'
    exact ⟨e, f0, f1, f2, d⟩
theorem Inv.unpinned {pins pl : List (Addr × Obj)} {σ : St} {H : Hp} {s : Shared} (I : Inv X (pins ++ pl) σ H s) : Inv X pins σ H s := I.pins_of fun p hp => I.pin p (List.mem_append_right _ (List.mem_append_left _ hp))
theorem ps_for {iter : Expr} {body : List Stmt} {wi : TI} {g : TG} {tb : TS} {pos : Pos} (hp : PassesOwn (model X.prog X.w) X.A X.env X.xe) (hc : X.calm = true) (hi : PI X tg iter wi) (hg : PG X tg g) (hb : PSs X body tb)
    (hs : ∀ x, foldedSetIterable iter X.env x = pure x := by intro _; rfl) : PS X (.For tg iter body [] pos) (tFor wi g tb) := by
  intro pins s σ H D I h
  refine wpAny_For (thn (hi pins s σ H _ I h) fun v s1 h1 => thn h1 fun itv s2 h2 => ?_) hs
  obtain ⟨it, fp, tn, J, H2, e, I2, T, st2, f2, W, ⟨m0, w0⟩, turn⟩ := h2
  subst e
  -- what stays true of the iterator's objects through the loop
  have stat : ∀ {H' : Hp}, (∀ b ∈ fp, H' b = none) → ∀ b ∈ fp, FpOk X pins H' b := fun hn b hb => ⟨hn b hb, (f2 b hb).2⟩
  refine codeAny_forLoop_any (fun n s' => ∃ i σ' H', Inv X pins σ' H' s' ∧ tn i s'.heap ∧ (∀ b ∈ fp, H' b = none) ∧ W i n σ' H') ?_ m0 ⟨0, σ, H2, I2, st2, fun b hb => (f2 b hb).1, w0⟩
  rintro n s3 ⟨i, σ3, H3, I3, st3, fr3, w3⟩
  rcases turn i n σ3 H3 w3 with ⟨stop, qn⟩ | ⟨go, N, hN, step⟩
  · refine wpAny_passesOwn hp (thn (T.done X rfl rfl rfl hc i pins s3 σ3 H3 X.xe I3 (stat fr3) st3 stop) fun r s4 ⟨hr, I4⟩ => ?_)
    subst hr
    exact wpAny_execs_nil ⟨σ3, H3, I4, qn⟩
  · refine wpAny_passesOwn hp (thn (T.item X rfl rfl rfl hc i pins s3 σ3 H3 X.xe I3 (stat fr3) st3 go) fun r s4 ⟨u, hr, h4⟩ => ?_)
    subst hr
    refine wpAny_passesOwn hp (thn h4 fun _ s5 ⟨x, H5, I5, r5, y5, st5, fr5⟩ => ?_)
    have I5' := I5.pinned (stat fr5) (T.obj _ _ st5)
    refine wpAny_passesOwn hp (thn (hg _ s5 σ3 H5 x u _ I5' r5 (step x H5 y5)) fun _ s6 ⟨σ6, H6, I6, q6⟩ => ?_)
    refine wpAny_passesOwn hp (thn (hb _ s6 σ6 H6 _ I6 q6) fun f s7 q7 => ?_)
    have again : ∀ {σ7 : St} {H7 : Hp}, Inv X (pins ++ pinsAt fp s5.heap) σ7 H7 s7 → N σ7 H7 → ∃ m, m < n ∧ ∃ i σ' H', Inv X pins σ' H' s7 ∧ tn i s7.heap ∧ (∀ b ∈ fp, H' b = none) ∧ W i m σ' H' := fun {σ7 H7} I7 n7 => by
      obtain ⟨m', hm, w7⟩ := hN σ7 H7 n7
      refine ⟨m', hm, i + 1, σ7, H7, I7.unpinned, T.keep _ _ _ st5 fun b hb o e => (I7.pin (b, o) (List.mem_append_right _ (List.mem_append_right _ (mem_pinsAt hb e)))).1, fun b hb => ?_, w7⟩
      obtain ⟨o, e, d⟩ := T.obj _ _ st5 b hb
      exact (I7.pin (b, o) (List.mem_append_right _ (List.mem_append_right _ (mem_pinsAt hb e)))).2.1
    cases f with
    | next => obtain ⟨σ7, H7, I7, n7⟩ := q7; exact again I7 n7
    | cont => obtain ⟨σ7, H7, I7, n7⟩ := q7; exact again I7 n7
    | brk => obtain ⟨σ7, H7, I7, q7⟩ := q7; exact ⟨σ7, H7, I7.unpinned, q7⟩
    | ret v => obtain ⟨x7, σ7, H7, I7, r7, q7⟩ := q7; exact ⟨x7, σ7, H7, I7.unpinned, r7, q7⟩
end

/-! ### the forms one uses -/
/-- over a list that the body leaves as it is -/
theorem for_list {K : PySem.W.Frag} {a : Addr} {xs : List V} {g : TG} {tb : TS} {D : Ends} {σ : St} {H : Hp} (Pv : Nat → St → Hp → Prop) (h0 : Pv 0 σ H) (hl : ∀ i σ H, i ≤ xs.length → Pv i σ H → SqL K H a xs)
    (hs : ∀ i x σ H, xs[i]? = some x → Pv i σ H → g x σ H fun σ2 H2 => tb { D with nx := Pv (i + 1), ct := Pv (i + 1), bk := D.nx } σ2 H2) (hd : ∀ σ H, Pv xs.length σ H → D.nx σ H) :
    ∃ W : Nat → Nat → St → Hp → Prop, (∃ m, W 0 m σ H) ∧ ∀ i m σ H, W i m σ H →
      ((Itl K a).stop i H ∧ D.nx σ H) ∨ ((Itl K a).go i H ∧ ∃ N : St → Hp → Prop, (∀ σ' H', N σ' H' → ∃ m', m' < m ∧ W (i + 1) m' σ' H') ∧ ∀ x H', (Itl K a).yld i H x H' → g x σ H' fun σ2 H2 => tb { D with nx := N, ct := N, bk := D.nx } σ2 H2) := by
  refine ⟨fun i m σ H => m = xs.length - i ∧ i ≤ xs.length ∧ Pv i σ H, ⟨xs.length, by simp, Nat.zero_le _, h0⟩, ?_⟩
  rintro i m σ H ⟨rfl, hi, p⟩
  have q := hl i σ H hi p
  by_cases hlt : i < xs.length
  · refine .inr ⟨⟨xs, xs[i], q, by simp [hlt]⟩, Pv (i + 1), fun σ' H' p' => ⟨xs.length - (i + 1), by omega, rfl, hlt, p'⟩, fun x H' y => ?_⟩
    obtain ⟨e, y⟩ := y
    subst e
    exact hs i x σ _ (y xs q) p
  · have e : i = xs.length := by omega
    subst e
    exact .inl ⟨⟨xs, q, Nat.le_refl _⟩, hd σ H p⟩

theorem for_range {lo : Int} {n : Nat} {g : TG} {tb : TS} {D : Ends} {σ : St} {H : Hp} (Pv : Nat → St → Hp → Prop) (h0 : Pv 0 σ H)
    (hs : ∀ i σ H, i < n → Pv i σ H → g (.int (lo + i)) σ H fun σ2 H2 => tb { D with nx := Pv (i + 1), ct := Pv (i + 1), bk := D.nx } σ2 H2) (hd : ∀ σ H, Pv n σ H → D.nx σ H) :
    ∃ W : Nat → Nat → St → Hp → Prop, (∃ m, W 0 m σ H) ∧ ∀ i m σ H, W i m σ H →
      ((Itr lo n).stop i H ∧ D.nx σ H) ∨ ((Itr lo n).go i H ∧ ∃ N : St → Hp → Prop, (∀ σ' H', N σ' H' → ∃ m', m' < m ∧ W (i + 1) m' σ' H') ∧ ∀ x H', (Itr lo n).yld i H x H' → g x σ H' fun σ2 H2 => tb { D with nx := N, ct := N, bk := D.nx } σ2 H2) := by
  refine ⟨fun i m σ H => m = n - i ∧ i ≤ n ∧ Pv i σ H, ⟨n, by simp, Nat.zero_le _, h0⟩, ?_⟩
  rintro i m σ H ⟨rfl, hi, p⟩
  by_cases hlt : i < n
  · refine .inr ⟨hlt, Pv (i + 1), fun σ' H' p' => ⟨n - (i + 1), by omega, rfl, hlt, p'⟩, fun x H' y => ?_⟩
    obtain ⟨e, y⟩ := y
    subst e y
    exact hs i σ _ hlt p
  · have e : i = n := by omega
    subst e
    exact .inl ⟨Nat.le_refl _, hd σ H p⟩

end L2

namespace L2
open PySem PySem.Spec PyProof.Rows

abbrev R2 := V → V → Hp → VK → Prop
/-- a two-place operation on values: f is binaryOp op, inplaceOp op or compareOp op -/
def OpR (X : Cx) (f : Value → Value → Sem Value) (r : R2) : Prop :=
  ∀ (pins : List (Addr × Obj)) (s : Shared) (σ : St) (H : Hp) (x y : V) (v u : Value) (Q : VK), Inv X pins σ H s → RelV x v → RelV y u → r x y H Q →
    wpAny (model X.prog X.w) X.A (f v u) (EP X pins σ Q) X.xe s
/-- a one-place operation -/
def UnR (X : Cx) (f : Value → Sem Value) (r : V → Hp → VK → Prop) : Prop :=
  ∀ (pins : List (Addr × Obj)) (s : Shared) (σ : St) (H : Hp) (x : V) (v : Value) (Q : VK), Inv X pins σ H s → RelV x v → r x H Q →
    wpAny (model X.prog X.w) X.A (f v) (EP X pins σ Q) X.xe s
/-- a call of a value that is known (a builtin, a type) with values -/
def CallR (X : Cx) (f : Value) (r : List V → Hp → VK → Prop) : Prop :=
  ∀ (pins : List (Addr × Obj)) (s : Shared) (σ : St) (H : Hp) (xs : List V) (us : List Value) (Q : VK), Inv X pins σ H s → Vals xs us → r xs H Q →
    wpAny (model X.prog X.w) X.A (call f us) (EP X pins σ Q) X.xe s
/-- a value's truth -/
def TruR (X : Cx) (r : V → Hp → (Bool → Hp → Prop) → Prop) : Prop :=
  ∀ (pins : List (Addr × Obj)) (s : Shared) (σ : St) (H : Hp) (x : V) (v : Value) (Q : Bool → Hp → Prop), Inv X pins σ H s → RelV x v → r x H Q →
    wpAny (model X.prog X.w) X.A (truthy v) (TP X pins σ Q) X.xe s

def tOp (r : R2) (ta tb : TE) : TE := fun σ H Q => ta σ H fun x H1 => tb σ H1 fun y H2 => r x y H2 Q
def tUn (r : V → Hp → VK → Prop) (ta : TE) : TE := fun σ H Q => ta σ H fun x H1 => r x H1 Q
/-- ints in, under C, and a value out -/
def rI (C : Int → Int → Prop) (g : Int → Int → V) : R2 := fun x y H Q => ∃ i j, x = .int i ∧ y = .int j ∧ C i j ∧ Q (g i j) H
def rI0 (g : Int → Int → V) : R2 := fun x y H Q => ∃ i j, x = .int i ∧ y = .int j ∧ Q (g i j) H
def rU (g : Int → V) : V → Hp → VK → Prop := fun x H Q => ∃ i, x = .int i ∧ Q (g i) H

section
variable {X : Cx} {a b c : Expr} {ta tb tc : TE} {pos : Pos}

theorem binT (ha : PE X a ta) (hb : PE X b tb) {pins : List (Addr × Obj)} {s : Shared} {σ : St} {H : Hp} {R : V → V → Hp → Prop} (I : Inv X pins σ H s)
    (h : ta σ H fun x H1 => tb σ H1 fun y H2 => R x y H2) {Q : Value → Shared → Prop} {f : Value → Value → Sem Value}
    (hf : ∀ v u s2 x y H2, Inv X pins σ H2 s2 → RelV x v → RelV y u → R x y H2 → wpAny (model X.prog X.w) X.A (f v u) Q X.xe s2) :
    wpAny (model X.prog X.w) X.A (eval a X.env) (fun v s₁ => wpAny (model X.prog X.w) X.A (eval b X.env) (fun u s₂ => wpAny (model X.prog X.w) X.A (f v u) Q X.xe s₂) X.xe s₁) X.xe s := by
  refine thn (ha pins s σ H _ I h) fun v s1 ⟨x, H1, I1, r1, q1⟩ => ?_
  refine thn (hb pins s1 σ H1 _ I1 q1) fun u s2 ⟨y, H2, I2, r2, q2⟩ => ?_
  exact hf v u s2 x y H2 I2 r1 r2 q2

theorem pe_op {op : Operator} {r : R2} (ho : OpR X (binaryOp op) r) (ha : PE X a ta) (hb : PE X b tb) : PE X (.BinOp a op b pos) (tOp r ta tb) := by
  intro pins s σ H Q I h
  exact wpAny_BinOp (binT ha hb I h fun v u s2 x y H2 I2 rx ry q => ho pins s2 σ H2 x y v u Q I2 rx ry q)



/-! ### ints -/
theorem opI {f : Value → Value → Sem Value} {C : Int → Int → Prop} {g : Int → Int → Int}
    (rule : ∀ (i j : Int) (t u : Tok) (s : Shared) (Q : Value → Shared → Prop) (E : Value → Shared → Prop), C i j → Q (.int (g i j) s.toks) { s with toks := s.toks + 1 } → wpAny (model X.prog X.w) X.A (f (.int i t) (.int j u)) Q E s) :
    OpR X f (rI C fun i j => .int (g i j)) := by
  intro pins s σ H x y v u Q I rx ry h
  obtain ⟨i, j, rfl, rfl, hc, q⟩ := h
  obtain ⟨t, rfl⟩ := rx
  obtain ⟨t', rfl⟩ := ry
  exact rule i j t t' s _ _ hc ⟨.int (g i j), H, I.tok _, ⟨_, rfl⟩, q⟩
theorem opI0 {f : Value → Value → Sem Value} {g : Int → Int → Int}
    (rule : ∀ (i j : Int) (t u : Tok) (s : Shared) (Q : Value → Shared → Prop) (E : Value → Shared → Prop), Q (.int (g i j) s.toks) { s with toks := s.toks + 1 } → wpAny (model X.prog X.w) X.A (f (.int i t) (.int j u)) Q E s) :
    OpR X f (rI0 fun i j => .int (g i j)) := by
  intro pins s σ H x y v u Q I rx ry h
  obtain ⟨i, j, rfl, rfl, q⟩ := h
  obtain ⟨t, rfl⟩ := rx
  obtain ⟨t', rfl⟩ := ry
  exact rule i j t t' s _ _ ⟨.int (g i j), H, I.tok _, ⟨_, rfl⟩, q⟩
theorem opB0 {f : Value → Value → Sem Value} {g : Int → Int → Bool}
    (rule : ∀ (i j : Int) (t u : Tok) (s : Shared) (Q : Value → Shared → Prop) (E : Value → Shared → Prop), Q (.bool (g i j)) s → wpAny (model X.prog X.w) X.A (f (.int i t) (.int j u)) Q E s) :
    OpR X f (rI0 fun i j => .bl (g i j)) := by
  intro pins s σ H x y v u Q I rx ry h
  obtain ⟨i, j, rfl, rfl, q⟩ := h
  obtain ⟨t, rfl⟩ := rx
  obtain ⟨t', rfl⟩ := ry
  exact rule i j t t' s _ _ ⟨.bl (g i j), H, I, rfl, q⟩

def CDiv (i j : Int) : Prop := 0 < j ∧ j < 1073741824
def CDivN (i j : Int) : Prop := j ≠ 0 ∧ j.natAbs < 1073741824
def CPow (i j : Int) : Prop := 0 ≤ j ∧ j ≤ 1000000 ∧ i.natAbs < 2 ^ 64
def CMul (i j : Int) : Prop := (-(2 ^ 64) < i ∧ i < 2 ^ 64) ∨ (-(2 ^ 64) < j ∧ j < 2 ^ 64)
theorem CMul.ok {i j : Int} (h : CMul i j) : IntMulOk i j := by
  rcases h with ⟨h1, h2⟩ | ⟨h1, h2⟩
  · exact .of_left (intBits_le_64 h1 h2)
  · exact .of_right (intBits_le_64 h1 h2)


theorem op_add : OpR X (binaryOp .Add) (rI0 fun i j => .int (i + j)) := opI0 fun _ _ _ _ _ _ _ q => add_int q

theorem op_mul : OpR X (binaryOp .Mult) (rI CMul fun i j => .int (i * j)) := opI fun _ _ _ _ _ _ _ hc q => mul_int q hc.ok
/-- // by a positive divisor -/
theorem op_fdiv : OpR X (binaryOp .FloorDiv) (rI CDiv fun i j => .int (i / j)) := opI fun i j _ _ _ _ _ hc q => by
  have h1 : (0 : Int) < j := hc.1
  have h2 : j < 1073741824 := hc.2
  exact floordiv_int (by omega) (by rw [Int.fdiv_eq_ediv_of_nonneg i (by omega)]; exact q) (.inl (PyProof.noPylong_small (by omega)))

/-- % by a positive divisor of any size -/
theorem op_mod : OpR X (binaryOp .Mod) (rI (fun _ j => 0 < j) fun i j => .int (i % j)) := opI fun i j _ _ _ _ _ hc q => by
  have h1 : (0 : Int) < j := hc
  exact mod_int' (by omega) (by rw [Int.fmod_eq_emod_of_nonneg i (by omega)]; exact q)

theorem op_pow : OpR X (binaryOp .Pow) (rI CPow fun i j => .int (i ^ j.toNat)) := opI fun _ _ _ _ _ _ _ hc q => pow_int_small hc.1 hc.2.1 hc.2.2 q





















/-! ### bools among ints: n += (a < b) -/

end

/-! ### comparisons -/
/-- the scalars that == tells apart as data does -/
def scal : V → V → Bool
  | .non, .non => true | .non, .int _ => true | .int _, .non => true | .non, .bl _ => true | .bl _, .non => true | .non, .str _ => true | .str _, .non => true
  | .int _, .int _ => true | .bl _, .bl _ => true | .str _, .str _ => true | .byt _, .byt _ => true
  | .int _, .str _ => true | .str _, .int _ => true | .bl _, .str _ => true | .str _, .bl _ => true
  | _, _ => false
def rEq : R2 := fun x y H Q => scal x y = true ∧ Q (.bl (decide (x = y))) H
def rNe : R2 := fun x y H Q => scal x y = true ∧ Q (.bl (!decide (x = y))) H

theorem dec_int {i j : Int} : decide (V.int i = V.int j) = (i == j) := by
  rw [Bool.eq_iff_iff]
  simp
theorem dec_bl {i j : Bool} : decide (V.bl i = V.bl j) = (i == j) := by
  rw [Bool.eq_iff_iff]
  simp
theorem dec_str {i j : Str} : decide (V.str i = V.str j) = (i == j) := by
  rw [Bool.eq_iff_iff]
  simp
theorem dec_byt {i j : Array UInt8} : decide (V.byt i = V.byt j) = (i.toList == j.toList) := by
  rw [Bool.eq_iff_iff]
  cases i
  cases j
  simp

section
variable {X : Cx} {a b c : Expr} {ta tb tc : TE} {pos : Pos}
theorem fin_bl {pins : List (Addr × Obj)} {σ : St} {H : Hp} {s : Shared} {Q : VK} {k k' : Bool} (I : Inv X pins σ H s) (q : Q (.bl k) H) (e : k = k') : EP X pins σ Q (.bool k') s := by
  subst e
  exact ⟨.bl k, H, I, rfl, q⟩
theorem op_eq : OpR X (compareOp .Eq) rEq := by
  intro pins s σ H x y v u Q I rx ry h
  obtain ⟨hs, q⟩ := h
  cases x with
  | non =>
    cases rx
    cases y with
    | non => cases ry; exact PySem.EqNone.eq_none_none (fin_bl I q (by simp))
    | bl j => cases ry; exact PySem.EqNone.eq_none_bool (fin_bl I q (by simp))
    | int j => obtain ⟨t', rfl⟩ := ry; exact PySem.EqNone.eq_none_int (fin_bl I q (by simp))
    | str j => obtain ⟨t', rfl⟩ := ry; exact PySem.EqNone.eq_none_str (fin_bl I q (by simp))
    | _ => exact absurd (show false = true from hs) Bool.false_ne_true
  | bl i =>
    cases rx
    cases y with
    | non => cases ry; exact PySem.EqNone.eq_bool_none (fin_bl I q (by simp))
    | bl j => cases ry; exact eq_bool (fin_bl I q dec_bl)
    | str j => obtain ⟨t', rfl⟩ := ry; exact PySem.EqMixed.eq_bool_str (fin_bl I q (by simp))
    | _ => exact absurd (show false = true from hs) Bool.false_ne_true
  | int i =>
    obtain ⟨t, rfl⟩ := rx
    cases y with
    | non => cases ry; exact PySem.EqNone.eq_int_none (fin_bl I q (by simp))
    | int j => obtain ⟨t', rfl⟩ := ry; exact eq_int (fin_bl I q dec_int)
    | str j => obtain ⟨t', rfl⟩ := ry; exact PySem.EqMixed.eq_int_str (fin_bl I q (by simp))
    | _ => exact absurd (show false = true from hs) Bool.false_ne_true
  | str i =>
    obtain ⟨t, rfl⟩ := rx
    cases y with
    | non => cases ry; exact PySem.EqNone.eq_str_none (fin_bl I q (by simp))
    | bl j => cases ry; exact PySem.EqMixed.eq_str_bool (fin_bl I q (by simp))
    | int j => obtain ⟨t', rfl⟩ := ry; exact PySem.EqMixed.eq_str_int (fin_bl I q (by simp))
    | str j => obtain ⟨t', rfl⟩ := ry; exact eq_str (fin_bl I q dec_str)
    | _ => exact absurd (show false = true from hs) Bool.false_ne_true
  | byt i =>
    obtain ⟨t, rfl⟩ := rx
    cases y with
    | byt j => obtain ⟨t', rfl⟩ := ry; exact PySem.W.eq_bytes (fin_bl I q dec_byt)
    | _ => exact absurd (show false = true from hs) Bool.false_ne_true
  | _ => cases y <;> exact absurd (show false = true from hs) Bool.false_ne_true
theorem op_ne : OpR X (compareOp .NotEq) rNe := by
  intro pins s σ H x y v u Q I rx ry h
  obtain ⟨hs, q⟩ := h
  cases x with
  | non =>
    cases rx
    cases y with
    | non => cases ry; exact PySem.EqNone.ne_none_none (fin_bl I q (by simp))
    | bl j => cases ry; exact PySem.EqNone.ne_none_bool (fin_bl I q (by simp))
    | int j => obtain ⟨t', rfl⟩ := ry; exact PySem.EqNone.ne_none_int (fin_bl I q (by simp))
    | str j => obtain ⟨t', rfl⟩ := ry; exact PySem.EqNone.ne_none_str (fin_bl I q (by simp))
    | _ => exact absurd (show false = true from hs) Bool.false_ne_true
  | bl i =>
    cases rx
    cases y with
    | non => cases ry; exact PySem.EqNone.ne_bool_none (fin_bl I q (by simp))
    | bl j => cases ry; exact ne_bool (fin_bl I q (congrArg not dec_bl))
    | str j => obtain ⟨t', rfl⟩ := ry; exact PySem.EqMixed.ne_bool_str (fin_bl I q (by simp))
    | _ => exact absurd (show false = true from hs) Bool.false_ne_true
  | int i =>
    obtain ⟨t, rfl⟩ := rx
    cases y with
    | non => cases ry; exact PySem.EqNone.ne_int_none (fin_bl I q (by simp))
    | int j => obtain ⟨t', rfl⟩ := ry; exact ne_int (fin_bl I q (congrArg not dec_int))
    | str j => obtain ⟨t', rfl⟩ := ry; exact PySem.EqMixed.ne_int_str (fin_bl I q (by simp))
    | _ => exact absurd (show false = true from hs) Bool.false_ne_true
  | str i =>
    obtain ⟨t, rfl⟩ := rx
    cases y with
    | non => cases ry; exact PySem.EqNone.ne_str_none (fin_bl I q (by simp))
    | bl j => cases ry; exact PySem.EqMixed.ne_str_bool (fin_bl I q (by simp))
    | int j => obtain ⟨t', rfl⟩ := ry; exact PySem.EqMixed.ne_str_int (fin_bl I q (by simp))
    | str j => obtain ⟨t', rfl⟩ := ry; exact ne_str (fin_bl I q (congrArg not dec_str))
    | _ => exact absurd (show false = true from hs) Bool.false_ne_true
  | byt i =>
    obtain ⟨t, rfl⟩ := rx
    cases y with
    | byt j => obtain ⟨t', rfl⟩ := ry; exact PySem.W.ne_bytes (fin_bl I q (congrArg not dec_byt))
    | _ => exact absurd (show false = true from hs) Bool.false_ne_true
  | _ => cases y <;> exact absurd (show false = true from hs) Bool.false_ne_true

theorem op_lt : OpR X (compareOp .Lt) (rI0 fun i j => .bl (decide (i < j))) := opB0 fun _ _ _ _ _ _ _ q => lt_int q
theorem op_le : OpR X (compareOp .LtE) (rI0 fun i j => .bl (decide (i ≤ j))) := opB0 fun _ _ _ _ _ _ _ q => le_int q
theorem op_gt : OpR X (compareOp .Gt) (rI0 fun i j => .bl (decide (j < i))) := opB0 fun _ _ _ _ _ _ _ q => gt_int q
theorem op_ge : OpR X (compareOp .GtE) (rI0 fun i j => .bl (decide (j ≤ i))) := opB0 fun _ _ _ _ _ _ _ q => ge_int q






theorem op_notin_str : OpR X (compareOp .NotIn) (fun x y H Q => ∃ i j, x = .str i ∧ y = .str j ∧ Q (.bl (!(!(Builtin.Str.occurrences j i 0 j.length 1).isEmpty))) H) := by
  intro pins s σ H x y v u Q I rx ry h
  obtain ⟨i, j, rfl, rfl, q⟩ := h
  obtain ⟨t, rfl⟩ := rx
  obtain ⟨t', rfl⟩ := ry
  exact notIn_str (fin_bl I q rfl)
/-- is, is not of two objects that are tracked lists or instances -/
def isObj : HO → Bool
  | .lst _ => true
  | .ins _ _ _ => true
  | _ => false






theorem nomark (b : Expr) {op : CmpOp} (h : op ≠ .In := by decide) (h2 : op ≠ .NotIn := by decide) : behindInMarks op b = false := by
  have e1 : (op == CmpOp.In) = false := by cases op <;> first | rfl | exact absurd rfl h
  have e2 : (op == CmpOp.NotIn) = false := by cases op <;> first | rfl | exact absurd rfl h2
  cases b <;> simp [behindInMarks, e1, e2]
/-- a comparison as a value; hm: nomark b, or (for in, not in) by with_unfolding_all rfl -/
theorem pe_cmpR {op : CmpOp} {r : R2} (ho : OpR X (compareOp op) r) (ha : PE X a ta) (hb : PE X b tb) (hm : behindInMarks op b = false) : PE X (.Compare a [op] [b] pos) (tOp r ta tb) := by
  intro pins s σ H Q I h
  exact wpAny_Compare1 (binT ha hb I h fun v u s2 x y H2 I2 rx ry q => ho pins s2 σ H2 x y v u Q I2 rx ry q) hm
/-- a reading of a value as a test -/
def tTest (t : TE) : TT := fun σ H Q => t σ H fun x H' => ∃ k, x = .bl k ∧ Q k H'
theorem pt_cmpR {op : CmpOp} {r : R2} (ho : OpR X (compareOp op) r) (ha : PE X a ta) (hb : PE X b tb) (hm : behindInMarks op b = false) : PT X (.Compare a [op] [b] pos) (tTest (tOp r ta tb)) := by
  intro pins s σ H Q I h
  refine wpAny_isTrue_Compare1 (thn (ha pins s σ H _ I h) fun v s1 ⟨x, H1, I1, r1, q1⟩ => thn (hb pins s1 σ H1 _ I1 q1) fun u s2 ⟨y, H2, I2, r2, q2⟩ =>
    thn (ho pins s2 σ H2 x y v u _ I2 r1 r2 q2) fun c s3 ⟨z, H3, I3, r3, k, e, q3⟩ => ?_) hm
  subst e
  cases r3
  exact wpAny_truthy_bool ⟨H3, I3, q3⟩
/-- a op1 b op2 c -/
def tChain (r r' : R2) (ta tb tc : TE) : TE := fun σ H Q => ta σ H fun x H1 => tb σ H1 fun y H2 => r x y H2 fun z H3 => ∃ k, z = .bl k ∧
  (if k = true then tc σ H3 fun w' H4 => r' y w' H4 Q else Q (.bl false) H3)
theorem pe_chain {op op' : CmpOp} {r r' : R2} (ho : OpR X (compareOp op) r) (ho' : OpR X (compareOp op') r') (ha : PE X a ta) (hb : PE X b tb) (hc : PE X c tc)
    (hm : lastMarks [op, op'] [b, c] = false := by with_unfolding_all rfl) : PE X (.Compare a [op, op'] [b, c] pos) (tChain r r' ta tb tc) := by
  intro pins s σ H Q I h
  refine Compare_chain (thn (ha pins s σ H _ I h) fun v s1 ⟨x, H1, I1, r1, q1⟩ => chain_link (thn (hb pins s1 σ H1 _ I1 q1) fun u s2 ⟨y, H2, I2, r2, q2⟩ =>
    thn (ho pins s2 σ H2 x y v u _ I2 r1 r2 q2) fun d s3 ⟨z, H3, I3, r3, k, e, q3⟩ => ?_)) hm
  subst e
  cases r3
  refine wpAny_truthy_bool ?_
  cases k with
  | false => exact ite_ff ⟨.bl false, H3, I3, rfl, q3⟩
  | true => exact ite_tt (chain_last (thn (hc pins s3 σ H3 _ I3 q3) fun w' s4 ⟨z', H4, I4, r4, q4⟩ => ho' pins s4 σ H4 y z' u w' Q I4 r2 r4 q4))
theorem pt_chain {op op' : CmpOp} {r r' : R2} (ho : OpR X (compareOp op) r) (ho' : OpR X (compareOp op') r') (ha : PE X a ta) (hb : PE X b tb) (hc : PE X c tc)
    (hm : lastMarks [op, op'] [b, c] = false := by with_unfolding_all rfl) : PT X (.Compare a [op, op'] [b, c] pos) (tTest (tChain r r' ta tb tc)) := by
  intro pins s σ H Q I h
  refine isTrue_chain (thn (ha pins s σ H _ I h) fun v s1 ⟨x, H1, I1, r1, q1⟩ => test_link (thn (hb pins s1 σ H1 _ I1 q1) fun u s2 ⟨y, H2, I2, r2, q2⟩ =>
    thn (ho pins s2 σ H2 x y v u _ I2 r1 r2 q2) fun d s3 ⟨z, H3, I3, r3, k, e, q3⟩ => ?_)) hm
  subst e
  cases r3
  refine wpAny_truthy_bool ?_
  cases k with
  | false =>
    obtain ⟨k', e', q'⟩ := q3
    cases e'
    exact ite_ff ⟨H3, I3, q'⟩
  | true =>
    refine ite_tt (test_last (thn (hc pins s3 σ H3 _ I3 q3) fun w' s4 ⟨z', H4, I4, r4, q4⟩ => thn (ho' pins s4 σ H4 y z' u w' _ I4 r2 r4 q4) fun d' s5 ⟨z2, H5, I5, r5, k2, e2, q5⟩ => ?_))
    subst e2
    cases r5
    exact wpAny_truthy_bool ⟨H5, I5, q5⟩

/-! ### truth -/
/-- a value's truth by the abstract heap -/
def TruV (K : PySem.W.Frag) (x : V) (H : Hp) (k : Bool) : Prop :=
  match x with
  | .non => k = false
  | .bl b => k = b
  | .int i => k = (i != 0)
  | .str y => y.length ≤ sizeLine ∧ k = ((y.length : Int) != 0)
  | .byt y => y.size ≤ sizeLine ∧ k = ((y.size : Int) != 0)
  | .ref p => (∃ xs, SqL K H p xs ∧ k = !xs.isEmpty) ∨ (∃ xs, SqT K H p xs ∧ k = !xs.isEmpty) ∨ ∃ kvs, H p = some (.dK kvs) ∧ k = !kvs.isEmpty
  | _ => False


theorem line63 : (sizeLine : Nat) < 2 ^ 63 := by rw [sizeLine_eq]; decide



/-! ### strs and bytes -/

theorem op_add_str : OpR X (binaryOp .Add) (fun x y H Q => ∃ i j, x = .str i ∧ y = .str j ∧ i.length + j.length ≤ sizeLine ∧ Q (.str (i ++ j)) H) := by
  intro pins s σ H x y v u Q I rx ry h
  obtain ⟨i, j, rfl, rfl, hz, q⟩ := h
  obtain ⟨t, rfl⟩ := rx
  obtain ⟨t', rfl⟩ := ry
  exact add_str (fun t' tk => ⟨.str (i ++ j), H, I.tok _, ⟨_, rfl⟩, q⟩) hz



def PlainIxT (b : Expr) : Prop := ∀ o i, subscripted b false o i = operate [o, i] (getItem o i)



/-! ### scalar builtins, by CallR -/
theorem vals1 {x : V} {us : List Value} (r : Vals [x] us) : ∃ u, us = [u] ∧ RelV x u := by
  cases r with
  | cons r1 r2 => cases r2; exact ⟨_, rfl, r1⟩
theorem vals2 {x y : V} {us : List Value} (r : Vals [x, y] us) : ∃ u w', us = [u, w'] ∧ RelV x u ∧ RelV y w' := by
  cases r with
  | cons r1 r2 =>
    cases r2 with
    | cons r3 r4 => cases r4; exact ⟨_, _, rfl, r1, r3⟩

theorem call_max2 (hc : X.calm = true) : CallR X (.builtin "max") (fun xs H Q => ∃ i j, xs = [.int i, .int j] ∧ Q (.int (if j > i then j else i)) H) := by
  intro pins s σ H xs us Q I r h
  obtain ⟨i, j, rfl, q⟩ := h
  obtain ⟨u, w', rfl, ⟨t, rfl⟩, ⟨t', rfl⟩⟩ := vals2 r
  refine max_two_ints (I.ok.hd hc) fun h' tk k => ⟨_, H, I.kept k, ?_, q⟩
  by_cases hj : j > i
  · rw [if_pos hj, if_pos hj]; exact ⟨_, rfl⟩
  · rw [if_neg hj, if_neg hj]; exact ⟨_, rfl⟩
theorem call_min2 (hc : X.calm = true) : CallR X (.builtin "min") (fun xs H Q => ∃ i j, xs = [.int i, .int j] ∧ Q (.int (if j < i then j else i)) H) := by
  intro pins s σ H xs us Q I r h
  obtain ⟨i, j, rfl, q⟩ := h
  obtain ⟨u, w', rfl, ⟨t, rfl⟩, ⟨t', rfl⟩⟩ := vals2 r
  refine min_two_ints (I.ok.hd hc) fun h' tk k => ⟨_, H, I.kept k, ?_, q⟩
  by_cases hj : j < i
  · rw [if_pos hj, if_pos hj]; exact ⟨_, rfl⟩
  · rw [if_neg hj, if_neg hj]; exact ⟨_, rfl⟩
theorem call_int1 : CallR X (.type "int") (fun xs H Q => (∃ i, xs = [.int i] ∧ Q (.int i) H) ∨ ∃ k, xs = [.bl k] ∧ Q (.int (if k then 1 else 0)) H) := by
  intro pins s σ H xs us Q I r h
  rcases h with ⟨i, rfl, q⟩ | ⟨k, rfl, q⟩
  · obtain ⟨u, rfl, t, rfl⟩ := vals1 r
    exact call_int_int ⟨.int i, H, I, ⟨_, rfl⟩, q⟩
  · obtain ⟨u, rfl, r1⟩ := vals1 r
    cases r1
    exact call_int_bool ⟨.int (if k then 1 else 0), H, I.tok _, ⟨_, rfl⟩, q⟩




/-- len of a str, a bytes, a list, a tuple -/
def LenV (K : PySem.W.Frag) (x : V) (H : Hp) (n : Nat) : Prop :=
  match x with
  | .str y => y.length ≤ sizeLine ∧ n = y.length
  | .byt y => y.size ≤ sizeLine ∧ n = y.size
  | .ref p => (∃ xs, SqL K H p xs ∧ n = xs.length) ∨ ∃ xs, SqT K H p xs ∧ n = xs.length
  | _ => False


end
end L2

namespace L2
open PySem PySem.Spec PyProof.Rows

/-! ### an instance, its attributes a map -/
structure ObjM (h : Heap) (x dx C : Addr) (mA : Str → Option Value) : Prop where
  obj : h.get? x = some (PySem.W.instObj C dx)
  ns : h.Ns1 dx mA
  ne : dx ≠ x

theorem lookIn_ns {h : Heap} {dx : Addr} {mA : Str → Option Value} (n : h.Ns1 dx mA) : ∃ od, h.get? dx = some od ∧ ∀ name, PySem.W.lookIn name od = some (mA name) := by
  obtain ⟨o, es, ep, ho, hd, hk, _, hm⟩ := n
  refine ⟨o, ho, fun name => ?_⟩
  have e := hm name
  unfold nsFind findBy at e
  rw [← Array.find?_toList] at e
  unfold PySem.W.lookIn
  rw [hd]
  dsimp only
  split
  · rename_i y q
    rw [q] at e
    exact congrArg some e
  · rename_i q
    rw [q] at e
    have a : es.toList.any (·.refKey) = false := by
      rw [List.any_eq_false]
      intro y hy
      obtain ⟨z, t, hkey⟩ := hk y (Array.mem_toList_iff.mp hy)
      simp [DictEntry.refKey, hkey]
    have a' : ¬ es.toList.any (·.refKey) = true := by rw [a]; exact Bool.false_ne_true
    rw [if_neg a']
    exact congrArg some e

theorem ObjM.look {h : Heap} {x dx C : Addr} {mA : Str → Option Value} (I : ObjM h x dx C mA) : ∃ od, PySem.W.InstAt h x (PySem.W.instObj C dx) C (some od) ∧ ∀ name, PySem.W.lookIn name od = some (mA name) :=
  let ⟨od, ho, hl⟩ := lookIn_ns I.ns
  ⟨od, ⟨I.obj, rfl, rfl, ho⟩, hl⟩

section
variable {prog : Program} {w : World} {A : Around} {E : Value → Shared → Prop} {s : Shared} {K : PySem.W.Frag} {x dx C f : Addr} {mA : Str → Option Value} {name : Str} {v : Value}











end

/-! ### the attributes as a list of pairs -/
def putF (f : Str) (v : V) : List (Str × V) → List (Str × V)
  | [] => [(f, v)]
  | (g, x) :: r => if g = f then (g, v) :: r else (g, x) :: putF f v r








section
variable {P : Program} {w : World} {H H' : Hp} {h h' : Heap} {a C dx : Addr} {fs fs' : List (Str × V)}
theorem ins_get (hok : HOk P w H h) (e : H a = some (.ins C dx fs)) : ∃ mA, ObjM h a dx C mA ∧ (∀ f, RelO (fs.lookup f) (mA f)) ∧ PySem.Within mA (fs.map (·.1)) ∧ fs.length ≤ 1000 ∧ H dx = some (.own a) := by
  obtain ⟨d, z, ne, ob, mA, n, r, q⟩ := (show ObjOk P w H h a (.ins C dx fs) from hok a _ e)
  exact ⟨mA, ⟨ob, n, ne⟩, r, q, z, d⟩
end

/-! ### what of the text a class must have -/
structure Cls (K : PySem.W.Frag) (C : Addr) : Prop where
  pg : PySem.W.plainGet K C Str.empty = true
  hd : PySem.W.hasDictIn K C = true
  po : PySem.W.plainOver K C = true
  sa : PySem.W.findIn K (.ref C) "__setattr__" = some (some (.builtin "object.__setattr__"))
theorem Cls.get {K : PySem.W.Frag} {C : Addr} (c : Cls K C) (f : Str) : PySem.W.plainGet K C f = true := c.pg
/-- no class of it has the name -/
def NoAttr (K : PySem.W.Frag) (C : Addr) (f : Str) : Prop := PySem.W.findIn K (.ref C) f = some none

/-- a constant of the class -/
structure Con (K : PySem.W.Frag) (C : Addr) (f : Str) (v : V) (u : Value) : Prop where
  at_ : PySem.W.findIn K (.ref C) f = some (some u)
  rel : RelV v u
  get : PySem.W.specialIn K u "__get__" = some none
  cp : PySem.W.copiedNames.contains f = false
/-- a method: a plain def of the class or of one above it -/
structure Meth (K : PySem.W.Frag) (C : Addr) (m : Str) (f : Addr) : Prop where
  at_ : PySem.W.findIn K (.ref C) m = some (some (.ref f))
  fn : PySem.W.isFn K (.ref f) = true
  kp : PySem.W.keepIn K (.ref f) = true

section
variable {X : Cx} {pins : List (Addr × Obj)} {σ : St} {H : Hp} {s : Shared} {a C dx : Addr} {fs : List (Str × V)} {f : Str} {v : V} {A : Around} {E : Value → Shared → Prop}












end

/-! ### readings and rules -/
/-- e.f, an attribute of the instance -/
def tFld (K : PySem.W.Frag) (ta : TE) (f : Str) : TE := fun σ H Q => ta σ H fun x H1 => ∃ a C dx fs v, x = .ref a ∧ H1 a = some (.ins C dx fs) ∧ Cls K C ∧ NoAttr K C f ∧ fs.lookup f = some v ∧ Q v H1
/-- e.f, a constant of the class -/
def tCon (K : PySem.W.Frag) (ta : TE) (f : Str) : TE := fun σ H Q => ta σ H fun x H1 => ∃ a C dx fs v u, x = .ref a ∧ H1 a = some (.ins C dx fs) ∧ Cls K C ∧ Con K C f v u ∧ fs.lookup f = none ∧ Q v H1
/-- e.f = value -/
def sFld (K : PySem.W.Frag) (ta tv : TE) (f : Str) : TS := fun D σ H => tv σ H fun y H1 => ta σ H1 fun x H2 => ∃ a C dx fs, x = .ref a ∧ H2 a = some (.ins C dx fs) ∧ Cls K C ∧ NoAttr K C f ∧ fs.length < 1000 ∧
  D.nx σ (upd H2 a (.ins C dx (putF f y fs)))
/-- an augmented operator on two values -/
def InOp (X : Cx) (op : Operator) (rd : V → V → Hp → VK → Prop) : Prop :=
  ∀ (pins : List (Addr × Obj)) (s : Shared) (σ : St) (H : Hp) (x y : V) (u v : Value) (Q : VK), Inv X pins σ H s → RelV x u → RelV y v → rd x y H Q → wpAny (model X.prog X.w) X.A (inplaceOp op u v) (EP X pins σ Q) X.xe s
/-- e.f op= value -/
def sFldAug (K : PySem.W.Frag) (ta tv : TE) (rd : V → V → Hp → VK → Prop) (f : Str) : TS := fun D σ H => ta σ H fun x H1 => ∃ a C dx fs v, x = .ref a ∧ H1 a = some (.ins C dx fs) ∧ Cls K C ∧ NoAttr K C f ∧ fs.lookup f = some v ∧
  tv σ H1 fun y H2 => rd v y H2 fun z H3 => ∃ dx' fs', H3 a = some (.ins C dx' fs') ∧ fs'.length < 1000 ∧ D.nx σ (upd H3 a (.ins C dx' (putF f z fs')))

section
variable {X : Cx} {o e value : Expr} {f : Str} {pos pos' tpos : Pos} {ta tv : TE}




def rAdd : V → V → Hp → VK → Prop := fun x y H Q => ∃ i j, x = .int i ∧ y = .int j ∧ Q (.int (i + j)) H
def rSub : V → V → Hp → VK → Prop := fun x y H Q => ∃ i j, x = .int i ∧ y = .int j ∧ Q (.int (i - j)) H




end

/-! ### isinstance -/
section
variable {X : Cx} {pins : List (Addr × Obj)} {σ : St} {H : Hp} {s : Shared} {A : Around} {E : Value → Shared → Prop} {Q : Value → Shared → Prop} {c : Value} {b : Bool}
/-- the type of a value, as the fragment's deciders take it; for an instance its class -/
inductive TyOf (K : PySem.W.Frag) (H : Hp) : V → Value → Prop where
  | non : TyOf K H .non (.type "NoneType")
  | bl (x : Bool) : TyOf K H (.bl x) (.type "bool")
  | int (i : Int) : TyOf K H (.int i) (.type "int")
  | str (x : Str) : TyOf K H (.str x) (.type "str")
  | flt (x : UInt64) : TyOf K H (.flt x) (.type "float")
  | lst {a : Addr} {xs : List V} (e : H a = some (.lst xs)) : TyOf K H (.ref a) (.type "list")
  | frz {a : Addr} {o : Obj} {xs : List V} (e : H a = some (.frz o (.lst xs))) : TyOf K H (.ref a) (.type "list")
  | tup {a : Addr} {xs : List V} (e : H a = some (.tup xs)) : TyOf K H (.ref a) (.type "tuple")
  | dK {a : Addr} {kvs : List (Key × V)} (e : H a = some (.dK kvs)) : TyOf K H (.ref a) (.type "dict")
  | dT {a : Addr} {kvs : List (List Key × V)} (e : H a = some (.dT kvs)) : TyOf K H (.ref a) (.type "dict")
  | ins {a C dx : Addr} {fs : List (Str × V)} (e : H a = some (.ins C dx fs)) (cl : Cls K C) (ha : PySem.W.findIn K (.ref C) "__class__" = some (some (.builtin "object.__class__")))
      (hn : PySem.W.specialIn K (.builtin "object.__class__") "__get__" = some (some (.builtin "getset_descriptor.__get__"))) (htk : PySem.W.takesIn K (.builtin "object.__class__") = some true)
      (hm : PySem.W.mroIn K C (.type "object") = some true) : TyOf K H (.ref a) (.ref C)
/-- isinstance(x, c) for one class c, a built-in or an own one: kitOne's answer -/
theorem isinst_ok {x : V} {u t : Value} (I : Inv X pins σ H s) (rx : RelV x u) (ty : TyOf X.K H x t) (e : PySem.W.kitOne X.K t c = some b) (h : ∀ tk, Q (.bool b) { s with toks := tk }) :
    wpAny (model X.prog X.w) A (call (.builtin "isinstance") [u, c]) Q E s := by
  cases ty with
  | non => cases (show u = Value.none from rx); exact PySem.W.kia_one PySem.W.kitx_none I.kIn True.intro e (fun z => nomatch z) h
  | bl y => cases (show u = Value.bool y from rx); exact PySem.W.kia_one PySem.W.kitx_bool I.kIn True.intro e (fun z => nomatch z) h
  | int i => obtain ⟨t, q⟩ := (show ∃ t, u = Value.int i t from rx); cases q; exact PySem.W.kia_one PySem.W.kitx_int I.kIn True.intro e (fun z => nomatch z) h
  | str y => obtain ⟨t, q⟩ := (show ∃ t, u = Value.str y t from rx); cases q; exact PySem.W.kia_one PySem.W.kitx_str I.kIn True.intro e (fun z => nomatch z) h
  | flt y => obtain ⟨t, q⟩ := (show ∃ t, u = Value.float y t from rx); cases q; exact PySem.W.kia_one PySem.W.kitx_float I.kIn True.intro e (fun z => nomatch z) h
  | @lst a xs ea =>
    cases (show u = Value.ref a from rx)
    obtain ⟨_, _, n, _, h1⟩ := (show ObjOk X.prog X.w H s.heap a (.lst xs) from I.hok a _ ea)
    exact PySem.W.kia_one PySem.W.kitx_list I.kIn ⟨_, h1, rfl⟩ e (fun z => nomatch z) h
  | @frz a ob xs ea =>
    cases (show u = Value.ref a from rx)
    obtain ⟨_, _, _, n, _, h1⟩ := (show ObjOk X.prog X.w H s.heap a (.frz ob (.lst xs)) from I.hok a _ ea)
    exact PySem.W.kia_one PySem.W.kitx_list I.kIn ⟨_, h1, rfl⟩ e (fun z => nomatch z) h
  | @tup a xs ea =>
    cases (show u = Value.ref a from rx)
    obtain ⟨_, _, _, p⟩ := (show ObjOk X.prog X.w H s.heap a (.tup xs) from I.hok a _ ea)
    obtain ⟨o, h1, h2, _⟩ := p
    exact PySem.W.kia_one PySem.W.kitx_tuple I.kIn ⟨o, h1, h2⟩ e (fun z => nomatch z) h
  | @dK a kvs ea =>
    cases (show u = Value.ref a from rx)
    obtain ⟨_, _, vs, _, p⟩ := (show ObjOk X.prog X.w H s.heap a (.dK kvs) from I.hok a _ ea)
    obtain ⟨o, es, ep, h1, h2, _⟩ := p
    exact PySem.W.kia_one PySem.W.kitx_dict I.kIn ⟨o, h1, h2.1⟩ e (fun z => nomatch z) h
  | @dT a kvs ea =>
    cases (show u = Value.ref a from rx)
    obtain ⟨_, _, xs, _, o, es, ep, h1, h2, _⟩ := (show ObjOk X.prog X.w H s.heap a (.dT kvs) from I.hok a _ ea)
    exact PySem.W.kia_one PySem.W.kitx_dict I.kIn ⟨o, h1, h2.1⟩ e (fun z => nomatch z) h
  | @ins a C dx fs ea cl ha hn htk hm =>
    cases (show u = Value.ref a from rx)
    obtain ⟨mA, O, _⟩ := ins_get I.hok ea
    obtain ⟨od, J, _⟩ := O.look
    exact PySem.W.kia_one (PySem.W.kitx_own (cl.get _) cl.hd ha hn htk hm) I.kIn J e (fun z => nomatch z) h
end
end L2

namespace L2
open PySem PySem.Spec PyProof.Rows

/-! ### room -/
structure Room (k : Nat) (A : Around) : Prop where
  hd : A.handled = none
  dp : A.depth + 3 * k + 5 < recursionLimit
  un : A.units + 16 * k + 200 < cLine
theorem Room.mono {j k : Nat} {A : Around} (r : Room k A) (h : j ≤ k) : Room j A := ⟨r.hd, by have := r.dp; omega, by have := r.un; omega⟩
theorem Room.deeper {k : Nat} {A : Around} (r : Room (k + 1) A) (env : Env) : Room k (A.deeper env) :=
  ⟨r.hd, by have := r.dp; show A.depth + 1 + 3 * k + 5 < _; omega, by have := r.un; show A.units + 3 + 16 * k + 200 < _; omega⟩




theorem Room.depth {k : Nat} {A : Around} (r : Room k A) : A.depth < recursionLimit := by have := r.dp; omega
theorem Room.units {k : Nat} {A : Around} (r : Room k A) : A.units + 64 < cLine := by have := r.un; omega


/-! ### argument lists and displays -/
def tNil : TA := fun _ H Q => Q [] H
def tCons (ta : TE) (tr : TA) : TA := fun σ H Q => ta σ H fun x H1 => tr σ H1 fun xs H2 => Q (x :: xs) H2
section
variable {X : Cx} {e : Expr} {es : List Expr} {te : TE} {t : TA} {pos : Pos}
theorem pa_nil : PA X [] tNil := fun _ _ _ _ H Q I h => Calls.spliced_nil ⟨[], H, I, .nil, h⟩
theorem pa_cons (ha : PE X e te) (hr : PA X es t) (hs : starEach (e :: es) X.env = (false, eval e X.env) :: starEach es X.env := by rfl) : PA X (e :: es) (tCons te t) := by
  intro pos pins s σ H Q I h
  rw [hs]
  show wpAny _ _ (spliced ((false, eval e X.env) :: backTo pos (starEach es X.env))) _ _ s
  refine Calls.spliced_cons (thn (ha pins s σ H _ I h) fun u s1 ⟨x, H1, I1, r1, q1⟩ => ?_)
  exact thn (hr pos pins s1 σ H1 _ I1 q1) fun us s2 ⟨xs, H2, I2, r2, q2⟩ => ⟨x :: xs, H2, I2, .cons r1 r2, q2⟩

/-- a tuple, a list of written items -/
def tTup (t : TA) : TE := fun σ H Q => t σ H fun xs H1 => xs.length ≤ sizeLine ∧ ∀ p, H1 p = none → Q (.ref p) (upd H1 p (.tup xs))
def tLst (t : TA) : TE := fun σ H Q => t σ H fun xs H1 => xs.length ≤ sizeLine ∧ ∀ p, H1 p = none → Q (.ref p) (upd H1 p (.lst xs))
theorem pe_tup {x1} (h : PA X es t) : PE X (.Tuple es x1 pos) (tTup t) := by
  intro pins s σ H Q I hq
  refine wpAny_Tuple_spliced (thn (h pos pins s σ H _ I hq) fun us s1 ⟨xs, H1, I1, r, z, q⟩ => ⟨by rw [← r.length]; exact z, ?_⟩)
  have hf : H1 s1.heap.objs.size = none := I1.hok.fresh (Nat.le_refl _)
  refine ⟨.ref s1.heap.objs.size, upd H1 s1.heap.objs.size (.tup xs), I1.laid (t' := s1.toks) (fun b u e => Heap.get?_push_of_some _ e) (Nat.le_refl _) ?_, rfl, q _ hf⟩
  exact ⟨z, us, r, ⟨_, Heap.get?_push_size _ rfl, rfl, _, rfl⟩⟩
theorem pe_lst (h : PA X es t) : PE X (.List es pos) (tLst t) := by
  intro pins s σ H Q I hq
  refine wpAny_List_spliced (thn (h pos pins s σ H _ I hq) fun us s1 ⟨xs, H1, I1, r, z, q⟩ => ⟨by rw [← r.length]; exact z, ?_⟩)
  have hf : H1 s1.heap.objs.size = none := I1.hok.fresh (Nat.le_refl _)
  refine ⟨.ref s1.heap.objs.size, upd H1 s1.heap.objs.size (.lst xs), I1.laid (t' := s1.toks) (fun b u e => Heap.get?_push_of_some _ e) (Nat.le_refl _) ?_, rfl, q _ hf⟩
  exact ⟨z, us, 0, r, Heap.get?_push_size _ rfl⟩
end

/-! ### what a def promises -/
/-- a def's promise: the bound arguments in the parameters' order, the heap, the wanted end, the wanted exception -/
abbrev Sp := List V → Hp → VK → XK → Prop
/-- how an exception lies behind a call (file 08 gives it): the callers' frames, abstract heap and state ahead of the call, the wish, the exception, the state -/
abbrev CXT := List Env → Hp → Shared → XK → Value → Shared → Prop

/-- the state at a call -/
structure Env0 (P : Program) (w : World) (K : PySem.W.Frag) (mg : Str → Option Value) (base : Heap) (A : Around) (outer : List Env) (s : Shared) (H : Hp) : Prop where
  frames : A.frames = some outer
  mod : Mod K mg base
  bs : ∀ b o, base.get? b = some o → s.heap.get? b = some o ∧ H b = none
  bsz : base.objs.size ≤ s.heap.objs.size
  funs : s.heap.FunFrames base outer
  frf : ∀ b ∈ frs outer, H b = none
  hok : HOk P w H s.heap
  bare : AllBare s.gens
/-- a call's end -/
def CE (outer : List Env) (P : Program) (w : World) (H : Hp) (s : Shared) (Q : VK) (u : Value) (s' : Shared) : Prop :=
  ∃ v H', s'.os = s.os ∧ AllBare s'.gens ∧ Un (frs outer) [] H H' s.heap s'.heap ∧ HOk P w H' s'.heap ∧ RelV v u ∧ Q v H'
def CR (CX : CXT) (outer : List Env) (P : Program) (w : World) (H : Hp) (s : Shared) (Q : VK) (E : XK) (r : Result) (s' : Shared) : Prop :=
  match r with
  | .ok (.ret u) => CE outer P w H s Q u s'
  | .ok _ => False
  | .error e => CX outer H s E e s'
structure FnOk (P : Program) (w : World) (K : PySem.W.Frag) (mg : Str → Option Value) (base : Heap) (CX : CXT) (k : Nat) (f : Addr) (fd : FuncData) (ps : List Str) (sp : Sp) : Prop where
  len : ∀ vs H Q E, sp vs H Q E → vs.length = ps.length
  run : ∀ (A : Around) (outer : List Env) (s : Shared) (H : Hp) (args : Args) (us : List Value) (vs : List V) (Q : VK) (E : XK), Room k A → Env0 P w K mg base A outer s H → BindsTo s fd args (ps.zip us) → Vals vs us → sp vs H Q E →
    codeAny (model P w) A (.call (.ref f) args) (CR CX outer P w H s Q E) s






section
variable {X : Cx} {pins : List (Addr × Obj)} {σ : St} {H : Hp} {s s' : Shared}
/-- from a body: what a callee wants -/
theorem Inv.env0 (I : Inv X pins σ H s) : Env0 X.prog X.w X.K X.mg X.base X.A X.stack s H :=
  ⟨I.ok.frames, I.ok.mod, I.bs, Nat.le_trans I.ok.bsz I.sz, I.stack, I.stkFree, I.hok, I.bare⟩
/-- behind a call -/
theorem Inv.after {Q : VK} {u : Value} (I : Inv X pins σ H s) (h : CE X.stack X.prog X.w H s Q u s') : EP X pins σ Q u s' := by
  obtain ⟨v, H', os, bare, un, hok, r, q⟩ := h
  obtain ⟨hh, g, d, t, os'⟩ := s'
  obtain rfl : os' = s.os := os
  exact ⟨v, H', I.call (h' := hh) (g' := g) (d' := d) (t' := t) (ch := []) un hok bare (fun b z => absurd z (by simp)), r, q⟩
end

/-! ### calls -/
/-- f(..): the written arguments, then the defaults dvs; E: what is wanted of an exception -/
def tCall (sp : Sp) (dvs : List V) (E : XK) (t : TA) : TE := fun σ H Q => t σ H fun vs H1 => sp (vs ++ dvs) H1 Q E
/-- o.m(..) of an instance of the class at C -/
def tMeth (C : Addr) (m : Str) (sp : Sp) (dvs : List V) (E : XK) (ta : TE) (t : TA) : TE := fun σ H Q => ta σ H fun x H1 => ∃ a dx fs, x = .ref a ∧ H1 a = some (.ins C dx fs) ∧ fs.lookup m = none ∧
  t σ H1 fun vs H2 => sp (x :: (vs ++ dvs)) H2 Q E
/-- C(..): a new instance and its dict, then __init__ -/
def tMake (C : Addr) (sp : Sp) (dvs : List V) (E : XK) (t : TA) : TE := fun σ H Q => t σ H fun vs H1 => ∀ x dx, H1 x = none → H1 dx = none → dx ≠ x →
  sp (.ref x :: (vs ++ dvs)) (upd (upd H1 dx (.own x)) x (.ins C dx [])) (fun v H2 => v = .non ∧ Q (.ref x) H2) E

/-- how the parameters are bound: us the positional arguments, kw the keywords' values by name, ds the defaults that fill up -/
def Binds (K : PySem.W.Frag) (fd : FuncData) (ps : List Str) (ds : List Value) : Prop :=
  ∀ (s : Shared) (us : List Value), K.In s.heap → (us ++ ds).length = ps.length → BindsTo s fd ⟨us, []⟩ (ps.zip (us ++ ds))
/-- every parameter is given -/
theorem Binds.all {K : PySem.W.Frag} {fd : FuncData} {ps : List Str} (h : ∀ us : List Value, us.length = ps.length → bindArgs fd ⟨us, []⟩ = pure (ps.zip us)) : Binds K fd ps [] := fun s us _ hl => by
  rw [List.append_nil] at hl ⊢
  exact .of_eq (h us hl)

/-- an exception of a callee reaches what this body wants of exceptions -/
def Passes (CX : CXT) (X : Cx) (E : XK) : Prop := ∀ (pins : List (Addr × Obj)) (σ : St) (H : Hp) (s : Shared) (e : Value) (s' : Shared), Inv X pins σ H s → CX X.stack H s E e s' → X.xe e s'

section
variable {X : Cx} {CX : CXT} {k : Nat} {f C : Addr} {fd : FuncData} {ps : List Str} {sp : Sp} {dvs : List V} {ds : List Value} {E : XK} {x m : Str} {p pos apos : Pos} {e o : Expr} {es : List Expr} {ta : TE} {t : TA}

/-- the callee runs -/
theorem run_fn {pins : List (Addr × Obj)} {σ : St} {H : Hp} {s : Shared} {Q : VK} {us : List Value} {vs : List V} (F : FnOk X.prog X.w X.K X.mg X.base CX k f fd ps sp) (hr : Room k X.A) (hb : Binds X.K fd ps ds) (hd : Vals dvs ds) (hx : Passes CX X E)
    (I : Inv X pins σ H s) (r : Vals vs us) (h : sp (vs ++ dvs) H Q E) : wpAny (model X.prog X.w) X.A (call (.ref f) us) (EP X pins σ Q) X.xe s := by
  have r2 : Vals (vs ++ dvs) (us ++ ds) := r.append hd
  have hl : (us ++ ds).length = ps.length := by rw [← r2.length]; exact F.len _ _ _ _ h
  refine wpAny_call (codeAny_mono (F.run X.A X.stack s H ⟨us, []⟩ (us ++ ds) (vs ++ dvs) Q E hr I.env0 (hb s us I.kIn hl) r2 h) fun r s' hq => ?_)
  cases r with
  | error e => exact hx pins σ H s e s' I hq
  | ok fl =>
    cases fl with
    | ret u => exact I.after hq
    | next => exact False.elim hq
    | brk => exact False.elim hq
    | cont => exact False.elim hq

theorem pe_call (F : FnOk X.prog X.w X.K X.mg X.base CX k f fd ps sp) (hr : Room k X.A) (hg : Gl X x) (hm : X.mg x = some (.ref f)) (hk : PySem.W.keepIn X.K (.ref f) = true) (hb : Binds X.K fd ps ds) (hd : Vals dvs ds) (hx : Passes CX X E)
    (ha : PA X (e :: es) t) (hdb : (x == ("__debug__" : Str)) = false := by decide) (he : starEach (e :: es) X.env = (false, eval e X.env) :: starEach es X.env := by rfl) (hpl : (backTo pos (starEach es X.env)).any (·.1) = false := by rfl) :
    PE X (.Call (.Name x p) (e :: es) [] pos) (tCall sp dvs E t) := by
  intro pins s σ H Q I h
  refine wpAny_Call_Name_kw (ld_glob I hg hm ?_ hdb)
  refine PySem.W.callWith_K (h₀ := X.base) I.ok.mod.kin hk (thn (ha pos pins s σ H _ I h) fun us s1 ⟨vs, H1, I1, r, q⟩ => ⟨I1.kIn, ?_⟩) he hpl
  exact run_fn F hr hb hd hx I1 r q





/-- what a class must have to be made -/
structure Mk (K : PySem.W.Frag) (C f : Addr) : Prop where
  makes : PySem.W.makesIn K C = true
  init : PySem.W.findIn K (.ref C) "__init__" = some (some (.ref f))
  fn : PySem.W.isFn K (.ref f) = true
  kp : PySem.W.keepIn K (.ref C) = true




end

/-! ### keywords -/
/-- the values of the keywords, from the left -/
def PK (X : Cx) (kws : List Keyword) (t : TA) : Prop :=
  ∀ (pos : Pos) (pins : List (Addr × Obj)) (s : Shared) (σ : St) (H : Hp) (Q : List V → Hp → Prop), Inv X pins σ H s → t σ H Q → wpAny (model X.prog X.w) X.A (evalAll ((backToKw pos (keywordEach kws X.env)).map (·.2))) (AP X pins σ Q) X.xe s
section
variable {X : Cx} {CX : CXT} {k : Nat} {f C : Addr} {fd : FuncData} {ps ks : List Str} {sp : Sp} {E : XK} {x m : Str} {p pos apos kpos : Pos} {e o : Expr} {es : List Expr} {kws : List Keyword} {te ta : TE} {t tk : TA} {nm : Option Str}



/-- how a call with keywords binds: g puts the positional values us and the keywords' values ws (names ks) in the parameters' order, defaults among them -/
structure KBinds (K : PySem.W.Frag) (fd : FuncData) (ps ks : List Str) (g : List Value → List Value → List Value) (gV : List V → List V → List V) : Prop where
  to : ∀ (s : Shared) (us ws : List Value), K.In s.heap → (g us ws).length = ps.length → BindsTo s fd ⟨us, ks.zip ws⟩ (ps.zip (g us ws))
  rel : ∀ {vs : List V} {us : List Value} {zs : List V} {ws : List Value}, Vals vs us → Vals zs ws → Vals (gV vs zs) (g us ws)
def tCallK (sp : Sp) (gV : List V → List V → List V) (E : XK) (t tk : TA) : TE := fun σ H Q => t σ H fun vs H1 => tk σ H1 fun zs H2 => sp (gV vs zs) H2 Q E
variable {g : List Value → List Value → List Value} {gV : List V → List V → List V}


end

/-! ### a def's body keeps its promise -/
/-- names: the parameters first -/
structure FnScope (N P : List Str) (sc : Scope) : Prop where
  kind : sc.kind = .function
  co : sc.isCoroutine = false
  gen : sc.isGenerator = false
  nd : N.Nodup
  pre : N.take P.length = P
  par : ∀ x ∈ P, sc.names.lookup x = some .local ∨ sc.names.lookup x = some .cell
  nofree : ∀ y ∈ sc.names, y.2 ≠ .free

theorem bindL_out {kindOf : Str → Option NameKind} {x : Str} : ∀ {binds : List (Str × Value)} {m : Str → Option Value}, (∀ v, (x, v) ∉ binds) → bindL kindOf binds m x = m x
  | [], _, _ => rfl
  | (n, v) :: r, m, h => by
    unfold bindL
    rw [bindL_out fun w hw => h w (List.mem_cons_of_mem _ hw)]
    split
    · have : x ≠ n := by rintro rfl; exact h v List.mem_cons_self
      simp [this]
    · rfl
theorem bindC_out {kindOf : Str → Option NameKind} {x : Str} : ∀ {binds : List (Str × Value)} {m : Str → Option Value}, (∀ v, (x, v) ∉ binds) → bindC kindOf binds m x = m x
  | [], _, _ => rfl
  | (n, v) :: r, m, h => by
    unfold bindC
    rw [bindC_out fun w hw => h w (List.mem_cons_of_mem _ hw)]
    split
    · rfl
    · have : x ≠ n := by rintro rfl; exact h v List.mem_cons_self
      simp [this]
theorem bindL_get {kindOf : Str → Option NameKind} {x : Str} {v : Value} : ∀ {P : List Str} {vs : List Value} {i : Nat} {m : Str → Option Value}, P.Nodup → P[i]? = some x → vs[i]? = some v → kindOf x = some .local →
    bindL kindOf (P.zip vs) m x = some v
  | [], _, _, _, _, h, _, _ => by simp at h
  | _ :: _, [], _, _, _, _, h, _ => by simp at h
  | p :: P, w :: vs, 0, m, nd, h1, h2, hk => by
    simp at h1 h2; subst h1; subst h2
    show bindL kindOf ((p, w) :: P.zip vs) m p = _
    unfold bindL
    rw [bindL_out fun v hv => (List.nodup_cons.mp nd).1 (List.of_mem_zip hv).1, if_pos hk]
    simp
  | p :: P, w :: vs, i + 1, m, nd, h1, h2, hk => by
    show bindL kindOf ((p, w) :: P.zip vs) m x = _
    unfold bindL
    exact bindL_get (i := i) (List.nodup_cons.mp nd).2 (by simpa using h1) (by simpa using h2) hk
theorem bindC_get {kindOf : Str → Option NameKind} {x : Str} {v : Value} : ∀ {P : List Str} {vs : List Value} {i : Nat} {m : Str → Option Value}, P.Nodup → P[i]? = some x → vs[i]? = some v → kindOf x ≠ some .local →
    bindC kindOf (P.zip vs) m x = some v
  | [], _, _, _, _, h, _, _ => by simp at h
  | _ :: _, [], _, _, _, _, h, _ => by simp at h
  | p :: P, w :: vs, 0, m, nd, h1, h2, hk => by
    simp at h1 h2; subst h1; subst h2
    show bindC kindOf ((p, w) :: P.zip vs) m p = _
    unfold bindC
    rw [bindC_out fun v hv => (List.nodup_cons.mp nd).1 (List.of_mem_zip hv).1, if_neg hk]
    simp
  | p :: P, w :: vs, i + 1, m, nd, h1, h2, hk => by
    show bindC kindOf ((p, w) :: P.zip vs) m x = _
    unfold bindC
    exact bindC_get (i := i) (List.nodup_cons.mp nd).2 (by simpa using h1) (by simpa using h2) hk

/-- the names' values at the entry -/
def start (N : List Str) (vs : List V) : St := vs.map some ++ List.replicate (N.length - vs.length) none

/-- the context of a def's body, at its entry; an exception leaves the frame, then lies as CX says -/
def cxOf (CX : CXT) (P : Program) (w : World) (K : PySem.W.Frag) (mg : Str → Option Value) (base : Heap) (N : List Str) (qual : Str) (scope : Scope) (f : Addr) (cd : Value) (A : Around) (outer : List Env) (s : Shared) (H : Hp) (E : XK) : Cx where
  prog := P
  w := w
  K := K
  mg := mg
  base := base
  A := A.deeper (envOfC qual scope s.heap.objs.size f cd)
  N := N
  s₀ := s
  H₀ := H
  env := envOfC qual scope s.heap.objs.size f cd
  outer := outer
  stack := envOfC qual scope s.heap.objs.size f cd :: outer
  ex := []
  calm := true
  fn := fun _ => true
  pn := []
  xe := fun e s' => wpAny (model P w) (A.deeper (envOfC qual scope s.heap.objs.size f cd)) (leaving (envOfC qual scope s.heap.objs.size f cd) e) (fun _ s'' => CX outer H s E e s'') (fun e' s'' => CX outer H s E e' s'') s'

theorem cell_has {sc : Scope} {n : Nat} {x : Str} (h : sc.names.lookup x = some .cell) : ∃ c, (cellsFrom n sc.names []).lookup x = some c := by
  have q := PySem.W.cellsFrom_some sc.names n [] (.inl h)
  exact Option.isSome_iff_exists.mp q

theorem inv_start {CX : CXT} {P : Program} {w : World} {K : PySem.W.Frag} {mg : Str → Option Value} {base : Heap} {N ps : List Str} {qual : Str} {scope : Scope} {f : Addr} {cd : Value} {A : Around} {outer : List Env} {s s1 : Shared} {H : Hp} {E : XK} {us : List Value} {vs : List V}
    (S : FnScope N ps scope) (hd : A.handled = none) (e0 : Env0 P w K mg base A outer s H) (hl : vs.length = ps.length) (r : Vals vs us)
    (x : InCallC s s.heap.objs.size (bindL (envOfC qual scope s.heap.objs.size f cd).kindOf (ps.zip us) fun _ => none) (cellsFrom (s.heap.objs.size + 1) scope.names []) (bindC (envOfC qual scope s.heap.objs.size f cd).kindOf (ps.zip us) fun _ => none) s1) :
    Inv (cxOf CX P w K mg base N qual scope f cd A outer s H E) [] (start N vs) H s1 := by
  have hpl : ps.length ≤ N.length := by have := congrArg List.length S.pre; rw [List.length_take] at this; omega
  obtain ⟨h1, tk, rfl, hk⟩ := x.done
  have noA : ∀ b : Addr, b ∉ (cxOf CX P w K mg base N qual scope f cd A outer s H E).ex := fun b z => absurd (show b ∈ ([] : List Addr) from z) (by simp)
  refine ⟨⟨e0.mod, S.kind, rfl, rfl, Nat.le_refl _, fun y z c h1 h2 => ?_, fun y hy => ?_, fun y c _ h => ?_, fun _ => hd, Around.frames_deeper e0.frames, .inr ⟨rfl, rfl⟩, fun b z => absurd z (noA b), e0.bs, e0.bsz, fun b _ _ => noA b, fun b z => absurd z (noA b), e0.funs, e0.frf⟩,
    rfl, e0.bare, Un.kept hk, ⟨_, x.toInCall.ns, fun i y v h1 h2 h3 => ?_⟩, fun y c h => ⟨_, x.cell y c h⟩, e0.hok.fresh (Nat.le_refl _), fun y c h => ?_, fun p hp => absurd (show p ∈ ([] : List (Addr × Obj)) from hp) (by simp), e0.hok.kept hk, ?_⟩
  · exact name_of_addr x.apart (PySem.mem_of_lookup h1) (PySem.mem_of_lookup h2)
  · have hy : scope.names.lookup y = some .cell ∨ scope.names.lookup y = some .free := hy
    rcases hy with hy | hy
    · exact cell_has hy
    · exact absurd rfl (S.nofree _ (PySem.mem_of_lookup hy))
  · exact Nat.le_of_lt (x.above y c (PySem.mem_of_lookup h))
  · have hi : i < vs.length := by
      unfold start at h2
      by_cases hi : i < vs.length
      · exact hi
      · rw [List.getElem?_append_right (by simpa using hi)] at h2
        rw [List.getElem?_replicate] at h2
        split at h2 <;> cases h2
    have ha : vs[i]? = some v := by
      unfold start at h2
      rw [List.getElem?_append_left (by simpa using hi), List.getElem?_map] at h2
      cases e : vs[i]? with
      | none => rw [e] at h2; cases h2
      | some a => rw [e] at h2; cases h2; rfl
    obtain ⟨u, hu, rv⟩ := r.get ha
    have hp : ps[i]? = some y := by
      rw [← S.pre, List.getElem?_take_of_lt (by omega)]; exact h1
    have ndP : ps.Nodup := by rw [← S.pre]; exact S.nd.sublist (List.take_sublist _ _)
    refine ⟨u, rv, ?_⟩
    rcases S.par y (List.mem_of_getElem? hp) with k | k
    · exact .inl ⟨k, bindL_get ndP hp hu k⟩
    · obtain ⟨c, e⟩ := cell_has (n := s.heap.objs.size + 1) k
      refine .inr ⟨.inl k, c, e, ?_⟩
      have q := x.cell y c e
      rw [bindC_get ndP hp hu (by show scope.names.lookup y ≠ _; rw [k]; decide)] at q
      exact q
  · exact e0.hok.fresh (Nat.le_of_lt (x.above y c (PySem.mem_of_lookup h)))
  · unfold start
    show _ = N.length
    rw [List.length_append, List.length_map, List.length_replicate]
    omega

/-- THE RULE: a def (or a method) of the text, by its body. The body's reading t is chosen for each entry; it is run at the parameters' values -/
theorem fn_of {CX : CXT} {P : Program} {w : World} {K : PySem.W.Frag} {mg : Str → Option Value} {base : Heap} {k : Nat} {f : Addr} {name qual : Str} {params : Arguments} {body : List Stmt} {scope : Scope} {dV kV doc pm cdv ct oc : Value} {an od : Option Addr}
    {osl : Array (Option Value)} {N ps : List Str} {sp : Sp} (lk : K.lookup f = some ⟨oc, od, .func (PySem.W.fnOf name qual params body scope dV kV doc pm an cdv ct), osl⟩) (hcd : PySem.W.codeIn K cdv qual = true) (S : FnScope N ps scope)
    (len : ∀ vs H Q E, sp vs H Q E → vs.length = ps.length)
    (hbody : ∀ (A : Around) (outer : List Env) (s : Shared) (H : Hp) (vs : List V) (Q : VK) (E : XK), Room k (A.deeper (envOfC qual scope s.heap.objs.size f cdv)) → sp vs H Q E →
      ∃ t, PSs (cxOf CX P w K mg base N qual scope f cdv A outer s H E) body t ∧ t { nx := fun _ H' => Q .non H', rt := Q } (start N vs) H) :
    FnOk P w K mg base CX (k + 1) f (PySem.W.fnOf name qual params body scope dV kV doc pm an cdv ct) ps sp := by
  refine ⟨len, fun A outer s H args us vs Q E hr e0 hb r hsp => ?_⟩
  have hl := len _ _ _ _ hsp
  have KX : K.In s.heap := e0.mod.kin.keeps fun b o e => (e0.bs b o e).1
  have lim : s.heap.NoLimit := e0.mod.nolimit.keeps fun b o e => (e0.bs b o e).1
  have hkind : ∀ y ∈ ps.zip us, scope.names.lookup y.1 = some .local ∨ (scope.names.lookup y.1 = some .cell ∧ ((cellsFrom (s.heap.objs.size + 1) scope.names []).lookup y.1).isSome = true) := fun ⟨n, v⟩ hy => by
    rcases S.par n (List.of_mem_zip hy).1 with q | q
    · exact .inl q
    · exact .inr ⟨q, PySem.W.cellsFrom_some _ _ _ (.inl q)⟩
  refine codeAny_call_function hr.depth (KX _ _ lk) rfl S.co S.gen rfl (PySem.W.codeRec_of KX hcd) (hb _ _ _ _ ?_)
  refine wpAny_newFunctionEnv_cells S.kind hkind fun env he s1 x => ?_
  subst he
  refine ⟨lim.keeps x.toInCall.keep, codeAny_func ?_⟩
  obtain ⟨t, ht, hq⟩ := hbody A outer s H vs Q E (hr.deeper _) hsp
  have I : Inv (cxOf CX P w K mg base N qual scope f cdv A outer s H E) [] (start N vs) H s1 := inv_start S hr.hd e0 hl r x
  refine wpAny_mono (ht [] s1 (start N vs) H _ I hq) (fun fl s' hs => ?_) fun e s' hs => hs
  have fin : ∀ {σ' : St} {H' : Hp} {v : V} {u : Value}, Inv (cxOf CX P w K mg base N qual scope f cdv A outer s H E) [] σ' H' s' → RelV v u → Q v H' → CE outer P w H s Q u s' :=
    fun {σ' H' v u} J rv q => ⟨v, H', J.os, J.bare, J.base, J.hok, rv, q⟩
  cases fl with
  | ret u =>
    obtain ⟨v, σ', H', J, rv, q⟩ := hs
    exact fin J rv q
  | next =>
    obtain ⟨σ', H', J, q⟩ := hs
    exact fin (v := V.non) (u := Value.none) J rfl q
  | brk =>
    obtain ⟨_, _, _, q⟩ := hs
    exact False.elim q
  | cont =>
    obtain ⟨_, _, _, q⟩ := hs
    exact False.elim q
end L2

namespace L2
open PySem PySem.Spec PyProof.Rows
section
variable {X : Cx} {x : Str} {p pos : Pos} {e : Expr} {es : List Expr} {t : TA} {id T : String} {r : List V → Hp → VK → Prop}

def tCB (r : List V → Hp → VK → Prop) (t : TA) : TE := fun σ H Q => t σ H fun vs H1 => r vs H1 Q
/-- f(e, ..), f a built-in function -/
theorem pe_callB (hc : CallR X (.builtin id) r) (hg : Gl X x) (hm : X.mg x = none) (hv : bootBuiltins x = some (.builtin id)) (ha : PA X (e :: es) t) (hn : x ≠ "__name__" := by decide) (hdb : (x == ("__debug__" : Str)) = false := by decide)
    (he : starEach (e :: es) X.env = (false, eval e X.env) :: starEach es X.env := by rfl) (hpl : (backTo pos (starEach es X.env)).any (·.1) = false := by rfl) : PE X (.Call (.Name x p) (e :: es) [] pos) (tCB r t) := by
  intro pins s σ H Q I h
  refine wpAny_Call_Name_kw (ld_blt I hg hm hv ?_ hn hdb)
  exact PyProof.Rows.callWith_builtin1 (thn (ha pos pins s σ H _ I h) fun us s1 ⟨vs, H1, I1, r1, q1⟩ => hc pins s1 σ H1 vs us Q I1 r1 q1) he hpl
/-- T(e, ..), T a built-in type -/
theorem pe_callTy (hc : CallR X (.type T) r) (hg : Gl X x) (hm : X.mg x = none) (hv : bootBuiltins x = some (.type T)) (ha : PA X (e :: es) t) (hn : x ≠ "__name__" := by decide) (hdb : (x == ("__debug__" : Str)) = false := by decide)
    (he : starEach (e :: es) X.env = (false, eval e X.env) :: starEach es X.env := by rfl) (hpl : (backTo pos (starEach es X.env)).any (·.1) = false := by rfl) : PE X (.Call (.Name x p) (e :: es) [] pos) (tCB r t) := by
  intro pins s σ H Q I h
  refine wpAny_Call_Name_kw (ld_blt I hg hm hv ?_ hn hdb)
  exact PyProof.Rows.callWith_type1 (thn (ha pos pins s σ H _ I h) fun us s1 ⟨vs, H1, I1, r1, q1⟩ => hc pins s1 σ H1 vs us Q I1 r1 q1) he hpl

end
end L2

namespace HT
open PySem PyProof.Rows

/-- t < u of tuples of ints -/
def lexLt : List Int → List Int → Bool
  | [], [] => false
  | [], _ :: _ => true
  | _ :: _, [] => false
  | x :: xs, y :: ys => if x = y then lexLt xs ys else decide (x < y)








section
open PySem.SeqAt
open PySem.AutoSeq1 (wpAny_loadPart')
open PySem.MeetsSeq PySem.MeetsSeq2 PySem.MeetsSeq3


end

section
variable {prog : Program} {w : World} {A : Around} {E : Value → Shared → Prop} {s : Shared}





/-! ### t[a:b], not the whole -/
/-- a slice's bound as a place among n (d where it is left out) -/
def sIx (n d : Nat) : Option Int → Nat
  | none => d
  | some v => if v < 0 then (v + (n : Int)).toNat else min v.toNat n











end
end HT

namespace L2
open PySem PySem.Spec PyProof.Rows

/-! ### the parts of a slice -/
abbrev TO := St → Hp → (Option Int → Hp → Prop) → Prop
/-- a slice's part (left out, or an int) -/
def PO (X : Cx) (e : Option Expr) (t : TO) : Prop :=
  ∀ (pins : List (Addr × Obj)) (s : Shared) (σ : St) (H : Hp) (Q : Option Int → Hp → Prop), Inv X pins σ H s → t σ H Q →
    wpAny (model X.prog X.w) X.A (evalPart e X.env) (fun u s' => ∃ o H', Inv X pins σ H' s' ∧ IsPart u o ∧ Q o H') X.xe s
def tNoPart : TO := fun _ H Q => Q none H
def tPart (t : TE) : TO := fun σ H Q => t σ H fun x H1 => ∃ i, x = .int i ∧ Q (some i) H1



section
variable {X : Cx} {e : Expr} {te : TE} {lo hi : Option Expr} {tl th : TO} {pos p2 : Pos}

theorem po_none : PO X none tNoPart := by
  intro pins s σ H Q I h
  rw [evalPart_none]
  exact wpAny_pure ⟨none, H, I, .none, h⟩
theorem po_some (h : PE X e te) : PO X (some e) (tPart te) := by
  intro pins s σ H Q I hw
  rw [evalPart_some]
  refine thn (h pins s σ H _ I hw) fun u s1 ⟨x, H1, I1, r1, q1⟩ => ?_
  obtain ⟨i, rfl, q⟩ := q1
  obtain ⟨t, rfl⟩ := r1
  exact ⟨some i, H1, I1, .int i t, q⟩

/-- what a slice of a value is, by values: the slice object stands at sl -/
def SlR (X : Cx) (r : V → Option Int → Option Int → Hp → VK → Prop) : Prop :=
  ∀ (pins : List (Addr × Obj)) (s : Shared) (σ : St) (H : Hp) (x : V) (v vl vu : Value) (lo hi : Option Int) (sl : Addr) (Q : VK), Inv X pins σ H s → RelV x v → s.heap.IsSliceOf sl vl vu .none → IsPart vl lo → IsPart vu hi → r x lo hi H Q →
    ∃ T id, typeLookup (.type T) "__getitem__" = pure (some (.builtin id)) ∧ s.TypeIs v T ∧ wpAny (model X.prog X.w) X.A (getItem v (.ref sl)) (EP X pins σ Q) X.xe s

def tSl (r : V → Option Int → Option Int → Hp → VK → Prop) (te : TE) (tl th : TO) : TE := fun σ H Q => te σ H fun x H1 => tl σ H1 fun l H2 => th σ H2 fun u H3 => r x l u H3 Q
/-- a[lo:hi], any a -/
theorem pe_slice {r : V → Option Int → Option Int → Hp → VK → Prop} (hr : SlR X r) (he : PE X e te) (hl : PO X lo tl) (hu : PO X hi th) : PE X (.Subscript e (.Slice lo hi none p2) pos) (tSl r te tl th) := by
  intro pins s σ H Q I h
  refine Subscript_ (thn (he pins s σ H _ I h) fun v s1 ⟨x, H1, I1, r1, q1⟩ => ?_)
  refine wpAny_Slice (thn (hl pins s1 σ H1 _ I1 q1) fun vl s2 ⟨l, H2, I2, pl, q2⟩ => thn (hu pins s2 σ H2 _ I2 q2) fun vu s3 ⟨u, H3, I3, pu, q3⟩ => ?_)
  rw [evalPart_none]
  refine wpAny_pure ?_
  have I4 : Inv X pins σ H3 { s3 with heap := s3.heap.push { cls := .type "slice", data := .fields #[vl, vu, .none] } } := I3.kept (t' := s3.toks) fun b ob q => Heap.get?_push_of_some _ q
  obtain ⟨T, id, hT, ht, hg⟩ := hr pins { s3 with heap := s3.heap.push { cls := .type "slice", data := .fields #[vl, vu, .none] } } σ H3 x v vl vu l u s3.heap.objs.size Q I4 r1 (Heap.IsSliceOf.new ..) pl pu q3
  show wpAny (model X.prog X.w) X.A (subscriptTail e (.Slice lo hi none p2) v (.ref s3.heap.objs.size)) (EP X pins σ Q) X.xe { s3 with heap := s3.heap.push { cls := .type "slice", data := .fields #[vl, vu, .none] } }
  exact tail_any (ops := [.ref s3.heap.objs.size, v]) ht hT hg (by with_unfolding_all rfl)

/-- the items of xs[lo:hi] -/
def cutV (xs : List V) (lo hi : Option Int) : List V := (xs.drop (HT.sIx xs.length 0 lo)).take (HT.sIx xs.length xs.length hi - HT.sIx xs.length 0 lo)

/-- t[lo:hi], not the whole of it (the whole would be t itself) -/
def rSlT (K : PySem.W.Frag) : V → Option Int → Option Int → Hp → VK → Prop := fun x lo hi H Q => ∃ a xs, x = .ref a ∧ SqT K H a xs ∧
  ¬ (HT.sIx xs.length 0 lo = 0 ∧ HT.sIx xs.length xs.length hi = xs.length) ∧ ∀ p, H p = none → Q (.ref p) (upd H p (.tup (cutV xs lo hi)))


/-! ### t < u, t + u -/
def rLtT (K : PySem.W.Frag) : R2 := fun x y H Q => ∃ a b ns ms, x = .ref a ∧ y = .ref b ∧ SqT K H a (ns.map V.int) ∧ SqT K H b (ms.map V.int) ∧ Q (.bl (HT.lexLt ns ms)) H

/-- t + u, t not empty: u empty gives t itself -/
def rCatT (K : PySem.W.Frag) : R2 := fun x y H Q => ∃ a b xs ys, x = .ref a ∧ y = .ref b ∧ SqT K H a xs ∧ SqT K H b ys ∧ xs ≠ [] ∧ xs.length + ys.length ≤ sizeLine ∧
  (ys = [] → Q (.ref a) H) ∧ (ys ≠ [] → ∀ p, H p = none → Q (.ref p) (upd H p (.tup (xs ++ ys))))



end
end L2

namespace L2
open PySem PySem.Spec PyProof.Rows

/-! ### places -/
/-- the place that an index of any sign means -/
def ixN (n : Nat) (i : Int) : Option Nat := if 0 ≤ i then (if i < n then some i.toNat else none) else if -(n : Int) ≤ i then some (i + n).toNat else none
def atI {α : Type} (xs : List α) (i : Int) : Option α := (ixN xs.length i).bind fun j => xs[j]?
theorem ixN_seq {n : Nat} {i : Int} {j : Nat} (h : ixN n i = some j) : seqIndex? i n = some j ∧ j < n ∧ -(n : Int) ≤ i ∧ i < n := by
  unfold ixN at h
  by_cases h0 : 0 ≤ i
  · rw [if_pos h0] at h
    by_cases h1 : i < n
    · rw [if_pos h1] at h
      have e : i.toNat = j := Option.some.inj h
      exact ⟨by rw [seqIndex_of h0 h1, e], by omega, by omega, h1⟩
    · rw [if_neg h1] at h; cases h
  · rw [if_neg h0] at h
    by_cases h1 : -(n : Int) ≤ i
    · rw [if_pos h1] at h
      have e : (i + n).toNat = j := Option.some.inj h
      exact ⟨by rw [seqIndex_neg (by omega) h1, e], by omega, h1, by omega⟩
    · rw [if_neg h1] at h; cases h
theorem atI_get {α : Type} {xs : List α} {i : Int} {v : α} (h : atI xs i = some v) : ∃ j, seqIndex? i xs.length = some j ∧ xs[j]? = some v ∧ j < xs.length ∧ -(xs.length : Int) ≤ i ∧ i < xs.length := by
  unfold atI at h
  cases e : ixN xs.length i with
  | none => rw [e] at h; cases h
  | some j =>
    rw [e] at h
    obtain ⟨h1, h2, h3, h4⟩ := ixN_seq e
    exact ⟨j, h1, h, h2, h3, h4⟩



/-! ### what may be subscripted -/
/-- what stands as an index of a plain subscript -/
def PlainIx (b : Expr) : Prop := ∀ o i, subscripted b false o i = operate [o, i] (getItem o i)
/-- a subscript by values -/
def IxR (X : Cx) (r : R2) : Prop :=
  ∀ (value slice : Expr) (pins : List (Addr × Obj)) (s : Shared) (σ : St) (H : Hp) (x y : V) (v u : Value) (Q : VK), Inv X pins σ H s → RelV x v → RelV y u → r x y H Q →
    subscripted slice false v u = operate [v, u] (getItem v u) → wpAny (model X.prog X.w) X.A (subscriptTail value slice v u) (EP X pins σ Q) X.xe s
/-- a call of a builtin's method by values: the receiver, the arguments -/
def MtR (X : Cx) (id : String) (r : V → List V → Hp → VK → Prop) : Prop :=
  ∀ (pins : List (Addr × Obj)) (s : Shared) (σ : St) (H : Hp) (x : V) (xs : List V) (v : Value) (us : List Value) (Q : VK), Inv X pins σ H s → RelV x v → Vals xs us → r x xs H Q →
    wpAny (model X.prog X.w) X.A (call (.builtin id) (v :: us)) (EP X pins σ Q) X.xe s
section
variable {X : Cx} {a b : Expr} {ta tb : TE} {pos : Pos}


/-- a[b] -/
theorem pe_ix {r : R2} (hr : IxR X r) (ha : PE X a ta) (hb : PE X b tb) (hs : PlainIx b) : PE X (.Subscript a b pos) (tOp r ta tb) := by
  intro pins s σ H Q I h
  exact Subscript_ (binT ha hb I h fun v u s2 x y H2 I2 rx ry q => hr a b pins s2 σ H2 x y v u Q I2 rx ry q (hs _ _))

def rIxL (K : PySem.W.Frag) : R2 := fun x y H Q => ∃ p xs i v, x = .ref p ∧ y = .int i ∧ SqL K H p xs ∧ atI xs i = some v ∧ Q v H
def rIxT (K : PySem.W.Frag) : R2 := fun x y H Q => ∃ p xs i v, x = .ref p ∧ y = .int i ∧ SqT K H p xs ∧ atI xs i = some v ∧ Q v H
def rIxS : R2 := fun x y H Q => ∃ z i c, x = .str z ∧ y = .int i ∧ z.length ≤ sizeLine ∧ atI z.cps.toList i = some c ∧ Q (.str ⟨#[c]⟩) H
theorem ix_list : IxR X (rIxL X.K) := by
  intro value slice pins s σ H x y v u Q I rx ry h hs
  obtain ⟨p, xs, i, z, rfl, rfl, hq, he, q⟩ := h
  cases rx
  obtain ⟨t, rfl⟩ := ry
  obtain ⟨its, r, pl, hz⟩ := I.list hq
  obtain ⟨j, h1, h2, h3, h4, h5⟩ := atI_get he
  obtain ⟨w, ew, rw'⟩ := r.get h2
  have hl := r.length
  have hn := line63
  have fin : EP X pins σ Q w s := ⟨z, H, I, rw', q⟩
  by_cases h0 : 0 ≤ i
  · have hj : i.toNat = j := by
      rw [seqIndex_of h0 h5] at h1
      exact Option.some.inj h1
    exact item_listR pl.isList h0 (by omega) (by rw [hj]; simpa using ew) fin hs
  · have hj : (i + (its.toArray.size : Int)).toNat = j := by
      rw [seqIndex_neg (by omega) h4] at h1
      rw [List.size_toArray, ← hl]
      exact Option.some.inj h1
    exact subscriptTail_builtinR (x := w) pl.isList.typeIs slot_list_getitem.lookup
      (wpAny_getItem_list_neg (Q := fun r s' => r = w ∧ EP X pins σ Q r s') pl.isList (by omega) (by rw [List.size_toArray] <;> omega) (by omega) (by rw [hj]; simpa using ew) ⟨rfl, fin⟩) hs

theorem ix_str : IxR X rIxS := by
  intro value slice pins s σ H x y v u Q I rx ry h hs
  obtain ⟨z, i, c, rfl, rfl, hz, he, q⟩ := h
  obtain ⟨t, rfl⟩ := rx
  obtain ⟨t', rfl⟩ := ry
  obtain ⟨j, h1, h2, h3, h4, h5⟩ := atI_get he
  have hl : z.cps.toList.length = z.length := by simp [Str.length]
  rw [hl] at h1 h4 h5
  have hn := line63
  exact tail_any (typeIs_str s z t) slot_str_getitem.lookup (getItem_str (c := c) (by
    have e1 : decide (i < -(2 ^ 63 : Int)) = false := decide_eq_false (by omega)
    have e2 : decide (i ≥ 2 ^ 63) = false := decide_eq_false (by omega)
    rw [e1, e2, Bool.or_false]) (by rw [h1]; simpa using h2) ⟨.str ⟨#[c]⟩, H, I.tok _, ⟨_, rfl⟩, q⟩) hs
/-- list, tuple or str -/
def rIx (K : PySem.W.Frag) : R2 := fun x y H Q => rIxL K x y H Q ∨ rIxT K x y H Q ∨ rIxS x y H Q


/-! ### xs[i] = v, any sign -/
/-- the list's object behind a store -/
theorem mapSeq_set (its : List Value) (n j : Nat) (u : Value) : Obj.mapSeq (·.setIfInBounds j u) { cls := .type "list", data := .seq its.toArray n } = { cls := .type "list", data := .seq (its.set j u).toArray n } := by
  simp [Obj.mapSeq]
theorem Inv.lst {pins : List (Addr × Obj)} {σ : St} {H : Hp} {s : Shared} {p : Addr} {xs : List V} (I : Inv X pins σ H s) (h : H p = some (.lst xs)) :
    ∃ (its : List Value) (n : Nat), Vals xs its ∧ s.heap.get? p = some { cls := .type "list", data := .seq its.toArray n } ∧ xs.length ≤ sizeLine := by
  obtain ⟨z, its, n, r, e⟩ := I.hok p _ h
  exact ⟨its, n, r, e, z⟩
/-- the list at p is written by an update of its object -/
theorem Inv.lstUpd {pins : List (Addr × Obj)} {σ : St} {H : Hp} {s : Shared} {p : Addr} {xs ys : List V} {its its' : List Value} {n n' : Nat} {f : Obj → Obj} (I : Inv X pins σ H s) (h : H p = some (.lst xs))
    (ho : s.heap.get? p = some { cls := .type "list", data := .seq its.toArray n }) (hf : f { cls := .type "list", data := .seq its.toArray n } = { cls := .type "list", data := .seq its'.toArray n' }) (r : Vals ys its') (hz : ys.length ≤ sizeLine) (t : Nat) :
    Inv X pins σ (upd H p (.lst ys)) { s with heap := s.heap.update p f, toks := t } := by
  have e : (s.heap.update p f).get? p = some { cls := .type "list", data := .seq its'.toArray n' } := by
    rw [Heap.get?_update_self f ho (by rw [hf] <;> rfl), hf]
  refine I.write (x := p) (e := p) (by rw [h]; trivial) (.inl rfl) (fun b u hb q => (Heap.get?_update_other _ _ (Ne.symm hb)).trans q) ⟨_, e⟩ ?_
  exact ⟨hz, its', n', r, e⟩
def rSetL : V → V → V → Hp → (Hp → Prop) → Prop := fun o i v H Q => ∃ p xs k j, o = .ref p ∧ i = .int k ∧ H p = some (.lst xs) ∧ ixN xs.length k = some j ∧ Q (upd H p (.lst (xs.set j v)))
theorem set_list : PSet X rSetL := by
  intro pins s σ H o i v ov iv u Q I ro ri rv h
  obtain ⟨p, xs, k, j, rfl, rfl, hp, hj, q⟩ := h
  cases ro
  obtain ⟨t, rfl⟩ := ri
  obtain ⟨its, n, r, ho, hz⟩ := I.lst hp
  obtain ⟨h1, h2, h3, h4⟩ := ixN_seq hj
  have hl := r.length
  have hn := line63
  have I' : Inv X pins σ (upd H p (.lst (xs.set j v))) { s with heap := s.heap.update p (Obj.mapSeq (·.setIfInBounds j u)) } :=
    I.lstUpd hp ho (mapSeq_set its n j u) (r.set rv j) (by rw [List.length_set]; exact hz) s.toks
  by_cases h0 : 0 ≤ k
  · have hk : k.toNat = j := by
      rw [seqIndex_of h0 h4] at h1
      exact Option.some.inj h1
    exact PySem.W.ki_setAt ho h0 (by omega) (by rw [List.size_toArray, ← hl]; exact h4) (by rw [hk]; exact ⟨_, I', q⟩)
  · have hk : (k + (its.toArray.size : Int)).toNat = j := by
      rw [seqIndex_neg (by omega) h3] at h1
      rw [List.size_toArray, ← hl]
      exact Option.some.inj h1
    exact PySem.W.ki_setBack ho (by omega) (by rw [List.size_toArray, ← hl]; exact h3) (by omega) (by rw [hk]; exact ⟨_, I', q⟩)

/-! ### slices -/


/-- xs[lo:hi] of a list: a new list -/
def rSlL (K : PySem.W.Frag) : V → Option Int → Option Int → Hp → VK → Prop := fun x lo hi H Q => ∃ a xs, x = .ref a ∧ SqL K H a xs ∧ ∀ p, H p = none → Q (.ref p) (upd H p (.lst (cutV xs lo hi)))


/-! ### in, not in: flat items -/
def flatV : V → Bool
  | .non => true
  | .bl _ => true
  | .int _ => true
  | .str _ => true
  | _ => false
/-- == of flat values -/
def eqV : V → V → Bool
  | .non, .non => true
  | .bl a, .bl b => a == b
  | .bl a, .int b => (if a then 1 else 0) == b
  | .int a, .bl b => a == (if b then 1 else 0)
  | .int a, .int b => a == b
  | .str a, .str b => a == b
  | _, _ => false
theorem eqAt_V {A : Around} {s : Shared} {y x : V} {u v : Value} (ry : RelV y u) (rx : RelV x v) (fy : flatV y = true) (fx : flatV x = true) : SeqAt.EqAt A s u v (eqV y x) := by
  cases y with
  | non =>
    cases ry
    cases x with
    | non => cases rx; exact SeqAt.EqAt.same _
    | bl b => cases rx; exact SeqAt.EqAt.none_bool b
    | int b => obtain ⟨t, rfl⟩ := rx; exact SeqAt.EqAt.none_int b t
    | str b => obtain ⟨t, rfl⟩ := rx; exact SeqAt.EqAt.none_str b t
    | _ => exact absurd (show false = true from fx) Bool.false_ne_true
  | bl a =>
    cases ry
    cases x with
    | non => cases rx; exact SeqAt.EqAt.bool_none a
    | bl b => cases rx; exact SeqAt.EqAt.bool_bool a b
    | int b => obtain ⟨t, rfl⟩ := rx; exact SeqAt.EqAt.bool_int a b t
    | str b => obtain ⟨t, rfl⟩ := rx; exact SeqAt.EqAt.bool_str a b t
    | _ => exact absurd (show false = true from fx) Bool.false_ne_true
  | int a =>
    obtain ⟨t', rfl⟩ := ry
    cases x with
    | non => cases rx; exact SeqAt.EqAt.int_none a t'
    | bl b => cases rx; exact SeqAt.EqAt.int_bool a t' b
    | int b => obtain ⟨t, rfl⟩ := rx; exact SeqAt.EqAt.int_int a t' b t
    | str b => obtain ⟨t, rfl⟩ := rx; exact SeqAt.EqAt.int_str a t' b t
    | _ => exact absurd (show false = true from fx) Bool.false_ne_true
  | str a =>
    obtain ⟨t', rfl⟩ := ry
    cases x with
    | non => cases rx; exact SeqAt.EqAt.str_none a t'
    | bl b => cases rx; exact SeqAt.EqAt.str_bool a t' b
    | int b => obtain ⟨t, rfl⟩ := rx; exact SeqAt.EqAt.str_int a t' b t
    | str b => obtain ⟨t, rfl⟩ := rx; exact SeqAt.EqAt.str_str a t' b t
    | _ => exact absurd (show false = true from fx) Bool.false_ne_true
  | _ => exact absurd (show false = true from fy) Bool.false_ne_true
/-- the items' answers, read off the values (a value's own answer does not lean on its token) -/
def eqU (x : V) (u : Value) : Bool := match u with
  | .none => eqV .non x
  | .bool b => eqV (.bl b) x
  | .int i _ => eqV (.int i) x
  | .str z _ => eqV (.str z) x
  | _ => false



def inV (x : V) (xs : List V) : Bool := xs.any fun y => eqV y x
/-- x in a list or tuple of flat items -/
def rIn (K : PySem.W.Frag) (neg : Bool) : R2 := fun x y H Q => ∃ p xs, y = .ref p ∧ (SqL K H p xs ∨ SqT K H p xs) ∧ flatV x = true ∧ xs.all flatV = true ∧ Q (.bl (if neg then !inV x xs else inV x xs)) H




/-! ### len, list(x), tuple(x) of any list or tuple that is read -/
theorem call_len_seq : CallR X (.builtin "len") (fun xs H Q => ∃ p ys, xs = [.ref p] ∧ (SqL X.K H p ys ∨ SqT X.K H p ys) ∧ Q (.int ys.length) H) := by
  intro pins s σ H xs us Q I r h
  obtain ⟨p, ys, rfl, hq, q⟩ := h
  obtain ⟨u, rfl, rx⟩ := vals1 r
  cases rx
  have hn := line63
  rcases hq with hq | hq
  · obtain ⟨its, r', pl, hz⟩ := I.list hq
    have hlen := r'.length
    exact Calls.call_len_list pl.isList (by simp only [List.size_toArray] <;> omega) ⟨.int ys.length, H, I.tok _, ⟨s.toks + 1, by rw [List.size_toArray, hlen]⟩, q⟩
  · obtain ⟨its, r', pl, hz⟩ := I.tuple hq
    have hlen := r'.length
    exact len_tuple pl (by simp only [List.size_toArray] <;> omega) ⟨.int ys.length, H, I.tok _, ⟨s.toks + 1, by rw [List.size_toArray, hlen]⟩, q⟩
theorem call_len_str : CallR X (.builtin "len") (fun xs H Q => ∃ z, xs = [.str z] ∧ z.length ≤ sizeLine ∧ Q (.int z.length) H) := by
  intro pins s σ H xs us Q I r h
  obtain ⟨z, rfl, hz, q⟩ := h
  obtain ⟨u, rfl, t, rfl⟩ := vals1 r
  have hn := line63
  exact len_str (by omega) ⟨.int z.length, H, I.tok _, ⟨_, rfl⟩, q⟩

theorem call_list_of : CallR X (.type "list") (fun xs H Q => ∃ p ys, xs = [.ref p] ∧ (SqL X.K H p ys ∨ SqT X.K H p ys) ∧ ∀ l, H l = none → Q (.ref l) (upd H l (.lst ys))) := by
  intro pins s σ H xs us Q I r h
  obtain ⟨p, ys, rfl, hq, q⟩ := h
  obtain ⟨u, rfl, rx⟩ := vals1 r
  cases rx
  have fin : ∀ (its : List Value), Vals ys its → ys.length ≤ sizeLine → ∀ (h' : Heap) (c' : Nat), (∀ b o', s.heap.get? b = some o' → h'.get? b = some o') →
      h'.get? s.heap.objs.size = some { cls := .type "list", dict := none, data := .seq its.toArray c', slots := #[] } → EP X pins σ Q (.ref s.heap.objs.size) { s with heap := h' } := fun its r' hz h' c' kp e =>
    ⟨.ref s.heap.objs.size, _, I.laid (t' := s.toks) kp (Nat.le_refl _) (show ObjOk X.prog X.w _ h' _ (.lst ys) from ⟨hz, its, c', r', e⟩), rfl, q _ (I.hok.fresh (Nat.le_refl _))⟩
  rcases hq with hq | hq
  · obtain ⟨its, r', pl, hz⟩ := I.list hq
    have hlen := r'.length
    obtain ⟨o, ho, hc, n, hd⟩ := pl.isList
    exact call_list_seq p (.inl rfl) ho hc hd (fun h' c' kp e => fin its r' hz h' c' kp e) (by simp only [List.size_toArray] <;> omega)
  · obtain ⟨its, r', pl, hz⟩ := I.tuple hq
    have hlen := r'.length
    obtain ⟨o, ho, hc, n, hd⟩ := pl
    exact call_list_seq p (.inr rfl) ho hc hd (fun h' c' kp e => fin its r' hz h' c' kp e) (by simp only [List.size_toArray] <;> omega)
theorem call_tuple_of : CallR X (.type "tuple") (fun xs H Q => ∃ p ys, xs = [.ref p] ∧ ((SqL X.K H p ys ∧ ∀ l, H l = none → Q (.ref l) (upd H l (.tup ys))) ∨ (SqT X.K H p ys ∧ Q (.ref p) H))) := by
  intro pins s σ H xs us Q I r h
  obtain ⟨p, ys, rfl, h⟩ := h
  obtain ⟨u, rfl, rx⟩ := vals1 r
  cases rx
  rcases h with ⟨hq, q⟩ | ⟨hq, q⟩
  · obtain ⟨its, r', pl, hz⟩ := I.list hq
    have hlen := r'.length
    refine call_tuple_list pl.isList (fun h' kp => ?_) (by simp only [List.size_toArray] <;> omega)
    have I1 : Inv X pins σ H { s with heap := h' } := I.kept (t' := s.toks) kp
    have I2 : Inv X pins σ (upd H h'.objs.size (.tup ys)) { s with heap := h'.push { cls := .type "tuple", data := .seq its.toArray } } :=
      I1.laid (t' := s.toks) (fun b o e => Heap.get?_push_of_some _ e) (Nat.le_refl _) (show ObjOk X.prog X.w _ _ _ (.tup ys) from ⟨hz, its, r', IsTup.new _ _⟩)
    exact ⟨.ref h'.objs.size, _, I2, rfl, q _ (I1.hok.fresh (Nat.le_refl _))⟩
  · obtain ⟨its, r', pl, hz⟩ := I.tuple hq
    exact call_tuple_same pl ⟨.ref p, H, I, rfl, q⟩

/-! ### the call of a builtin's method: o.m(..) -/
/-- the value is of that builtin type -/
def tyV (K : PySem.W.Frag) (T : String) (x : V) (H : Hp) : Prop := match x with
  | .str _ => T = "str"
  | .int _ => T = "int"
  | .ref p => (T = "list" ∧ ∃ xs, SqL K H p xs) ∨ (T = "tuple" ∧ ∃ o, K.lookup p = some o ∧ o.cls = .type "tuple" ∧ o.dict = none) ∨
      (T = "dict" ∧ ((∃ kvs, H p = some (.dK kvs)) ∨ ∃ kvs, H p = some (.dT kvs))) ∨ (T = "set" ∧ ∃ S n, H p = some (.set S n))
  | _ => False
theorem tyV_is {pins : List (Addr × Obj)} {σ : St} {H : Hp} {s : Shared} {T : String} {x : V} {v : Value} (I : Inv X pins σ H s) (r : RelV x v) (ty : tyV X.K T x H) :
    s.TypeIs v T ∧ ∀ a, v = .ref a → ∃ ob, s.heap.get? a = some ob ∧ ob.dict = none := by
  cases x with
  | str z =>
    obtain ⟨t, rfl⟩ := r
    cases (show T = "str" from ty)
    exact ⟨typeIs_str s z t, fun _ e => nomatch e⟩
  | int i =>
    obtain ⟨t, rfl⟩ := r
    cases (show T = "int" from ty)
    exact ⟨typeIs_int s i t, fun _ e => nomatch e⟩
  | ref p =>
    cases r
    rcases ty with ⟨rfl, xs, hq⟩ | ⟨rfl, o, hk, hc, hd⟩ | ⟨rfl, hk⟩ | ⟨rfl, S, n, hk⟩
    · obtain ⟨its, _, pl, _⟩ := I.list hq
      refine ⟨pl.isList.typeIs, fun a e => ?_⟩
      cases e
      obtain ⟨o, n, e, c, hd, _⟩ := pl
      exact ⟨o, e, hd⟩
    · refine ⟨⟨o, I.kIn p o hk, hc⟩, fun a e => ?_⟩
      cases e
      exact ⟨o, I.kIn _ o hk, hd⟩
    · have z : ∃ o, s.heap.get? p = some o ∧ o.ExactDict := by
        rcases hk with ⟨kvs, hk⟩ | ⟨kvs, hk⟩
        · obtain ⟨_, _, _, _, o, _, _, e, ex, _⟩ := I.hok p _ hk
          exact ⟨o, e, ex⟩
        · obtain ⟨_, _, _, _, o, _, _, e, ex, _⟩ := I.hok p _ hk
          exact ⟨o, e, ex⟩
      obtain ⟨o, e, ex⟩ := z
      refine ⟨⟨o, e, ex.1⟩, fun a e2 => ?_⟩
      cases e2
      exact ⟨o, e, ex.2.1⟩
    · obtain ⟨o, _, _, _, e, ex, _⟩ := I.hok p _ hk
      refine ⟨⟨o, e, ex.1⟩, fun a e2 => ?_⟩
      cases e2
      exact ⟨o, e, ex.2.1⟩
  | _ => exact False.elim ty
def tBM0 (K : PySem.W.Frag) (T : String) (r : V → List V → Hp → VK → Prop) (to : TE) : TE := fun σ H Q => to σ H fun x H1 => tyV K T x H1 ∧ r x [] H1 Q
def tBM (K : PySem.W.Frag) (T : String) (r : V → List V → Hp → VK → Prop) (to : TE) (t : TA) : TE := fun σ H Q => to σ H fun x H1 => tyV K T x H1 ∧ t σ H1 fun xs H2 => r x xs H2 Q
variable {o e : Expr} {es : List Expr} {to : TE} {t : TA} {name : Str} {apos cpos : Pos} {T id : String} {r : V → List V → Hp → VK → Prop}

theorem pe_bm (pa : PlainAttrs T) (slot : Slot T name id) (hty : typeOf (.builtin id) = pure (.type "method_descriptor")) (hm : MtR X id r) (ho : PE X o to) (ha : PA X (e :: es) t)
    (hbase : attributeBase o name X.env (eval o X.env) = eval o X.env := by rfl)
    (hfew : ((backTo cpos (starEach (e :: es) X.env)).all (fun x => !x.1) && (backToKw cpos (keywordEach [] X.env)).all (fun x => x.1.isSome)
      && decide ((e :: es).length + ([] : List Keyword).length + (if ([] : List Keyword).isEmpty then 0 else 1) < 30)) = true := by rfl)
    (hline : (apos.endLine == cpos.line) = true := by rfl) (hs : starEach (e :: es) X.env = (false, eval e X.env) :: starEach es X.env := by rfl) (hplain : (backTo cpos (starEach es X.env)).any (·.1) = false := by rfl) :
    PE X (.Call (.Attribute o name apos) (e :: es) [] cpos) (tBM X.K T r to t) := by
  intro pins s σ H Q I h
  refine wpAny_Call_method_late hbase hfew hline rfl (thn (ho pins s σ H _ I h) fun v s1 ⟨x, H1, I1, r1, ty, q1⟩ => ?_)
  obtain ⟨h1, h2⟩ := tyV_is I1 r1 ty
  refine ⟨T, id, pa, slot, hty, h1, h2, ?_⟩
  have hA := ha cpos pins s1 σ H1 _ I1 q1
  rw [hs] at hA ⊢
  refine Calls.callWith_builtin (by show (false || (backTo cpos (starEach es X.env)).any (·.1)) = false; rw [hplain] <;> rfl) (Calls.evalArgs_plain ?_)
  exact thn hA fun us s2 ⟨vs, H2, I2, r2, q2⟩ => hm pins s2 σ H2 x vs v us Q I2 r1 r2 q2
/- xs.append(e), list.index on a module's tuple .. are MtR facts of 06m -/
end
end L2

namespace L2
open PySem PySem.Spec PyProof.Rows

def MtM (X : Cx) (id : String) (r : V → List V → Hp → VK → Prop) : Prop :=
  ∀ (pins : List (Addr × Obj)) (s : Shared) (σ : St) (H : Hp) (x : V) (xs : List V) (v : Value) (us : List Value) (Q : VK), Inv X pins σ H s → RelV x v → Vals xs us → r x xs H Q →
    wpAny (model X.prog X.w) X.A (call (.builtin id) (v :: us)) (EP X pins σ Q) X.xe s

/-! ### lists of values -/
theorem Vals.one : ∀ {x : V} {us : List Value}, Vals [x] us → ∃ u, us = [u] ∧ RelV x u
  | _, _, .cons r .nil => ⟨_, rfl, r⟩










section
variable {X : Cx} {pins : List (Addr × Obj)} {σ : St} {H : Hp} {s : Shared} {l b : Addr} {xs ys zs : List V}

/-! ### the two steps: a tracked list is rewritten, a new list is laid -/
theorem Inv.lset {its its' : List Value} {n : Nat} {f : Array Value → Array Value} {t' : Nat} (I : Inv X pins σ H s) (hH : H l = some (.lst xs))
    (e : s.heap.get? l = some { cls := .type "list", data := .seq its.toArray n }) (hf : f its.toArray = its'.toArray) (hv : Vals ys its') (hz : ys.length ≤ sizeLine) :
    Inv X pins σ (upd H l (.lst ys)) { s with heap := s.heap.update l (Obj.mapSeq f), toks := t' } := by
  have q := PySem.IsL.update e f
  rw [hf] at q
  refine I.write (x := l) (e := l) (by rw [hH]; exact trivial) (.inl rfl) (fun b' u hb hu => (Heap.get?_update_other s.heap (Obj.mapSeq f) (Ne.symm hb)).trans hu) ⟨_, q⟩ ?_
  exact ⟨hz, its', _, hv, q⟩
theorem Inv.lnew {its : List Value} {t' : Nat} (I : Inv X pins σ H s) (hv : Vals ys its) (hz : ys.length ≤ sizeLine) :
    Inv X pins σ (upd H s.heap.objs.size (.lst ys)) { s with heap := s.heap.push { cls := .type "list", data := .seq its.toArray }, toks := t' } :=
  I.laid (fun _ _ q => Heap.get?_push_of_some _ q) (Nat.le_refl _) ⟨hz, its, 0, hv, Heap.get?_push_size _ rfl⟩
theorem Inv.fresh (I : Inv X pins σ H s) : H s.heap.objs.size = none := I.hok.fresh (Nat.le_refl _)
theorem Inv.lstM (I : Inv X pins σ H s) (hH : H l = some (.lst xs)) : xs.length ≤ sizeLine ∧ ∃ (its : List Value) (n : Nat), Vals xs its ∧ xs.length = its.length ∧ s.heap.get? l = some { cls := .type "list", data := .seq its.toArray n } := by
  obtain ⟨z, its, n, r, e⟩ := I.hok l _ hH
  exact ⟨z, its, n, r, r.length, e⟩

theorem notLongL {n : Nat} (h : n ≤ sizeLine) : Builtin.List.listTooLong n = false := by
  unfold Builtin.List.listTooLong
  exact decide_eq_false (by omega)
end

section
variable {X : Cx}

/-! ### methods -/
def rAppend : V → List V → Hp → VK → Prop := fun x vs H Q => ∃ l xs y, x = .ref l ∧ vs = [y] ∧ H l = some (.lst xs) ∧ xs.length < sizeLine ∧ Q .non (upd H l (.lst (xs ++ [y])))
theorem mt_append : MtM X "list.append" rAppend := by
  intro pins s σ H x vs v us Q I rx rv h
  obtain ⟨l, xs, y, rfl, rfl, hH, hz, q⟩ := h
  cases rx
  obtain ⟨u, rfl, ru⟩ := rv.one
  obtain ⟨z, its, n, r, hl, e⟩ := I.lstM hH
  refine call_meets F.slot_list_append ⟨_, e, rfl⟩ F.entry_list_append (F.args_list_append_2 _ _) (PySem.list_append l its.toArray n u (by rw [List.size_toArray]; omega)) ⟨e, ?_⟩
  refine ⟨.non, _, I.lset (its' := its ++ [u]) hH e (by simp) (r.append (.cons ru .nil)) ?_, rfl, q⟩
  rw [List.length_append, List.length_singleton]
  omega

def rExtend : V → List V → Hp → VK → Prop := fun x vs H Q => ∃ l b xs zs, x = .ref l ∧ vs = [.ref b] ∧ H l = some (.lst xs) ∧ H b = some (.lst zs) ∧ xs.length + zs.length ≤ sizeLine ∧ Q .non (upd H l (.lst (xs ++ zs)))
theorem mt_extend : MtM X "list.extend" rExtend := by
  intro pins s σ H x vs v us Q I rx rv h
  obtain ⟨l, b, xs, zs, rfl, rfl, hH, hB, hz, q⟩ := h
  cases rx
  obtain ⟨u, rfl, ru⟩ := rv.one
  cases ru
  obtain ⟨z, its, n, r, hl, e⟩ := I.lstM hH
  obtain ⟨z2, its2, n2, r2, hl2, e2⟩ := I.lstM hB
  have hsz : its.toArray.size + its2.toArray.size ≤ sizeLine := by rw [List.size_toArray, List.size_toArray]; omega
  have hlong : ¬ (!its.toArray.isEmpty && Builtin.List.listTooLong (its.toArray.size + its2.toArray.size)) = true := by
    rw [notLongL hsz, Bool.and_false]
    exact Bool.false_ne_true
  refine call_meets F.slot_list_extend ⟨_, e, rfl⟩ F.entry_list_extend (F.args_list_extend_2 _ _)
    (AutoSeq1.list_extend_list_list_0 l its.toArray n b its2.toArray n2 hlong (by rw [List.size_toArray]; omega) (by omega)) ⟨e, e2, ?_⟩
  refine ⟨.non, _, I.lset (its' := its ++ its2) hH e (by simp) (r.append r2) ?_, rfl, q⟩
  rw [List.length_append]
  omega

def rPop : V → List V → Hp → VK → Prop := fun x vs H Q => ∃ l xs y, x = .ref l ∧ vs = [] ∧ H l = some (.lst xs) ∧ xs[xs.length - 1]? = some y ∧ Q y (upd H l (.lst xs.dropLast))


def rPopAt : V → List V → Hp → VK → Prop := fun x vs H Q => ∃ l xs i k y, x = .ref l ∧ vs = [.int i] ∧ H l = some (.lst xs) ∧ -(2 ^ 63) ≤ i ∧ i < 2 ^ 63 ∧ seqIndex? i xs.length = some k ∧ xs[k]? = some y ∧ Q y (upd H l (.lst (xs.eraseIdx k)))


def rReverse : V → List V → Hp → VK → Prop := fun x vs H Q => ∃ l xs, x = .ref l ∧ vs = [] ∧ H l = some (.lst xs) ∧ Q .non (upd H l (.lst xs.reverse))


def rClear : V → List V → Hp → VK → Prop := fun x vs H Q => ∃ l xs, x = .ref l ∧ vs = [] ∧ H l = some (.lst xs) ∧ Q .non (upd H l (.lst []))


/-! ### list + list, list += list, list * int -/
def rCat : R2 := fun x y H Q => ∃ l b xs zs, x = .ref l ∧ y = .ref b ∧ H l = some (.lst xs) ∧ H b = some (.lst zs) ∧ xs.length + zs.length ≤ sizeLine ∧ ∀ p, H p = none → Q (.ref p) (upd H p (.lst (xs ++ zs)))
theorem op_cat : OpR X (binaryOp .Add) rCat := by
  intro pins s σ H x y v u Q I rx ry h
  obtain ⟨l, b, xs, zs, rfl, rfl, hH, hB, hz, q⟩ := h
  cases rx
  cases ry
  obtain ⟨z, its, n, r, hl, e⟩ := I.lstM hH
  obtain ⟨z2, its2, n2, r2, hl2, e2⟩ := I.lstM hB
  refine PySem.P.add_list e e2 ?_ (by rw [List.size_toArray, List.size_toArray]; omega)
  have ea : its.toArray ++ its2.toArray = (its ++ its2).toArray := by simp
  rw [ea]
  exact ⟨.ref _, _, I.lnew (t' := s.toks) (r.append r2) (by rw [List.length_append]; omega), rfl, q _ I.fresh⟩
/-- a list times an int (a negative one is nothing) -/
def rRep : R2 := fun x y H Q => ∃ l k xs, x = .ref l ∧ y = .int k ∧ H l = some (.lst xs) ∧ -(2 ^ 63) ≤ k ∧ k < 2 ^ 63 ∧ xs.length * k.toNat ≤ sizeLine ∧
  ∀ p, H p = none → Q (.ref p) (upd H p (.lst (List.replicate k.toNat xs).flatten))



/-! ### del xs[i] -/

end

/-! ### xs[a:b] = ys -/
section
variable {prog : Program} {w : World} {A : Around} {E : Value → Shared → Prop} {s : Shared}



end

section
variable {X : Cx}

end
end L2

namespace L2
open PySem PySem.Spec PyProof.Rows

/-! ### lists of pairs as tables -/
section
variable {κ : Type} [DecidableEq κ]
def valV (kvs : List (κ × V)) (k : κ) : Option V := (kvs.find? fun kv => decide (kv.1 = k)).map (·.2)
/-- in its place, or at the end -/
def putK (kvs : List (κ × V)) (k : κ) (v : V) : List (κ × V) :=
  if (kvs.any fun kv => decide (kv.1 = k)) = true then kvs.map (fun kv => if kv.1 = k then (kv.1, v) else kv) else kvs ++ [(k, v)]
def dropK (kvs : List (κ × V)) (k : κ) : List (κ × V) := kvs.filter fun kv => decide (kv.1 ≠ k)






















end


/-! ### a tracked dict, its keys ints and texts or tuples of these -/





/-- raw entries of a dict with tuple keys -/
abbrev KT (H : Hp) : List (List Key × V) → List (List Key × Addr × Value) → Prop := Paired fun p q => p.1 = q.1 ∧ H q.2.1 = some (.tup (p.1.map kV)) ∧ RelV p.2 q.2.2





section
variable {P : Program} {w : World} {H : Hp} {h : Heap} {a : Addr}






end

/-- what the dict at a holds at the key y -/
def DGet (H : Hp) (a : Addr) (y : V) (r : Option V) : Prop :=
  (∃ kvs k, Rd H a (.dK kvs) ∧ y = kV k ∧ r = valV kvs k) ∨ ∃ kvs k b, Rd H a (.dT kvs) ∧ y = .ref b ∧ H b = some (.tup (k.map kV)) ∧ r = valV kvs k
/-- the heap behind a[y] = v -/
def DPut (H : Hp) (a : Addr) (y v : V) (H' : Hp) : Prop :=
  (∃ kvs k, H a = some (.dK kvs) ∧ y = kV k ∧ kvs.length < sizeLine ∧ H' = upd H a (.dK (putK kvs k v))) ∨
  ∃ kvs k b, H a = some (.dT kvs) ∧ y = .ref b ∧ H b = some (.tup (k.map kV)) ∧ kvs.length < sizeLine ∧ H' = upd H a (.dT (putK kvs k v))






section
variable {X : Cx} {pins : List (Addr × Obj)} {σ : St} {H : Hp} {s : Shared} {a : Addr} {y v : V} {u r : Value} {o : Option V} {A : Around} {E : Value → Shared → Prop}









end

section
variable {X : Cx} {pins : List (Addr × Obj)} {σ : St} {H : Hp} {s : Shared} {a : Addr} {kvs : List (Key × V)} {k : Key} {u : Value} {A : Around} {E : Value → Shared → Prop}






end


/-! ### readings and rules -/
/-- the element of a subscription, not a slice -/
def NoSl (i : Expr) : Prop := ∀ ov iv, subscripted i false ov iv = operate [ov, iv] (getItem ov iv)





/-- d[y] -/
def tDGet (td ty : TE) : TE := fun σ H Q => td σ H fun x H1 => ty σ H1 fun y H2 => ∃ a v, x = .ref a ∧ DGet H2 a y (some v) ∧ Q v H2
/-- y in d, y not in d -/
def tDIn (ty td : TE) : TE := fun σ H Q => ty σ H fun y H1 => td σ H1 fun x H2 => ∃ a o, x = .ref a ∧ DGet H2 a y o ∧ Q (.bl o.isSome) H2
def tDNotIn (ty td : TE) : TE := fun σ H Q => ty σ H fun y H1 => td σ H1 fun x H2 => ∃ a o, x = .ref a ∧ DGet H2 a y o ∧ Q (.bl (!o.isSome)) H2
/-- d[y] = v -/
def sDPut (td ty tv : TE) : TS := fun D σ H => tv σ H fun v H1 => td σ H1 fun x H2 => ty σ H2 fun y H3 => ∃ a H4, x = .ref a ∧ DPut H3 a y v H4 ∧ D.nx σ H4
/-- d[y] op= v -/
def sDAug (td ty tv : TE) (rd : V → V → Hp → VK → Prop) : TS := fun D σ H => td σ H fun x H1 => ty σ H1 fun y H2 => ∃ a v, x = .ref a ∧ DGet H2 a y (some v) ∧
  tv σ H2 fun y2 H3 => rd v y2 H3 fun z H4 => ∃ H5, DPut H4 a y z H5 ∧ D.nx σ H5
/-- del d[y] -/
def sDDel (td ty : TE) : TS := fun D σ H => td σ H fun x H1 => ty σ H1 fun y H2 => ∃ a kvs k, x = .ref a ∧ H2 a = some (.dK kvs) ∧ y = kV k ∧ (valV kvs k).isSome = true ∧ D.nx σ (upd H2 a (.dK (dropK kvs k)))

section
variable {X : Cx} {o i e value : Expr} {pos pos' tpos : Pos} {td ty tv : TE}






end


/-! ### displays -/


/-- {}, to be a dict of the kind that is wanted -/
def tDNewK : TE := fun _ H Q => ∀ p, H p = none → Q (.ref p) (upd H p (.dK []))
def tDNewT : TE := fun _ H Q => ∀ p, H p = none → Q (.ref p) (upd H p (.dT []))
section
variable {X : Cx} {pos : Pos}


end

/-- the pairs of a display, from the left -/
def tPairs : List (TE × TE) → St → Hp → (List (V × V) → Hp → Prop) → Prop
  | [], _, H, Q => Q [] H
  | (tk, tv) :: r, σ, H, Q => tk σ H fun x H1 => tv σ H1 fun y H2 => tPairs r σ H2 fun ps H3 => Q ((x, y) :: ps) H3
abbrev VV : List (V × V) → List (Value × Value) → Prop := Paired fun p q => RelV p.1 q.1 ∧ RelV p.2 q.2
def PPs (X : Cx) (pos : Pos) (keys : List (Option Expr)) (values : List Expr) (trs : List (TE × TE)) : Prop :=
  ∀ (pins : List (Addr × Obj)) (s : Shared) (σ : St) (H : Hp) (Q : List (V × V) → Hp → Prop), Inv X pins σ H s → tPairs trs σ H Q →
    wpAny (model X.prog X.w) X.A (evalPairs (pairTrees keys values X.env pos)) (fun vs s' => ∃ ps H', Inv X pins σ H' s' ∧ VV ps vs ∧ Q ps H') X.xe s



def mergeK (kvs more : List (Key × V)) : List (Key × V) := more.foldl (fun acc kv => putK acc kv.1 kv.2) kvs



/-- {k: v, ..} with keys ints and texts; the new dict stands empty while the pairs are made -/
def tDisp (trs : List (TE × TE)) : TE := fun σ H Q => ∀ p, H p = none → tPairs trs σ (upd H p (.dK [])) fun ps H2 => H2 p = some (.dK []) ∧ ∃ kvs : List (Key × V), ps = kvs.map (fun kv => (kV kv.1, kv.2)) ∧ kvs.length ≤ 15 ∧ Q (.ref p) (upd H2 p (.dK (mergeK [] kvs)))



/-! ### methods -/
/-- a method call o.m(e) of a built-in, with one argument: what must be seen of the text -/
structure M1 (X : Cx) (o : Expr) (m : Str) (apos : Pos) (e : Expr) (cpos : Pos) : Prop where
  base : attributeBase o m X.env (eval o X.env) = eval o X.env
  few : ((backTo cpos (starEach [e] X.env)).all (fun x => !x.1) && (backToKw cpos (keywordEach [] X.env)).all (fun x => x.1.isSome)
    && decide (([e] : List Expr).length + ([] : List Keyword).length + (if ([] : List Keyword).isEmpty then 0 else 1) < 30)) = true
  line : (apos.endLine == cpos.line) = true
  trees : backTo cpos (starEach [e] X.env) = [(false, eval e X.env)]
structure M2 (X : Cx) (o : Expr) (m : Str) (apos : Pos) (e f : Expr) (cpos : Pos) : Prop where
  base : attributeBase o m X.env (eval o X.env) = eval o X.env
  few : ((backTo cpos (starEach [e, f] X.env)).all (fun x => !x.1) && (backToKw cpos (keywordEach [] X.env)).all (fun x => x.1.isSome)
    && decide (([e, f] : List Expr).length + ([] : List Keyword).length + (if ([] : List Keyword).isEmpty then 0 else 1) < 30)) = true
  line : (apos.endLine == cpos.line) = true
  trees : backTo cpos (starEach [e, f] X.env) = [(false, eval e X.env), (false, eval f X.env)]

/-- a is a dict, whatever its keys -/
def IsD (H : Hp) (a : Addr) : Prop := (∃ kvs, Rd H a (.dK kvs)) ∨ ∃ kvs, Rd H a (.dT kvs)


section
variable {X : Cx} {pins : List (Addr × Obj)} {σ : St} {H : Hp} {s : Shared} {a : Addr} {y d : V} {u r : Value} {o : Option V} {A : Around} {E : Value → Shared → Prop}


end

def tDGet1 (td ty : TE) : TE := fun σ H Q => td σ H fun x H1 => ∃ a, x = .ref a ∧ IsD H1 a ∧ ty σ H1 fun y H2 => ∃ o, DGet H2 a y o ∧ Q (o.getD .non) H2
def tDGet2 (td ty tx : TE) : TE := fun σ H Q => td σ H fun x H1 => ∃ a, x = .ref a ∧ IsD H1 a ∧ ty σ H1 fun y H2 => tx σ H2 fun z H3 => ∃ o, DGet H3 a y o ∧ Q (o.getD z) H3
/-- d.pop(k): there; d.pop(k, x): there or not -/
def tDPop1 (td ty : TE) : TE := fun σ H Q => td σ H fun x H1 => ∃ a, x = .ref a ∧ IsD H1 a ∧ ty σ H1 fun y H2 => ∃ kvs k v, H2 a = some (.dK kvs) ∧ y = kV k ∧ valV kvs k = some v ∧ Q v (upd H2 a (.dK (dropK kvs k)))
def tDPop2 (td ty tx : TE) : TE := fun σ H Q => td σ H fun x H1 => ∃ a, x = .ref a ∧ IsD H1 a ∧ ty σ H1 fun y H2 => tx σ H2 fun z H3 => ∃ kvs k, H3 a = some (.dK kvs) ∧ y = kV k ∧
  (∀ v, valV kvs k = some v → Q v (upd H3 a (.dK (dropK kvs k)))) ∧ (valV kvs k = none → Q z H3)
section
variable {X : Cx} {o e f : Expr} {apos cpos : Pos} {td ty tx : TE}




end

/-! ### dict(d): a copy -/
section
variable {X : Cx} {pins : List (Addr × Obj)} {σ : St} {H : Hp} {s : Shared} {a : Addr} {kvs : List (Key × V)} {A : Around} {E : Value → Shared → Prop}

end


section
variable {X : Cx} {pins : List (Addr × Obj)} {σ : St} {H : Hp} {s : Shared} {a : Addr} {y : V} {u : Value} {A : Around} {E : Value → Shared → Prop}

end
end L2

namespace Att
open PySem PySem.W PySem.Calls PyProof.Rows

/-! ### the script -/
theorem ints_of_wellAll {P : Params} {h : Heap} : ∀ (ns : List Int) (vs : List Value), WellAll P h vs (ns.map WData.int) → IntsAre vs ns := by
  intro ns
  induction ns with
  | nil =>
    intro vs w
    rw [List.map_nil] at w
    cases w
    exact .nil
  | cons n ns ih =>
    intro vs w
    rw [List.map_cons] at w
    cases w with
    | cons a b =>
      cases a
      exact .cons _ _ (ih _ b)

theorem script_of {l : OpenLaw} {n : Nat} (hn : l.most = some n) {P : Params} {h : Heap} {args : List WData} {vals : List Value}
    (hpre : l.row.toRowW.claim.pre args = true) (hwl : WellAll P h vals args) :
    ∃ a vs ns, vals = [Value.ref a] ∧ args = [WData.list (ns.map WData.int)] ∧ h.get? a = some { cls := .type "list", data := .seq vs.toArray } ∧ IntsAre vs ns ∧ ns.length ≤ n := by
  have hsh : WShape.hasAll [] args [.list .int] = true := (pre_splitW hpre).1
  have hc : l.pre.holds [] { args := args } = true := (pre_splitW hpre).2
  obtain ⟨d, r, rfl, h1, h2⟩ := hasAllW_cons hsh
  obtain rfl := hasAllW_nil h2
  obtain ⟨xs, rfl, h3⟩ := hasW_list h1
  obtain ⟨ns, rfl⟩ := items_int h3
  have hlen : ns.length ≤ n := by
    unfold OpenLaw.pre at hc
    have h4 : (WTm.not (.lt (.lit (.int (n : Int))) (.len (.arg 0)))).holds [] { args := [.list (ns.map .int)] } = true := by
      have h4 := (holds_andW hc).1
      rw [hn] at h4
      exact h4
    have h5 := condW_of h4 (w_not (w_lt w_lit (w_len_list (w_arg rfl))))
    rw [List.length_map] at h5
    refine Nat.le_of_not_lt fun q => ?_
    have q' : (n : Int) < ((ns.length : Nat) : Int) := by omega
    first
      | (rw [decide_eq_true q'] at h5; exact absurd h5 (by decide))
      | (simp at h5; omega)
  cases hwl with
  | cons w1 w2 =>
    cases w2
    cases w1 with
    | list ho hall => exact ⟨_, _, ns, rfl, rfl, ho, ints_of_wellAll ns _ hall, hlen⟩

theorem post_true (l : OpenLaw) (args : List WData) : l.row.toRowW.claim.post args (.bool true) args = true :=
  postW_of (r := l.row.toRowW) (X := (true == true))
    (show WShape.has [] (.bool true) .bool = true by first | rfl | decide | simp [WShape.has, WShape.arms, WShape.armsAll])
    (show (WTm.eq .res (.lit (.bool true))).value [] { args := args, res := some (.bool true), after := args } = some (.bool (true == true)) from w_eq_bool (w_res rfl) w_lit) rfl

/-! ### the attachment: holds_open's last premise (the goal 'hc' behind k_head) from a wpAny of the law's body -/


/-- the same from a codeAny of the CALL (for a layer whose function contracts speak of calls) -/
theorem attach_call {l : OpenLaw} {n : Nat} {q : Program} {loose : List Str} {XP : (Str → Option Value) → Heap → Prop} {YP : World → Heap → Prop} {d : DefRec}
    (hn : l.most = some n) (hdf : d.params.defaults = [])
    (call : ∀ (w : World) (s₀ s₁ : Shared) (mg mb : Str → Option Value) (fa : Addr) (o : Obj) (pm cd doc : Value) (a : Addr) (vs : List Value) (ns : List Int),
      Ground q loose [] XP w s₀ mg mb s₁.heap → YP w s₁.heap →
      s₁.heap.get? fa = some o → o.data = .func (docDef d.name d.params d.body d.scope pm cd doc) → s₁.heap.CodeRec cd d.name → mg d.name = some (.ref fa) →
      s₁.heap.get? a = some { cls := .type "list", data := .seq vs.toArray } → IntsAre vs ns → ns.length ≤ n → s₁.gens = #[] →
      codeAny (model l.prog w) callerA (.call (.ref fa) ⟨[.ref a], []⟩) (fun r s' => r = .ok (.ret (.bool true)) ∧ OldK s₁.heap s'.heap ∧ s'.os = s₁.os ∧ AllBare s'.gens) s₁) :
    WalkO q loose XP YP l.row.toRowW d [] (fun f vs => PySem.call f vs) := by
  intro w s₀ s₁ mg mb G Y fa o pm cd doc dV kV ho hd hcd hD hmg hg args vals as hpre hlay hrd hwl hlo
  obtain rfl : dV = .none := Dflts.none hD hdf
  obtain rfl : kV = .none := Dflts.noKw hD
  obtain ⟨a, vs, ns, rfl, rfl, hobj, hints, hlen⟩ := script_of hn hpre hwl
  refine enter_call (codeAny_mono (call w s₀ s₁ mg mb fa o pm cd doc a vs ns G Y ho (fd_plain hd) hcd hmg hobj hints hlen hg) fun r s' hq => ?_)
  obtain ⟨rfl, h2, h3, h4⟩ := hq
  exact ⟨.inl ⟨.bool true, .bool true, [], rfl, fun _ => rfl, .bool true, post_true l _, fun _ => ⟨List.Pairwise.nil, fun _ hm => (nomatch hm)⟩⟩, h2, h3, h4⟩



/-! ### rules over ANY heap (no ledger) from facts about the written part K: the library's own take a ledger (News) for what they write -/
section
variable {prog : Program} {w : World} {A : Around} {E : Value → Shared → Prop} {s : Shared} {K : Frag}









/-! the whole heap as the ledger: makes every rule that writes through a ledger a rule over any heap -/
def noObjs (h : Heap) : Heap := { h with objs := #[] }

def ledger (h : Heap) (L d : Addr) : List (Addr × Obj) := (List.range h.objs.size).filterMap fun a => if a = L ∨ a = d then none else (h.get? a).map fun o => (a, o)






end
end Att

namespace L2
open PySem PySem.Spec PyProof.Rows

theorem vals_ints : ∀ {vs : List Value} {ns : List Int}, IntsAre vs ns → Vals (ns.map V.int) vs
  | _, _, .nil => .nil
  | _, _, .cons n t h => .cons ⟨t, rfl⟩ (vals_ints h)

/-- nothing is tracked but the script, known to the object (or it is an object of the module) -/
def Only (H : Hp) : Prop := ∀ b, H b = none ∨ ∃ o xs, H b = some (.frz o (.lst xs))

/-- THE HEAD: the law's promise, at the heap behind the top. F, the promise of the law's def, may use that base is part of the heap (so K.In base, base.Ns mainGlobals mg stand in Mod) -/
theorem law_call {P : Program} {w : World} {K : PySem.W.Frag} {mg mb : Str → Option Value} {CX : CXT} {k : Nat} {fa a : Addr} {fd : FuncData} {x : Str} {sp : Sp} {s₁ : Shared} {vs : List Value} {ns : List Int}
    (KX : K.In s₁.heap) (hns : s₁.heap.Ns mainGlobals mg) (hb : s₁.heap.Ns builtinsNs mb) (hbb : ∀ x : Str, x ≠ "__name__" → mb x = bootBuiltins x) (hlim : s₁.heap.NoLimit) (hg : s₁.gens = #[])
    (ha : s₁.heap.get? a = some { cls := .type "list", data := .seq vs.toArray }) (hi : IntsAre vs ns) (hl : ns.length ≤ sizeLine) (hr : Room k callerA)
    (F : ∀ base : Heap, K.In base → base.Ns mainGlobals mg → FnOk P w K mg base CX k fa fd [x] sp) (hbind : ∀ (s : Shared) (u : Value), BindsTo s fd ⟨[u], []⟩ [(x, u)])
    (hsp : ∀ H : Hp, Only H → SqL K H a (ns.map V.int) → sp [.ref a] H (fun v _ => v = .bl true) fun _ _ _ => False)
    (hCX : ∀ H e s', CX [] H s₁ (fun _ _ _ => False) e s' → False) :
    codeAny (model P w) callerA (.call (.ref fa) ⟨[.ref a], []⟩) (fun r s' => r = .ok (.ret (.bool true)) ∧ OldK s₁.heap s'.heap ∧ s'.os = s₁.os ∧ AllBare s'.gens) s₁ := by
  have rv := vals_ints hi
  have lenV := hi.length
  -- from an abstract heap in which nothing but the script may be tracked
  have core : ∀ H : Hp, Only H → SqL K H a (ns.map V.int) → HOk P w H s₁.heap → (∀ b, H b ≠ none → b = a) → (H a ≠ none → K.lookup a = none) →
      codeAny (model P w) callerA (.call (.ref fa) ⟨[.ref a], []⟩) (fun r s' => r = .ok (.ret (.bool true)) ∧ OldK s₁.heap s'.heap ∧ s'.os = s₁.os ∧ AllBare s'.gens) s₁ := by
    intro H hO hS hok hA hK
    have base_of : ∀ {b : Addr} {o : Obj}, s₁.heap.get? b = some o → H b = none → (hidT s₁.heap H).get? b = some o := fun e n => hidT_get e n
    have noA : ∀ {b : Addr} {o : Obj} {es : Array DictEntry} {ep : Nat}, s₁.heap.get? b = some o → o.data = .dict es ep → H b = none := fun {b o es ep} e d => by
      cases q : H b with
      | none => rfl
      | some u =>
        have e' : b = a := hA b (by rw [q]; simp)
        subst e'
        rw [ha] at e; cases e
        have d' : Data.seq vs.toArray _ = Data.dict es ep := d
        cases d'
    have nsK : ∀ {b : Addr} {m : Str → Option Value}, s₁.heap.Ns b m → (hidT s₁.heap H).Ns b m := fun {b m} ⟨o, es, ep, e, d, r⟩ => ⟨o, es, ep, base_of e (noA e d), d, r⟩
    have hKb : K.In (hidT s₁.heap H) := fun b o e => base_of (KX b o e) (by
      cases q : H b with
      | none => rfl
      | some u =>
        have e' : b = a := hA b (by rw [q]; simp)
        subst e'
        rw [hK (by rw [q]; simp)] at e; cases e)
    have hM : Mod K mg (hidT s₁.heap H) := ⟨hKb, nsK hns, ⟨mb, nsK hb, hbb⟩, let ⟨mc, h1, h2⟩ := hlim; ⟨mc, nsK h1, h2⟩⟩
    have e0 : Env0 P w K mg (hidT s₁.heap H) callerA [] s₁ H := ⟨rfl, hM, fun b o e => of_hidT e, Nat.le_of_eq (hidT_size _ _), trivial, fun b hb => absurd (show b ∈ ([] : List Addr) from hb) (by simp), hok, .of_eq hg⟩
    refine codeAny_mono ((F _ hKb (nsK hns)).run callerA [] s₁ H ⟨[.ref a], []⟩ [.ref a] [.ref a] _ _ hr e0 (hbind s₁ (.ref a)) (.cons rfl .nil) (hsp H hO hS)) fun r s' h => ?_
    cases r with
    | error e => exact (hCX H e s' h).elim
    | ok fl =>
      cases fl with
      | next => exact False.elim h
      | brk => exact False.elim h
      | cont => exact False.elim h
      | ret u =>
        obtain ⟨v, H', os, bare, un, hok', r', q⟩ := h
        have q' : v = .bl true := q
        subst q'
        obtain rfl : u = Value.bool true := r'
        refine ⟨rfl, OldK.of_keep fun b o e => ?_, os, bare⟩
        cases q : H b with
        | none => exact un.keep b o e q (by intro z; exact absurd (show b ∈ ([] : List Addr) from z) (by simp)) (by simp)
        | some u =>
          rcases hO b with z | ⟨ob, xs, z⟩
          · rw [q] at z; cases z
          · have z2 := un.frzs b ob _ z
            obtain ⟨e1, _⟩ := hok b _ z
            obtain ⟨e2, _⟩ := hok' b _ z2
            rw [e] at e1; cases e1
            exact e2
  cases hk : K.lookup a with
  | some o =>
    -- the script is one of the module's own objects
    have e := KX a o hk
    rw [ha] at e
    cases e
    refine core (fun _ => none) (fun _ => .inl rfl) (.inr ⟨_, vs.toArray, _, hk, rfl, rfl, rfl, by rw [List.size_toArray, lenV]; exact hl, by simpa using rv⟩) (fun b u z => by have z' : (none : Option HO) = some u := z; cases z') (fun b z => absurd rfl z) fun z => absurd rfl z
  | none =>
    refine core (fun b => if b = a then some (.frz { cls := .type "list", data := .seq vs.toArray } (.lst (ns.map V.int))) else none) (fun b => ?_) (.inl (.inr ⟨{ cls := .type "list", data := .seq vs.toArray }, if_pos rfl⟩)) (fun b u z => ?_) (fun b z => ?_) fun _ => hk
    · by_cases hb : b = a
      · exact .inr ⟨_, _, if_pos hb⟩
      · exact .inl (if_neg hb)
    · by_cases hb : b = a
      · have z' := (if_pos hb).symm.trans z
        cases z'
        subst hb
        exact ⟨ha, by rw [List.length_map]; exact hl, vs, _, rv, ha⟩
      · have z' := (if_neg hb).symm.trans z
        cases z'
    · by_cases hb : b = a
      · exact hb
      · exact absurd (if_neg hb) z
end L2

namespace L2
open PySem PySem.Spec PyProof.Rows

abbrev KOf {K : PySem.W.Frag} {h : Heap} (_ : K.In h) : PySem.W.Frag := K

/-- the goal that k_head leaves (case hc), from the law's promise. F gives the function object fd (K's own) once, then the promise over every base -/
theorem walk_of {l : PySem.W.OpenLaw} {n k : Nat} {q : Program} {loose : List Str} {XP : (Str → Option Value) → Heap → Prop} {YP : World → Heap → Prop} {d : DefRec} {K : Params → PySem.W.Frag} {CX : World → CXT} {sp : World → Sp} {x : Str}
    (hn : l.most = some n) (hn2 : n ≤ sizeLine) (hdf : d.params.defaults = []) (hr : Room k callerA)
    (hY : ∀ (w : World) (h : Heap), YP w h → (K w.params).In h)
    (F : ∀ (w : World) (mg : Str → Option Value) (fa : Addr) (h : Heap), (K w.params).In h → h.Ns mainGlobals mg → mg d.name = some (.ref fa) →
      ∃ fd : FuncData, (∀ (s : Shared) (u : Value), BindsTo s fd ⟨[u], []⟩ [(x, u)]) ∧
        ∀ base : Heap, (K w.params).In base → base.Ns mainGlobals mg → FnOk l.prog w (K w.params) mg base (CX w) k fa fd [x] (sp w))
    (hsp : ∀ (w : World) (H : Hp) (a : Addr) (ns : List Int), ns.length ≤ n → Only H → SqL (K w.params) H a (ns.map V.int) → sp w [.ref a] H (fun v _ => v = .bl true) fun _ _ _ => False)
    (hCX : ∀ (w : World) (H : Hp) (s : Shared) (e : Value) (s' : Shared), CX w [] H s (fun _ _ _ => False) e s' → False) :
    PySem.W.WalkO q loose XP YP l.row.toRowW d [] (fun f vs => PySem.call f vs) := by
  refine Att.attach_call hn hdf fun w s₀ s₁ mg mb fa o pm cd doc a vs ns G Y ho hd hcd hmg hobj hints hlen hg => ?_
  have KX := hY w _ Y
  obtain ⟨fd, hb, hF⟩ := F w mg fa _ KX G.T.g hmg
  exact law_call KX G.T.g G.T.b G.T.builtins G.T.nolimit hg hobj hints (Nat.le_trans hlen hn2) hr hF hb (fun H hO hS => hsp w H a ns hlen hO hS) fun H e s' => hCX w H s₁ e s'

end L2

/- THE LAST THEOREM (shape; LID, My.* are yours):
   My.Adr: a structure of the addresses that your layer names (classes, functions); My.Txt K t: a structure (Prop) of the equations over K;
   My.txt_mk : {K} {implicit addresses ..} (e1 : nsIn K mainGlobals "law" = some (some (.ref f))) (e2 : K.lookup f = some ⟨oc, od, .func (fnOf "law" "law" params body scope dV kV doc pm an cdv ct), sl⟩) (e3 : codeIn K cdv "law" = true) .. : ∃ t, My.Txt K t

set_option maxRecDepth 100000 in
set_option maxHeartbeats 0 in
theorem PySem.Challenge.cw_LID_holds : PySem.Challenge.rw_LID.Holds := by
  w_on; o_law; k_head; (case hw => w_witness2)
  k_fill
  refine L2.walk_of (l := PySem.Challenge.rw_LID) (n := 63) (k := 40) (x := "script") (CX := fun w => ..) (sp := fun _ => My.sp_law) rfl (by decide) rfl ⟨rfl, by decide, by decide⟩ (fun w h Y => PySem.W.kIn_of Y) ?F ?S ?C
  case F =>
    intro w mg fa h KX G hmg
    have T : ∃ t, My.Txt (L2.KOf KX) t := by
      dsimp only [L2.KOf]                          -- K must stand as «<heap const> w.params» for k_is
      refine' My.txt_mk ?e1 ?e2 ?e3 ..
      (case e1 => PySem.W.k_is)                    -- in the order: a name -> its address -> its object -> its parts
      (case e2 => PySem.W.k_is)
      ..
    obtain ⟨t, T⟩ := T
    have e0 := hmg.symm.trans (PySem.W.mg_of KX G T.law)
    cases e0                                       -- fa is the law's own address
    exact ⟨_, fun s u => .of_eq rfl, fun base kb nb => My.law_fn T kb nb⟩     -- if «.of_eq rfl» comes too early: refine' ⟨_, ?b, fun base kb nb => My.law_fn T kb nb⟩; exact fun s u => .of_eq rfl
  case S => exact fun w H a ns hl hO hS => ..
  case C => exact ..
(the tactic k_is has no namespace: write k_is) -/

/-! SHORT WORDS over the layer: a def of the text, its body, what a loop and a test want. -/
namespace L2
open PySem PySem.Spec PyProof.Rows

/-! ### the text by places -/
/-- the j-th statement of a class's body -/
def inClass (s : Stmt) (j : Nat) : Stmt := match s with
  | .ClassDef _ _ _ body _ _ _ _ _ _ _ => body.getD j (.Pass ⟨0, 0, 0, 0⟩)
  | _ => .Pass ⟨0, 0, 0, 0⟩
def defArgs (s : Stmt) : Arguments := match s with
  | .FunctionDef _ a _ _ _ _ _ _ _ _ => a
  | _ => { posonlyargs := [], args := [], vararg := none, kwonlyargs := [], kw_defaults := [], kwarg := none, defaults := [] }
def defBody (s : Stmt) : List Stmt := match s with
  | .FunctionDef _ _ b _ _ _ _ _ _ _ => b
  | _ => []
def defScope (s : Stmt) : Scope := match s with
  | .FunctionDef _ _ _ _ _ _ sc _ _ _ => sc
  | _ => { kind := .function, names := [], isGenerator := false, isCoroutine := false }

/-! ### no exception leaves a def -/
abbrev CX0 : CXT := fun _ _ _ _ _ _ => False
abbrev E0 : XK := fun _ _ _ => False
theorem pass0 {X : Cx} : Passes CX0 X E0 := fun _ _ _ _ _ _ _ h => h.elim

/-! ### a def (or method) of the text as it stands behind the top -/
structure Fun (K : PySem.W.Frag) (x qual : Str) (st : Stmt) (f : Addr) (fd : FuncData) : Prop where
  ex : ∃ (oc : Value) (od : Option Addr) (kV doc pm : Value) (an : Option Addr) (cdv ct : Value) (osl : Array (Option Value)),
    fd = PySem.W.fnOf x qual (defArgs st) (defBody st) (defScope st) .none kV doc pm an cdv ct ∧ K.lookup f = some ⟨oc, od, .func fd, osl⟩ ∧ PySem.W.codeIn K cdv qual = true
  kp : PySem.W.keepIn K (.ref f) = true
section
variable {P : Program} {w : World} {K : PySem.W.Frag} {mg : Str → Option Value} {base : Heap}
/-- THE RULE for a def: its body as a term of rules, and the reading of that term -/
theorem Fun.ok {x qual : Str} {st : Stmt} {f : Addr} {fd : FuncData} {N ps : List Str} {k : Nat} {sp : Sp} (F : Fun K x qual st f fd) (S : FnScope N ps (defScope st)) (len : ∀ vs H Q E, sp vs H Q E → vs.length = ps.length)
    (hbody : ∀ (cdv : Value) (A : Around) (outer : List Env) (s : Shared) (H : Hp) (vs : List V) (Q : VK) (E : XK), Room k (A.deeper (envOfC qual (defScope st) s.heap.objs.size f cdv)) → sp vs H Q E →
      ∃ t, PSs (cxOf CX0 P w K mg base N qual (defScope st) f cdv A outer s H E).nox (defBody st) t ∧ t { nx := fun _ H' => Q .non H', rt := Q } (start N vs) H) : FnOk P w K mg base CX0 (k + 1) f fd ps sp := by
  obtain ⟨oc, od, kV, doc, pm, an, cdv, ct, osl, rfl, lk, hcd⟩ := F.ex
  refine fn_of lk hcd S len fun A outer s H vs Q E hr hsp => ?_
  obtain ⟨t, h, q⟩ := hbody cdv A outer s H vs Q E hr hsp
  exact ⟨t, h.nox, q⟩
/-- how its arguments bind (no defaults): h is «fun _ _ _ _ _ _ us hl => match us, hl with | [_, _], _ => rfl», one _ a parameter -/
theorem Fun.binds {x qual : Str} {st : Stmt} {f : Addr} {fd : FuncData} {ps : List Str} (F : Fun K x qual st f fd)
    (h : ∀ (kV doc pm : Value) (an : Option Addr) (cdv ct : Value) (us : List Value), us.length = ps.length → bindArgs (PySem.W.fnOf x qual (defArgs st) (defBody st) (defScope st) .none kV doc pm an cdv ct) ⟨us, []⟩ = pure (ps.zip us)) : Binds K fd ps [] := by
  obtain ⟨oc, od, kV, doc, pm, an, cdv, ct, osl, rfl, lk, hcd⟩ := F.ex
  exact .all (h kV doc pm an cdv ct)
theorem fun_mk {x qual : Str} {st : Stmt} {f : Addr} {oc : Value} {od an : Option Addr} {osl : Array (Option Value)} {kV doc pm cdv ct : Value} (l : K.lookup f = some ⟨oc, od, .func (PySem.W.fnOf x qual (defArgs st) (defBody st) (defScope st) .none kV doc pm an cdv ct), osl⟩)
    (c : PySem.W.codeIn K cdv qual = true) (k : PySem.W.keepIn K (.ref f) = true) : Fun K x qual st f (PySem.W.fnOf x qual (defArgs st) (defBody st) (defScope st) .none kV doc pm an cdv ct) := ⟨⟨oc, od, kV, doc, pm, an, cdv, ct, osl, rfl, l, c⟩, k⟩
end



/-! ### expressions in short: the name that stands in the i-th slot -/
section
variable {X : Cx}
theorem pv (i : Nat) {x : Str} {pos : Pos} (hN : X.N[i]? = some x := by rfl) (hv : Vis X.env.scope x := by first | exact Or.inl rfl | exact Or.inr (Or.inl rfl) | exact Or.inr (Or.inr rfl)) (hd : (x == ("__debug__" : Str)) = false := by decide)
    (hcd : (x == ("__classdict__" : Str)) = false := by decide) : PE X (.Name x pos) (tVar i) := pe_var hN hv hd hcd

end

/-! ### tests -/
theorem iteF {A B : Prop} (h : B) : if false = true then A else B := by
  rw [if_neg Bool.false_ne_true]
  exact h
theorem iteT {A B : Prop} (h : A) : if true = true then A else B := by
  rw [if_pos rfl]
  exact h
theorem ite2 {c A B : Prop} [Decidable c] (h1 : c → A) (h2 : ¬ c → B) : if c then A else B := by
  by_cases h : c
  · rw [if_pos h]
    exact h1 h
  · rw [if_neg h]
    exact h2 h


/-! ### heaps -/
/-- all that was tracked is as it was -/
def Same (H H' : Hp) : Prop := ∀ b o, H b = some o → H' b = some o
theorem Same.refl (H : Hp) : Same H H := fun _ _ h => h
theorem Same.trans {H H1 H2 : Hp} (a : Same H H1) (b : Same H1 H2) : Same H H2 := fun c o h => b c o (a c o h)
theorem Same.free {H H' : Hp} (e : Same H H') {l : Addr} (h : H' l = Option.none) : H l = Option.none := by
  cases q : H l with
  | none => rfl
  | some o =>
    rw [e l o q] at h
    cases h
theorem Same.seq {K : PySem.W.Frag} {H H' : Hp} {a : Addr} {xs : List V} (e : Same H H') (h : SqL K H a xs) : SqL K H' a xs := by
  rcases h with (h | ⟨o, h⟩) | h
  · exact .inl (.inl (e _ _ h))
  · exact .inl (.inr ⟨o, e _ _ h⟩)
  · exact .inr h

/-! ### a dict's pairs: keys that differ -/
section
variable {κ : Type} [DecidableEq κ]










end
end L2
set_option Elab.async false
set_option linter.all false
set_option maxRecDepth 100000
/-! Comprehensions over the layer: [elt for tg in iter if ..], one clause. -/
namespace L2
open PySem PySem.Spec PyProof.Rows

/-! ### the closure and the cells of a block -/
def closOf (env : Env) : List (Str × NameKind) → List (Str × Addr) → List (Str × Addr)
  | [], cs => cs
  | (n, k) :: r, cs => closOf env r (if k == .free then (n, (env.cells.lookup n).getD 0) :: cs else cs)

theorem closureFor_go {env : Env} (f : Str × NameKind → List (Str × Addr) → Sem (ForInStep (List (Str × Addr))))
    (hf : ∀ n k cs, f (n, k) cs = if (k == .free) = true then (do let a ← cellOf env n; pure (.yield ((n, a) :: cs))) else pure (.yield cs)) :
    ∀ (names : List (Str × NameKind)) (cs : List (Str × Addr)), (∀ x ∈ names, x.2 = .free → ∃ c, env.cells.lookup x.1 = some c) → forIn names cs f = (pure (closOf env names cs) : Sem _)
  | [], cs, _ => by rw [List.forIn_nil]; rfl
  | (n, k) :: r, cs, h => by
    rw [List.forIn_cons, hf]
    have hr : ∀ x ∈ r, x.2 = .free → ∃ c, env.cells.lookup x.1 = some c := fun x hx => h x (List.mem_cons_of_mem _ hx)
    unfold closOf
    by_cases hk : (k == NameKind.free) = true
    · obtain ⟨c, hc⟩ := h (n, k) List.mem_cons_self (by simpa using hk)
      have hc : env.cells.lookup n = some c := hc
      rw [if_pos hk, if_pos hk]
      have e : cellOf env n = pure c := by unfold cellOf; rw [hc]
      rw [e]
      simp only [pure_bind]
      rw [closureFor_go f hf r _ hr, hc]
      rfl
    · rw [if_neg hk, if_neg hk]
      simp only [pure_bind]
      exact closureFor_go f hf r _ hr

theorem closureFor_eq {scope : Scope} {env : Env} (h : ∀ x ∈ scope.names, x.2 = .free → ∃ c, env.cells.lookup x.1 = some c) : closureFor scope env = pure (closOf env scope.names []) := by
  simp only [closureFor]
  rw [closureFor_go (env := env) _ (fun n k cs => by by_cases hk : (k == NameKind.free) = true <;> simp [hk]) scope.names [] h]
  simp only [pure_bind]

theorem mem_closOf {env : Env} : ∀ {names : List (Str × NameKind)} {cs : List (Str × Addr)} {x : Str} {c : Addr}, (x, c) ∈ closOf env names cs → (x, c) ∈ cs ∨ ((x, NameKind.free) ∈ names ∧ c = (env.cells.lookup x).getD 0)
  | [], cs, x, c, h => .inl h
  | (n, k) :: r, cs, x, c, h => by
    unfold closOf at h
    rcases mem_closOf h with h | ⟨h, e⟩
    · by_cases hk : (k == NameKind.free) = true
      · rw [if_pos hk] at h
        rcases List.mem_cons.mp h with q | q
        · cases q
          have : k = .free := by simpa using hk
          subst this
          exact .inr ⟨List.mem_cons_self, rfl⟩
        · exact .inl q
      · rw [if_neg hk] at h
        exact .inl h
    · exact .inr ⟨List.mem_cons_of_mem _ h, e⟩
theorem closOf_has {env : Env} : ∀ {names : List (Str × NameKind)} {cs : List (Str × Addr)} {x : Str}, (x, NameKind.free) ∈ names ∨ (∃ c, (x, c) ∈ cs) → ∃ c, (x, c) ∈ closOf env names cs
  | [], cs, x, h => by
    rcases h with h | h
    · cases h
    · exact h
  | (n, k) :: r, cs, x, h => by
    unfold closOf
    refine closOf_has ?_
    rcases h with h | ⟨c, h⟩
    · rcases List.mem_cons.mp h with e | h
      · cases e
        exact .inr ⟨(env.cells.lookup n).getD 0, by rw [if_pos (by decide)]; exact List.mem_cons_self⟩
      · exact .inl h
    · refine .inr ⟨c, ?_⟩
      split
      · exact List.mem_cons_of_mem _ h
      · exact h

theorem cellsFrom_app : ∀ (names : List (Str × NameKind)) (n : Nat) (acc cl : List (Str × Addr)), cellsFrom n names (acc ++ cl) = cellsFrom n names acc ++ cl
  | [], _, _, _ => rfl
  | (x, k) :: r, n, acc, cl => by
    unfold cellsFrom
    split
    · exact cellsFrom_app r (n + 1) ((x, n) :: acc) cl
    · exact cellsFrom_app r n acc cl
theorem mem_cellsFrom : ∀ {names : List (Str × NameKind)} {n : Nat} {acc : List (Str × Addr)} {x : Str} {c : Addr}, (x, c) ∈ cellsFrom n names acc → (x, c) ∈ acc ∨ (x, NameKind.cell) ∈ names
  | [], _, _, _, _, h => .inl h
  | (y, k) :: r, n, acc, x, c, h => by
    unfold cellsFrom at h
    by_cases hk : (k == NameKind.cell) = true
    · rw [if_pos hk] at h
      rcases mem_cellsFrom h with h | h
      · rcases List.mem_cons.mp h with e | h
        · cases e
          have : k = .cell := by simpa using hk
          subst this
          exact .inr List.mem_cons_self
        · exact .inl h
      · exact .inr (List.mem_cons_of_mem _ h)
    · rw [if_neg hk] at h
      rcases mem_cellsFrom h with h | h
      · exact .inl h
      · exact .inr (List.mem_cons_of_mem _ h)

theorem lookup_of_mem {α : Type} : ∀ {l : List (Str × α)} {x : Str} {c : α}, (x, c) ∈ l → ∃ c', l.lookup x = some c'
  | (k, v) :: r, x, c, h => by
    rw [List.lookup_cons]
    cases hb : x == k with
    | true => exact ⟨v, rfl⟩
    | false =>
      rcases List.mem_cons.mp h with e | h
      · cases e
        simp at hb
      · exact lookup_of_mem h

/-- a block's environment -/
def cpEnv (scope : Scope) (C : Addr) (env : Env) : Env :=
  { scope := relabel scope env, locals := C, globals := env.globals, cells := cellsFrom (C + 1) scope.names (closOf env scope.names []), qual := env.qual, func := none, code := env.code, frame := env.frame, builtins := env.builtins }

theorem newEnv_comp {M : Model} {A : Around} {E : Value → Shared → Prop} {s : Shared} {scope : Scope} {cl : List (Str × Addr)} {env : Env} {Q : Env → Shared → Prop}
    (h : Q { scope := scope, locals := s.heap.objs.size, globals := env.globals, cells := cellsFrom (s.heap.objs.size + 1) scope.names cl, qual := env.qual, func := none, code := env.code, frame := env.frame, builtins := env.builtins }
      { s with heap := pushCells (s.heap.push { cls := .type "dict", data := .dict #[] }) scope.names }) :
    wpAny M A (newFunctionEnv scope env.globals cl [] env.qual none .none (some env)) Q E s := by
  simp only [newFunctionEnv, Option.isSome_some, if_true]
  refine wpAny_bind (wpAny_alloc ?_)
  refine wpAny_bind (wpAny_layCells _ (fun name kind cells => by cases hkc : kind == NameKind.cell <;> simp [hkc]) _ _ _ _ ?_)
  rw [show ({ s with heap := s.heap.push { cls := .type "dict", data := .dict #[] } } : Shared).heap.objs.size = s.heap.objs.size + 1 from Heap.size_push ..]
  rw [List.forIn_nil]
  exact wpAny_bind (wpAny_pure (wpAny_pure h))

/-- what is asked of a block's scope; PN, ps: the names and the scope around it; N: its own names (own of them), then those of the outside, which stand there in the slots fr -/
def cpCheck (PN : List Str) (ps : Scope) (N : List Str) (own : Nat) (fr : List Nat) (scope : Scope) : Bool :=
  decide (scope.kind = .function) && decide N.Nodup && decide (own + fr.length = N.length)
  && (scope.names.all fun y => decide (scope.names.lookup y.1 = some y.2))
  && (scope.names.all fun y => if y.2 = .free then decide (ps.names.lookup y.1 = some .cell) || decide (ps.names.lookup y.1 = some .free) else true)
  && ((fr.map fun j => PN[j]?) == (N.drop own).map some)
  && ((N.drop own).all fun x => decide (scope.names.lookup x = some .free))

structure CpOk (PN : List Str) (ps : Scope) (N : List Str) (own : Nat) (fr : List Nat) (scope : Scope) : Prop where
  kind : scope.kind = .function
  nd : N.Nodup
  len : own + fr.length = N.length
  look : ∀ y ∈ scope.names, scope.names.lookup y.1 = some y.2
  par : ∀ y ∈ scope.names, y.2 = .free → ps.names.lookup y.1 = some .cell ∨ ps.names.lookup y.1 = some .free
  frs : (fr.map fun j => PN[j]?) = (N.drop own).map some
  frk : ∀ x ∈ N.drop own, scope.names.lookup x = some .free

theorem CpOk.of {PN : List Str} {ps : Scope} {N : List Str} {own : Nat} {fr : List Nat} {scope : Scope} (h : cpCheck PN ps N own fr scope = true) : CpOk PN ps N own fr scope := by
  unfold cpCheck at h
  simp only [Bool.and_eq_true, decide_eq_true_eq, List.all_eq_true, beq_iff_eq] at h
  obtain ⟨⟨⟨⟨⟨⟨h1, h2⟩, h3⟩, h4⟩, h5⟩, h6⟩, h7⟩ := h
  refine ⟨h1, h2, h3, h4, fun y hy e => ?_, h6, h7⟩
  have q := h5 y hy
  rw [if_pos e] at q
  simpa using q

/-- the values at a block's start -/
def cpStart (own : Nat) (fr : List Nat) (σ : St) : St := List.replicate own none ++ fr.map fun j => (σ[j]?).join

def cxComp (X : Cx) (N : List Str) (scope : Scope) (fp : List Addr) (s : Shared) (H : Hp) : Cx where
  prog := X.prog
  w := X.w
  K := X.K
  mg := X.mg
  base := X.base
  A := X.A
  N := N
  s₀ := s
  H₀ := H
  env := cpEnv scope s.heap.objs.size X.env
  outer := X.stack
  stack := X.stack
  ex := fp
  fn := fun x => decide (scope.names.lookup x = some .local) || decide (scope.names.lookup x = some .cell)
  calm := X.calm
  pn := []
  xe := fun _ _ => False

theorem relabel_look {ps : Scope} {env : Env} (he : env.scope = ps) {x : Str} : ∀ {names : List (Str × NameKind)} {k : NameKind}, names.lookup x = some k →
    (names.map fun (n, k) => if (k == NameKind.free && env.scope.kind == .function && env.kindOf n == some .cell) then (n, NameKind.cell) else (n, k)).lookup x =
      some (if (k == NameKind.free && env.scope.kind == .function && env.kindOf x == some .cell) then .cell else k)
  | (n, k') :: r, k, h => by
    rw [List.lookup_cons] at h
    rw [List.map_cons]
    cases hb : x == n with
    | true =>
      rw [hb] at h
      cases h
      have e : x = n := by simpa using hb
      subst e
      dsimp only
      split <;> simp [List.lookup_cons]
    | false =>
      rw [hb] at h
      have ih := relabel_look he (env := env) h
      dsimp only
      split <;> (rw [List.lookup_cons, hb]; exact ih)
theorem relabel_of {env : Env} {x : Str} : ∀ {names : List (Str × NameKind)} {k : NameKind}, (names.map fun (n, k) => if (k == NameKind.free && env.scope.kind == .function && env.kindOf n == some .cell) then (n, NameKind.cell) else (n, k)).lookup x = some k → ∃ k', names.lookup x = some k' ∧ (k' = k ∨ (k' = .free ∧ k = .cell))
  | (n, k') :: r, k, h => by
    rw [List.map_cons] at h
    rw [List.lookup_cons]
    dsimp only at h
    cases hb : x == n with
    | true =>
      refine ⟨k', rfl, ?_⟩
      by_cases hc : (k' == NameKind.free && env.scope.kind == .function && env.kindOf n == some .cell) = true
      · rw [if_pos hc, List.lookup_cons, hb] at h
        cases h
        simp only [Bool.and_eq_true, beq_iff_eq] at hc
        exact .inr ⟨hc.1.1, rfl⟩
      · rw [if_neg hc, List.lookup_cons, hb] at h
        cases h
        exact .inl rfl
    | false =>
      have h' : (r.map fun (n, k) => if (k == NameKind.free && env.scope.kind == .function && env.kindOf n == some .cell) then (n, NameKind.cell) else (n, k)).lookup x = some k := by
        split at h <;> (rw [List.lookup_cons, hb] at h; exact h)
      exact relabel_of h'

theorem of_lookup_app {α : Type} {x : Str} {c : α} : ∀ {l r : List (Str × α)}, (l ++ r).lookup x = some c → (x, c) ∈ l ∨ (x, c) ∈ r := fun h => List.mem_append.mp (PySem.mem_of_lookup h)

section
variable {X : Cx} {pins : List (Addr × Obj)} {σ : St} {H : Hp} {s : Shared} {N : List Str} {own : Nat} {fr : List Nat} {scope : Scope} {fp : List Addr}

theorem closCell (I : Inv X pins σ H s) (S : CpOk X.N X.env.scope N own fr scope) {x : Str} {c : Addr} (h : (x, c) ∈ closOf X.env scope.names []) : X.env.cells.lookup x = some c ∧ (x, NameKind.free) ∈ scope.names := by
  rcases mem_closOf h with h | ⟨h, e⟩
  · cases h
  · obtain ⟨c', hc⟩ := I.ok.has x (S.par _ h rfl)
    refine ⟨?_, h⟩
    rw [e, hc]
    rfl

/-- the block begins -/
theorem Inv.block (I : Inv X pins σ H s) (S : CpOk X.N X.env.scope N own fr scope) (hfp : ∀ b ∈ fp, FpOk X pins H b) (hfo : ∀ b ∈ fp, ∃ o, s.heap.get? b = some o) :
    Inv (cxComp X N scope fp s H) [] (cpStart own fr σ) H { s with heap := pushCells (s.heap.push { cls := .type "dict", data := .dict #[] }) scope.names } := by
  have kept : ∀ b o, s.heap.get? b = some o → (pushCells (s.heap.push { cls := .type "dict", data := .dict #[] }) scope.names).get? b = some o := fun b o e => pushCells_keeps _ _ b o (Heap.get?_push_of_some _ e)
  have cok := cellsFrom_ok scope.names (s.heap.push { cls := .type "dict", data := .dict #[] }) (s.heap.objs.size + 1) [] ⟨fun _ _ hm => (nomatch hm), List.Pairwise.nil⟩ (by rw [Heap.size_push]; exact Nat.le_refl _)
  rw [Heap.size_push] at cok
  have ecs : cellsFrom (s.heap.objs.size + 1) scope.names (closOf X.env scope.names []) = cellsFrom (s.heap.objs.size + 1) scope.names [] ++ closOf X.env scope.names [] := cellsFrom_app _ _ [] _
  have lookC : ∀ {x c}, (cellsFrom (s.heap.objs.size + 1) scope.names (closOf X.env scope.names [])).lookup x = some c → ((x, c) ∈ cellsFrom (s.heap.objs.size + 1) scope.names [] ∧ (x, NameKind.cell) ∈ scope.names ∧ s.heap.objs.size + 1 ≤ c) ∨ (X.env.cells.lookup x = some c ∧ (x, NameKind.free) ∈ scope.names) := fun {x c} h => by
    rw [ecs] at h
    rcases of_lookup_app h with h | h
    · refine .inl ⟨h, ?_, (cok.empty _ _ h).2⟩
      rcases mem_cellsFrom h with q | q
      · cases q
      · exact q
    · exact .inr (closCell I S h)
  have oldC : ∀ {x c}, X.env.cells.lookup x = some c → c < s.heap.objs.size := fun {x c} h => by
    obtain ⟨v, hv⟩ := I.cell x c h
    exact hv.lt
  have hb : ∀ b ∈ fp, b < s.heap.objs.size := fun b hb => let ⟨o, e⟩ := hfo b hb; Heap.lt_size e
  refine ⟨⟨I.ok.mod, S.kind, I.ok.glob, I.ok.blt, Nat.le_refl _, fun x y c h1 h2 => ?_, fun x hx => ?_, fun x c hf h => ?_, I.ok.hd, I.ok.frames, .inl rfl, fun b hb' => ⟨Nat.ne_of_lt (hb b hb'), fun x c h => ?_⟩, I.bs, ?_, fun b o e hb' => ?_, fun b hb' hs => ?_, I.stack, I.stkFree⟩,
    rfl, I.bare, Un.kept kept, ⟨_, (Heap.Ns.new s.heap (.type "dict")).keeps (pushCells_keeps _ _), fun i x v h1 h2 h3 => ?_⟩, fun x c h => ?_, I.hok.fresh (Nat.le_refl _), fun x c h => ?_, fun p hp => absurd (show p ∈ ([] : List (Addr × Obj)) from hp) (by simp), I.hok.kept kept, ?_⟩
  · -- inj
    rcases lookC h1 with ⟨m1, k1, l1⟩ | ⟨m1, k1⟩ <;> rcases lookC h2 with ⟨m2, k2, l2⟩ | ⟨m2, k2⟩
    · exact name_of_addr cok.apart m1 m2
    · exact absurd (oldC m2) (Nat.not_lt.mpr (Nat.le_of_succ_le l1))
    · exact absurd (oldC m1) (Nat.not_lt.mpr (Nat.le_of_succ_le l2))
    · exact I.ok.inj x y c m1 m2
  · -- has
    have key : (x, NameKind.cell) ∈ scope.names ∨ (x, NameKind.free) ∈ scope.names := by
      rcases hx with hx | hx
      · obtain ⟨k', e, q⟩ := relabel_of (env := X.env) (show _ = some NameKind.cell from hx)
        have m := PySem.mem_of_lookup e
        rcases q with q | ⟨q, _⟩
        · exact .inl (q ▸ m)
        · exact .inr (q ▸ m)
      · obtain ⟨k', e, q⟩ := relabel_of (env := X.env) (show _ = some NameKind.free from hx)
        have m := PySem.mem_of_lookup e
        rcases q with q | ⟨_, q⟩
        · exact .inr (q ▸ m)
        · cases q
    show ∃ c, (cellsFrom (s.heap.objs.size + 1) scope.names (closOf X.env scope.names [])).lookup x = some c
    have : ((cellsFrom (s.heap.objs.size + 1) scope.names (closOf X.env scope.names [])).lookup x).isSome = true := by
      refine PySem.W.cellsFrom_some _ _ _ ?_
      rcases key with q | q
      · exact .inl (S.look _ q)
      · obtain ⟨c, m⟩ := closOf_has (env := X.env) (names := scope.names) (cs := []) (x := x) (.inl q)
        obtain ⟨c', e⟩ := lookup_of_mem m
        exact .inr (by rw [e]; rfl)
    exact Option.isSome_iff_exists.mp this
  · -- cab
    rcases lookC h with ⟨_, _, l⟩ | ⟨_, k⟩
    · exact Nat.le_of_succ_le l
    · have e := S.look _ k
      have hf : (decide (scope.names.lookup x = some .local) || decide (scope.names.lookup x = some .cell)) = true := hf
      rw [show scope.names.lookup x = some .free from e] at hf
      exact absurd hf (by decide)
  · rcases lookC h with ⟨_, _, l⟩ | ⟨q, _⟩
    · exact Nat.ne_of_gt (Nat.lt_of_lt_of_le (hb b hb') (Nat.le_of_succ_le l))
    · exact (hfp b hb').2.2.2.2.1 x c q
  · exact Nat.le_trans I.ok.bsz I.sz
  · rcases (hfp b hb').2.2.2.1 with q | q
    · exact I.ok.noex b o e q
    · exact absurd (Nat.lt_of_lt_of_le (Heap.lt_size e) I.ok.bsz) (by omega)
  · rcases List.mem_cons.mp (I.stkSub b hs) with q | q
    · exact (hfp b hb').2.1 q
    · exact (hfp b hb').2.2.1 q
  · -- names
    have hi : own ≤ i := by
      refine Nat.le_of_not_lt fun hlt => ?_
      unfold cpStart at h2
      rw [List.getElem?_append_left (by rw [List.length_replicate]; exact hlt), List.getElem?_replicate, if_pos hlt] at h2
      cases h2
    have h2' : (fr.map fun j => (σ[j]?).join)[i - own]? = some (some v) := by
      unfold cpStart at h2
      rw [List.getElem?_append_right (by rw [List.length_replicate]; exact hi), List.length_replicate] at h2
      exact h2
    have h1 : N[i]? = some x := h1
    have hx : (N.drop own)[i - own]? = some x := by rw [List.getElem?_drop, show own + (i - own) = i by omega]; exact h1
    rw [List.getElem?_map] at h2'
    cases ej : fr[i - own]? with
    | none => rw [ej] at h2'; cases h2'
    | some j =>
      rw [ej] at h2'
      have h2' : (σ[j]?).join = some v := Option.some.inj h2'
      have hσ : σ[j]? = some (some v) := by
        cases q : σ[j]? with
        | none => rw [q] at h2'; cases h2'
        | some o => rw [q] at h2'; exact congrArg some h2'
      have hN : X.N[j]? = some x := by
        have q := congrArg (fun l => l[i - own]?) S.frs
        simp only [List.getElem?_map, ej, hx, Option.map_some] at q
        exact Option.some.inj q
      have kf := S.frk x (List.mem_of_getElem? hx)
      have mf := PySem.mem_of_lookup kf
      obtain ⟨m, hm, hv⟩ := I.loc
      have pk := S.par _ mf rfl
      obtain ⟨u, ru, lk⟩ := hv j x v hN hσ (pk.elim (fun q => .inr (.inl q)) fun q => .inr (.inr q))
      refine ⟨u, ru, ?_⟩
      have pk' : X.env.kindOf x = some .cell ∨ X.env.kindOf x = some .free := pk
      rcases lk with ⟨k, _⟩ | ⟨_, c, hc, hcell⟩
      · rw [k] at pk'
        rcases pk' with q | q <;> cases q
      · obtain ⟨c', m1⟩ := closOf_has (env := X.env) (names := scope.names) (cs := []) (x := x) (.inl mf)
        have e1 := (closCell I S m1).1
        rw [hc] at e1
        cases e1
        refine .inr ⟨?_, c, ?_, hcell.keeps kept⟩
        · have q := relabel_look (env := X.env) rfl kf
          show (relabel scope X.env).names.lookup x = some .cell ∨ (relabel scope X.env).names.lookup x = some .free
          unfold relabel
          rw [q]
          split
          · exact .inl rfl
          · exact .inr rfl
        · obtain ⟨c2, e2⟩ := Option.isSome_iff_exists.mp (PySem.W.cellsFrom_some (x := x) scope.names (s.heap.objs.size + 1) (closOf X.env scope.names []) (.inr (by obtain ⟨c', e⟩ := lookup_of_mem m1; rw [e]; rfl)))
          show (cellsFrom (s.heap.objs.size + 1) scope.names (closOf X.env scope.names [])).lookup x = some c
          rcases lookC e2 with ⟨_, q, _⟩ | ⟨q, _⟩
          · have := S.look _ q
            rw [show scope.names.lookup x = some .free from kf] at this
            cases this
          · rw [hc] at q
            cases q
            exact e2
  · -- cells
    rcases lookC h with ⟨q, _, _⟩ | ⟨q, _⟩
    · exact ⟨_, (cok.empty _ _ q).1⟩
    · obtain ⟨v, hv⟩ := I.cell x c q
      exact ⟨v, hv.keeps kept⟩
  · rcases lookC h with ⟨q, _, l⟩ | ⟨q, _⟩
    · exact I.hok.fresh (by omega)
    · exact I.freeC x c q
  · show (cpStart own fr σ).length = N.length
    unfold cpStart
    rw [List.length_append, List.length_replicate, List.length_map]
    exact S.len
end

/-! ### the tests -/
def PTs (X : Cx) (ifs : List Expr) (t : TT) : Prop :=
  ∀ (pins : List (Addr × Obj)) (s : Shared) (σ : St) (H : Hp) (Q : Bool → Hp → Prop), Inv X pins σ H s → t σ H Q →
    wpAny (model X.prog X.w) X.A (forIn ifs true fun c r => if r = true then do let ok ← isTrue c X.env (eval c X.env); pure (ForInStep.yield ok) else pure (ForInStep.yield r)) (TP X pins σ Q) X.xe s
def tYes : TT := fun _ H Q => Q true H
theorem yesT {σ : St} {H : Hp} {A B : Hp → Prop} (h : A H) : tYes σ H fun b H4 => if b = true then A H4 else B H4 := by
  unfold tYes
  exact iteT h
theorem pts_nil {X : Cx} : PTs X [] tYes := fun _ _ _ H _ I h => wpAny_tests_nil ⟨H, I, h⟩
theorem pts_one {X : Cx} {c : Expr} {t : TT} (h : PT X c t) : PTs X [c] t := fun pins s σ H Q I q => wpAny_tests_one (h pins s σ H Q I q)

/-! ### the rule -/
/-- the block's turns: W what holds at each -/
def CompW (J : It) (g : TG) (tc : TT) (te : TE) (σ0 : St) (D : Addr) (H1 : Hp) (Q : VK) : Prop := ∃ W : Nat → Nat → St → Hp → Prop,
  (∃ m, W 0 m σ0 (upd H1 D (.lst []))) ∧ ∀ i m σ' H', W i m σ' H' → (J.stop i H' ∧ Q (.ref D) H') ∨
    (J.go i H' ∧ ∃ Nx : St → Hp → Prop, (∀ σ2 H2, Nx σ2 H2 → ∃ m', m' < m ∧ W (i + 1) m' σ2 H2) ∧
      ∀ x H2, J.yld i H' x H2 → g x σ' H2 fun σ3 H3 => tc σ3 H3 fun b H4 => if b = true then te σ3 H4 fun y H5 => ∃ out, H5 D = some (.lst out) ∧ out.length < sizeLine ∧ Nx σ3 (upd H5 D (.lst (out ++ [y]))) else Nx σ3 H4)
def tComp (wi : TI) (own : Nat) (fr : List Nat) (g : TG) (tc : TT) (te : TE) : TE := fun σ H Q => wi σ H fun J H1 => ∀ D, H1 D = none → CompW J g tc te (cpStart own fr σ) D H1 Q

section
variable {X : Cx} {tg iter elt : Expr} {ifs : List Expr} {scope : Scope} {pos : Pos} {wi : TI} {g : TG} {tc : TT} {te : TE} {N : List Str}

/-- the block's loop, to its end: the frame's own state, and the block's namespace still there -/
theorem comp_go {R : Result → Shared → Prop} {own : Nat} {fr : List Nat} {pins : List (Addr × Obj)} {σ : St} {H1 : Hp} {s2 : Shared} {it : Addr} {fp : List Addr} {tn : Nat → Heap → Prop} {J : It} {D : Addr} {Q : VK}
    (S : CpOk X.N X.env.scope N own fr scope) (hc : X.calm = true) (hg : ∀ fp s H, PG (cxComp X N scope fp s H) tg g) (ht : ∀ fp s H, PTs (cxComp X N scope fp s H) ifs tc) (he : ∀ fp s H, PE (cxComp X N scope fp s H) elt te)
    (I3 : Inv X pins σ (upd H1 D (.lst [])) s2) (T : Turn X.prog X.w X.K tg J fp it tn) (st : tn 0 s2.heap) (f2 : ∀ b ∈ fp, FpOk X pins (upd H1 D (.lst [])) b)
    (k : CompW J g tc te (cpStart own fr σ) D H1 Q)
    (hR : ∀ H' s', Inv X pins σ H' s' → (∃ m, s'.heap.Ns s2.heap.objs.size m) → H' s2.heap.objs.size = none → Q (.ref D) H' → R (.ok .next) s') :
    codeAny (model X.prog X.w) X.A (.compStart (.ListComp elt [⟨tg, iter, ifs, 0⟩] scope pos) 0 (.ref it) (.ref D) (cpEnv scope s2.heap.objs.size X.env)) R
      { s2 with heap := pushCells (s2.heap.push { cls := .type "dict", data := .dict #[] }) scope.names } := by
  obtain ⟨W, ⟨m0, w0⟩, turn⟩ := k
  have I4 := I3.block (N := N) S f2 (fun b hb => let ⟨o, e, _⟩ := T.obj _ _ st b hb; ⟨o, e⟩)
  have kept : ∀ b o, s2.heap.get? b = some o → (pushCells (s2.heap.push { cls := .type "dict", data := .dict #[] }) scope.names).get? b = some o := fun b o e => pushCells_keeps _ _ b o (Heap.get?_push_of_some _ e)
  have st4 : tn 0 (pushCells (s2.heap.push { cls := .type "dict", data := .dict #[] }) scope.names) := T.keep _ _ _ st fun b hb o e => kept b o e
  have fx : ∀ {H' : Hp}, (∀ b ∈ fp, H' b = none) → ∀ b ∈ fp, FpOk (cxComp X N scope fp s2 (upd H1 D (.lst []))) [] H' b := fun hn b hb =>
    ⟨hn b hb, (I4.ok.exf b hb).1, I4.ok.exfs b hb, .inl hb, (I4.ok.exf b hb).2, fun p hp => absurd (show p ∈ ([] : List (Addr × Obj)) from hp) (by simp)⟩
  have loop : codeAny (model X.prog X.w) X.A (.compLoop (.ListComp elt [⟨tg, iter, ifs, 0⟩] scope pos) 0 (.ref it) (.ref D) (cpEnv scope s2.heap.objs.size X.env)) R
      { s2 with heap := pushCells (s2.heap.push { cls := .type "dict", data := .dict #[] }) scope.names } := by
    refine codeAny_loop rfl (fun n s' => ∃ i σ' H', Inv (cxComp X N scope fp s2 (upd H1 D (.lst []))) [] σ' H' s' ∧ tn i s'.heap ∧ (∀ b ∈ fp, H' b = none) ∧ W i n σ' H') (fun n s' hI => ?_) m0 ⟨0, _, _, I4, st4, fun b hb => (f2 b hb).1, w0⟩
    obtain ⟨i, σ', H', I5, st5, fr5, w5⟩ := hI
    show wpAny _ X.A ((compTurn (.ListComp elt [⟨tg, iter, ifs, 0⟩] scope pos) 0 (.ref it) (.ref D) (cpEnv scope s2.heap.objs.size X.env)).onRaise (fun x => do noteFrame x (cpEnv scope s2.heap.objs.size X.env); theTreesLotGoes x)) _ _ s'
    refine wpAny_noted (wpAny_mono (E := fun _ _ => False) ?_ (fun _ _ q => q) fun _ _ q => q.elim)
    rw [compTurn_list]
    refine wpAny_bind (wpAny_standAt (wpAny_bind ?_))
    rcases turn i n σ' H' w5 with ⟨stop, q⟩ | ⟨go, Nx, hN, step⟩
    · refine thn (T.done (cxComp X N scope fp s2 (upd H1 D (.lst []))) rfl rfl rfl hc i [] s' σ' H' _ I5 (fx fr5) st5 stop) fun r s6 ⟨hr, I6⟩ => ?_
      subst hr
      refine wpAny_pure (hR H' s6 (I3.call' I6.os I6.base I6.hok I6.bare fun b hb => ?_) ?_ I6.free q)
      · exact ⟨(f2 b hb).2.2.2.1, (f2 b hb).2.1, (f2 b hb).2.2.2.2.1, (f2 b hb).2.2.2.2.2⟩
      · obtain ⟨m, hm, _⟩ := I6.loc
        exact ⟨m, hm⟩
    · refine thn (T.item (cxComp X N scope fp s2 (upd H1 D (.lst []))) rfl rfl rfl hc i [] s' σ' H' _ I5 (fx fr5) st5 go) fun r s6 ⟨u, hr, h6⟩ => ?_
      subst hr
      refine wpAny_bind (thn h6 fun _ s7 ⟨x, H7, I7, r7, y7, st7, fr7⟩ => ?_)
      have I7' := I7.pinned (fx fr7) (T.obj _ _ st7)
      have back : ∀ {σ8 : St} {H8 : Hp} {s8 : Shared}, Inv (cxComp X N scope fp s2 (upd H1 D (.lst []))) ([] ++ pinsAt fp s7.heap) σ8 H8 s8 → Nx σ8 H8 → ∃ m, m < n ∧ ∃ i σ' H', Inv (cxComp X N scope fp s2 (upd H1 D (.lst []))) [] σ' H' s8 ∧ tn i s8.heap ∧ (∀ b ∈ fp, H' b = none) ∧ W i m σ' H' := fun {σ8 H8 s8} I8 n8 => by
        obtain ⟨m', hm, w8⟩ := hN σ8 H8 n8
        refine ⟨m', hm, i + 1, σ8, H8, I8.unpinned, T.keep _ _ _ st7 fun b hb o e => (I8.pin (b, o) (List.mem_append_right _ (List.mem_append_right _ (mem_pinsAt hb e)))).1, fun b hb => ?_, w8⟩
        obtain ⟨o, e, d⟩ := T.obj _ _ st7 b hb
        exact (I8.pin (b, o) (List.mem_append_right _ (List.mem_append_right _ (mem_pinsAt hb e)))).2.1
      refine wpAny_bind (thn (hg fp s2 (upd H1 D (.lst [])) _ s7 σ' H7 x u _ I7' r7 (step x H7 y7)) fun _ s8 ⟨σ8, H8, I8, q8⟩ => ?_)
      refine wpAny_bind (thn (ht fp s2 (upd H1 D (.lst [])) _ s8 σ8 H8 _ I8 q8) fun b s9 ⟨H9, I9, q9⟩ => ?_)
      cases b with
      | false =>
        simp only [Bool.false_eq_true, if_false] at q9 ⊢
        exact wpAny_pure ⟨rfl, back I9 q9⟩
      | true =>
        simp only [if_true] at q9 ⊢
        refine wpAny_bind (wpAny_bind (thn (he fp s2 (upd H1 D (.lst [])) _ s9 σ8 H9 _ I9 q9) fun y s10 ⟨yv, H10, I10, r10, out, hD, hz, q10⟩ => ?_))
        refine wpAny_bind (thn (mt_append (X := cxComp X N scope fp s2 (upd H1 D (.lst []))) _ s10 σ8 H10 (.ref D) [yv] (.ref D) [y] (fun _ H' => Nx σ8 H') I10 rfl (.cons r10 .nil) ⟨D, out, yv, rfl, rfl, hD, hz, q10⟩) fun _ s11 ⟨_, H11, I11, _, q11⟩ => ?_)
        exact wpAny_pure (wpAny_pure ⟨rfl, back I11 q11⟩)
  exact codeAny_compStart_list loop (T.self _ 0 _ _ _ st4 loop)

theorem pe_comp (N : List Str) (own : Nat) (fr : List Nat) (hi : PI X tg iter wi) (hg : ∀ fp s H, PG (cxComp X N scope fp s H) tg g) (ht : ∀ fp s H, PTs (cxComp X N scope fp s H) ifs tc) (he : ∀ fp s H, PE (cxComp X N scope fp s H) elt te)
    (S : cpCheck X.N X.env.scope N own fr scope = true := by kernel_rfl) (hc : X.calm = true := by rfl) (hs : ∀ x, foldedSetIterable iter X.env x = pure x := by intro _; rfl) :
    PE X (.ListComp elt [⟨tg, iter, ifs, 0⟩] scope pos) (tComp wi own fr g tc te) := by
  intro pins s σ H Q I h
  have S' := CpOk.of S
  rw [eval_ListComp]
  have hclos : closureFor scope X.env = pure (closOf X.env scope.names []) := closureFor_eq fun x hx e => I.ok.has x.1 (S'.par x hx e)
  refine wpAny_comprehension_free (use := none) rfl hs hclos S'.kind (fun x hx e => by rw [S'.look x hx, e]) (thn (hi pins s σ H _ I h) fun v s1 h1 => thn h1 fun itv s2 h2 => ?_)
  obtain ⟨it, fp, tn, J, H1, rfl, I2, T, st2, f2, k⟩ := h2
  refine wpAny_newObj_type (newEnv_comp ?_)
  have hD : H1 s2.heap.objs.size = none := I2.fresh
  have I3 := I2.lnew (ys := []) (its := []) (t' := s2.toks) .nil (Nat.zero_le _)
  have kept : ∀ b o, s2.heap.get? b = some o → (s2.heap.push { cls := .type "list", data := .seq ([] : List Value).toArray }).get? b = some o := fun b o e => Heap.get?_push_of_some _ e
  refine comp_go (own := own) (fr := fr) (Q := Q) S' hc hg ht he I3 T (T.keep _ _ _ st2 fun b hb o e => kept b o e) (fun b hb => ?_) (k _ hD) ?_
  · refine ⟨?_, (f2 b hb).2⟩
    obtain ⟨o, e, _⟩ := T.obj _ _ st2 b hb
    rw [upd_ne (Nat.ne_of_lt (Heap.lt_size e))]
    exact (f2 b hb).1
  · rintro H' s' I' ⟨m, hm⟩ hn q
    refine ⟨m, hm, fun h' hs' => ⟨.ref s2.heap.objs.size, H', ?_, rfl, q⟩⟩
    exact I'.turned (t' := s'.toks) (fun b o hb e => hs'.extBut b o hb e) hn (Nat.ne_of_gt I3.lt) (.inr I3.sz) (fun x c hcx e => by
      obtain ⟨v, hv⟩ := I3.cell x c hcx
      exact absurd hv.lt (by rw [e]; exact Nat.lt_irrefl _)) fun p hp e => by
        have := (I3.pin p hp).1
        rw [e] at this
        exact absurd (Heap.lt_size this) (Nat.lt_irrefl _)

/-- name = [.. for ..] where the store comes ahead of the block's end -/
def tAsgC (i : Nat) (te : TE) : TS := fun D σ H => te σ H fun x H1 => D.nx (σ.set i (some x)) H1

end

/-! ### the forms one uses -/
/-- a target: from a value to the block's own slots -/
def GOk (g : TG) (own : Nat) (fv : List (Option V)) (dec : V → Hp → List (Option V) → Prop) : Prop :=
  ∀ (x : V) (o : List (Option V)) (H : Hp) (k : St → Hp → Prop) (o3 : List (Option V)), o.length = own → dec x H o3 → k (o3 ++ fv) H → g x (o ++ fv) H k
theorem gok1 {fv : List (Option V)} : GOk (gName 0) 1 fv (fun x _ o3 => o3 = [some x]) := fun x o H k o3 hl e h => by
  subst e
  match o, hl with
  | [a], _ => exact h
def dec2 (K : PySem.W.Frag) : V → Hp → List (Option V) → Prop := fun x H o3 => ∃ p u v, x = .ref p ∧ SqT K H p [u, v] ∧ o3 = [some u, some v]
def dec3 (K : PySem.W.Frag) : V → Hp → List (Option V) → Prop := fun x H o3 => ∃ p u v w, x = .ref p ∧ SqT K H p [u, v, w] ∧ o3 = [some u, some v, some w]



theorem comp_it {J : It} {g : TG} {tc : TT} {te : TE} {own : Nat} {fv : List (Option V)} {dec : V → Hp → List (Option V) → Prop} {D : Addr} {H : Hp} {Q : VK} {σ0 : St} (hσ : σ0 = List.replicate own none ++ fv) (G : GOk g own fv dec) (n : Nat) (Pv : Nat → List V → Hp → Prop)
    (h0 : Pv 0 [] (upd H D (.lst []))) (hstop : ∀ out H', Pv n out H' → J.stop n H' ∧ Q (.ref D) H')
    (hgo : ∀ i out H', i < n → Pv i out H' → J.go i H' ∧ ∀ x H2, J.yld i H' x H2 → ∃ o3, dec x H2 o3 ∧ o3.length = own ∧ ∀ Nx : Hp → Prop, (∀ out' H2, Pv (i + 1) out' H2 → Nx H2) →
      tc (o3 ++ fv) H2 fun b H4 => if b = true then te (o3 ++ fv) H4 fun y H5 => ∃ out2, H5 D = some (.lst out2) ∧ out2.length < sizeLine ∧ Nx (upd H5 D (.lst (out2 ++ [y]))) else Nx H4) :
    CompW J g tc te σ0 D H Q := by
  subst hσ
  refine ⟨fun i m σ' H' => m = n - i ∧ i ≤ n ∧ (∃ o : List (Option V), σ' = o ++ fv ∧ o.length = own) ∧ ∃ out, Pv i out H', ⟨n, by simp, Nat.zero_le _, ⟨_, rfl, List.length_replicate⟩, _, h0⟩, ?_⟩
  rintro i m σ' H' ⟨rfl, hi, ⟨o, rfl, ho⟩, out, p⟩
  by_cases hlt : i < n
  · obtain ⟨go, k⟩ := hgo i out H' hlt p
    refine .inr ⟨go, fun σ2 H2 => (∃ o : List (Option V), σ2 = o ++ fv ∧ o.length = own) ∧ ∃ out, Pv (i + 1) out H2, fun σ2 H2 q => ⟨n - (i + 1), by omega, rfl, hlt, q⟩, fun x H2 y => ?_⟩
    obtain ⟨o3, d, l3, q⟩ := k x H2 y
    exact G x o H2 _ o3 ho d (q (fun H2 => (∃ o : List (Option V), o3 ++ fv = o ++ fv ∧ o.length = own) ∧ ∃ out, Pv (i + 1) out H2) fun out' H2 z => ⟨⟨o3, rfl, l3⟩, out', z⟩)
  · have e : i = n := by omega
    subst e
    exact .inl (hstop out H' p)
/-- over a list that the block leaves as it is -/
theorem comp_list {K : PySem.W.Frag} {a : Addr} {xs : List V} {g : TG} {tc : TT} {te : TE} {own : Nat} {fv : List (Option V)} {dec : V → Hp → List (Option V) → Prop} {D : Addr} {H : Hp} {Q : VK} {σ0 : St} (hσ : σ0 = List.replicate own none ++ fv) (G : GOk g own fv dec) (Pv : Nat → List V → Hp → Prop)
    (h0 : Pv 0 [] (upd H D (.lst []))) (hl : ∀ i out H', i ≤ xs.length → Pv i out H' → SqL K H' a xs) (hd : ∀ out H', Pv xs.length out H' → Q (.ref D) H')
    (hgo : ∀ i x out H', xs[i]? = some x → Pv i out H' → ∃ o3, dec x H' o3 ∧ o3.length = own ∧ ∀ Nx : Hp → Prop, (∀ out' H2, Pv (i + 1) out' H2 → Nx H2) →
      tc (o3 ++ fv) H' fun b H4 => if b = true then te (o3 ++ fv) H4 fun y H5 => ∃ out2, H5 D = some (.lst out2) ∧ out2.length < sizeLine ∧ Nx (upd H5 D (.lst (out2 ++ [y]))) else Nx H4) :
    CompW (Itl K a) g tc te σ0 D H Q := by
  refine comp_it hσ G xs.length Pv h0 (fun out H' p => ⟨⟨xs, hl _ _ _ (Nat.le_refl _) p, Nat.le_refl _⟩, hd out H' p⟩) fun i out H' hi p => ?_
  have q := hl i out H' (Nat.le_of_lt hi) p
  refine ⟨⟨xs, xs[i], q, by simp [hi]⟩, fun x H2 y => ?_⟩
  obtain ⟨e, y⟩ := y
  subst e
  exact hgo i x out _ (y xs q) p
end L2
set_option Elab.async false
set_option linter.all false
set_option maxRecDepth 100000
/-! The sort's own plan (which places it asks, what it makes of the answers) keeps its word: a row in order, of the same things. -/
namespace EvS
open PySem PySem.W PyProof.Rows

/-- the answers f, asked of places below n alone, lead to an end with Q -/
def Ok {α : Type} (f : Nat → Nat → Bool) (n : Nat) : KasT α → (α → Prop) → Prop
  | .ret a, Q => Q a
  | .ask i j k, Q => i < n ∧ j < n ∧ Ok f n (k (f i j)) Q




structure Ord (f : Nat → Nat → Bool) : Prop where
  rfl' : ∀ i, f i i = false
  trans : ∀ {i j k}, f j i = false → f k j = false → f k i = false
  tot : ∀ {i j}, f i j = true → f j i = false

section
variable {f : Nat → Nat → Bool} (O : Ord f) {N : Nat}

abbrev at' (p : Array Nat) (i : Nat) : Nat := p.getD i 0
/-- the first k are in order; in falling order -/
def Up (f : Nat → Nat → Bool) (p : Array Nat) (k : Nat) : Prop := ∀ i j, i ≤ j → j < k → f (at' p j) (at' p i) = false
def Down (f : Nat → Nat → Bool) (p : Array Nat) (k : Nat) : Prop := ∀ i j, i ≤ j → j < k → f (at' p i) (at' p j) = false
/-- the places lo .. k - 1 are alike -/
def Like (f : Nat → Nat → Bool) (p : Array Nat) (lo k : Nat) : Prop := ∀ i, lo ≤ i → i < k → f (at' p i) (at' p (k - 1)) = false ∧ f (at' p (k - 1)) (at' p i) = false
/-- the places 0 .. N - 1, put otherwise -/
def Good (N : Nat) (p : Array Nat) : Prop := p.Perm (List.range N).toArray










include O










/-- what counting leaves: the first r are in order -/
def Counted (f : Nat → Nat → Bool) (N nrem : Nat) (r : Nat × Array Nat) : Prop := Good N r.2 ∧ 1 ≤ r.1 ∧ r.1 ≤ nrem ∧ Up f r.2 r.1










end
end EvS
set_option Elab.async false
set_option linter.all false
set_option maxRecDepth 100000
/-! sorted(..) of anything that is collected, by the plan -/
namespace EvS
open PySem PySem.W PyProof.Rows
section
variable {prog : Program} {w : World} {A : Around} {E : Value → Shared → Prop} {s : Shared}

/-- how the things vs are asked: the kind that is found, and every two of them -/
def Asks (prog : Program) (w : World) (A : Around) (f : Nat → Nat → Bool) (vs : List Value) (s : Shared) : Prop :=
  ∃ κ, (∀ Q : SortKind → Shared → Prop, Q κ s → wpAny (model prog w) A (keyKind' vs.toArray) Q (fun _ _ => False) s) ∧ ∀ i j C, i < vs.length → j < vs.length → C (f i j) s → kas_ask prog w A κ vs i j C s
/-- what stands at s stands at s' too, but a -/
def KeptBut (a : Addr) (h h' : Heap) : Prop := ∀ b o, b ≠ a → h.get? b = some o → h'.get? b = some o
/-- the things as the plan puts them -/
def putBy (p : Array Nat) (vs : List Value) : List Value := p.toList.map fun i => vs.getD i Value.none






end
end EvS
set_option Elab.async false
set_option linter.all false
set_option maxRecDepth 100000
namespace L2
open PySem PySem.Spec PyProof.Rows PySem.W EvS

/-! ### the order of keys -/
def kLt : Key → Key → Bool
  | .inl i, .inl j => decide (i < j)
  | .inl _, .inr _ => true
  | .inr _, .inl _ => false
  | .inr x, .inr y => decide (x.cps.toList < y.cps.toList)
def lexK : List Key → List Key → Bool
  | [], [] => false
  | [], _ :: _ => true
  | _ :: _, [] => false
  | a :: r, b :: q => if a = b then lexK r q else kLt a b












/-- in order -/
def Asc (ks : List (List Key)) : Prop := ks.Pairwise fun a b => lexK b a = false


def sortKs (ks : List (List Key)) : List (List Key) := ks.mergeSort fun a b => !lexK b a




/-! ### the plan, read back -/








/-! ### texts -/

def sortS (ss : List Str) : List Str := (sortKs (ss.map fun x => [Sum.inr x])).map fun k => match k with
  | [.inr x] => x
  | _ => ⟨#[]⟩
def keyS (x : Str) : List Key := [Sum.inr x]


/-! ### tuples of texts and numbers -/
def isS : Key → Bool
  | .inl _ => false
  | .inr _ => true





/-- things that are tuples of these keys -/
def TupsAt (K : PySem.W.Frag) (H : Hp) : List V → List (List Key) → Prop := Paired fun y k => ∃ a, y = V.ref a ∧ H a = some (.tup (k.map kV))
/-- all of one form: their kinds place by place -/
def Alike (ks : List (List Key)) (sh : List Bool) : Prop := sh ≠ [] ∧ ∀ k ∈ ks, k.map isS = sh


end L2
set_option Elab.async false
set_option linter.all false
set_option maxRecDepth 100000
/-! a dict's keys, whatever they are, walked: by its raw entries -/
namespace EvD
open PySem PySem.W PyProof.Rows
section
variable {prog : Program} {w : World} {A : Around} {E : Value → Shared → Prop} {s : Shared}

def Raw (h : Heap) (d : Addr) (es : Array DictEntry) (ep : Nat) : Prop := ∃ o, h.get? d = some o ∧ o.ExactDict ∧ o.data = .dict es ep












end
end EvD
set_option Elab.async false
set_option linter.all false
set_option maxRecDepth 100000
namespace EvD
open PySem PySem.W PyProof.Rows







end EvD
set_option Elab.async false
set_option linter.all false
set_option maxRecDepth 100000
namespace EvD
open PySem PySem.W PyProof.Rows



section
variable {prog : Program} {w : World} {K : Type} [DecidableEq K] {knd : PySem.KeyKind prog w K} {A : Around}
/-- pairs (key, value), as tuples of the heap -/
def PairsIn (knd : PySem.KeyKind prog w K) (h : Heap) : List Value → List (K × Value) → Prop := Paired fun v p => ∃ a key, v = .ref a ∧ IsTup h a #[key, p.2] ∧ knd.is p.1 key = true
def mergeP (kvs : List (K × Value)) (ps : List (K × Value)) : List (K × Value) := ps.foldl (fun acc p => stored acc p.1 p.2) kvs















end
end EvD
set_option Elab.async false
set_option linter.all false
set_option maxRecDepth 100000
namespace L2
open PySem PySem.Spec PyProof.Rows PySem.W EvS EvD

/-! ### heaps -/
theorem SqT.same {K : PySem.W.Frag} {H H' : Hp} {a : Addr} {xs : List V} (h : SqT K H a xs) (e : Same H H') : SqT K H' a xs := by
  rcases h with (h | ⟨o, h⟩) | h
  · exact .inl (.inl (e _ _ h))
  · exact .inl (.inr ⟨o, e _ _ h⟩)
  · exact .inr h

theorem Same.new {H : Hp} {l : Addr} {o : HO} (h : H l = none) : Same H (upd H l o) := fun b u e => by rw [upd_ne (ne_of_none e h)]; exact e

section
variable {X : Cx} {pins : List (Addr × Obj)} {σ : St} {H H' : Hp} {s : Shared} {h' : Heap} {t' : Nat}

end

/-! ### what is collected -/
section
variable {X : Cx} {pins : List (Addr × Obj)} {σ : St} {H : Hp} {s : Shared} {A : Around} {E : Value → Shared → Prop}







/-- the views of a dict -/
def itemsV (v d : Addr) : HO := .ext fun h => h.IsItemsView v d
def valuesV (v d : Addr) : HO := .ext fun h => h.IsValuesView v d
/-- pairs as tuples -/
def PairsAt (K : PySem.W.Frag) (H : Hp) : List V → List (Key × V) → Prop := Paired fun y p => ∃ a, y = V.ref a ∧ H a = some (.tup [kV p.1, p.2])

end
end L2
set_option Elab.async false
set_option linter.all false
set_option maxRecDepth 100000
namespace L2
open PySem PySem.Spec PyProof.Rows PySem.W EvS EvD

/-! ### sorted -/




section
variable {X : Cx} {pins : List (Addr × Obj)} {σ : St} {H : Hp} {s : Shared}



end

section
variable {X : Cx}
/-- sorted(a list of texts) -/
def rSortS (K : PySem.W.Frag) : List V → Hp → VK → Prop := fun xs H Q => ∃ p ss, xs = [.ref p] ∧ SqL K H p (ss.map V.str) ∧ ss.length < 64 ∧ ∀ l, H l = none → Q (.ref l) (upd H l (.lst ((sortS ss).map V.str)))

/-- sorted(a list of tuples of texts and numbers) -/
def rSortT (K : PySem.W.Frag) : List V → Hp → VK → Prop := fun xs H Q => ∃ p ys ks sh, xs = [.ref p] ∧ SqL K H p ys ∧ TupsAt K H ys ks ∧ Alike ks sh ∧ ks.length < 64 ∧ ∀ l zs, H l = none → TupsAt K H zs (sortKs ks) → zs.Perm ys → Q (.ref l) (upd H l (.lst zs))

/-- sorted(a dict whose keys are tuples) -/
def rSortDT (K : PySem.W.Frag) : List V → Hp → VK → Prop := fun xs H Q => ∃ d kvs sh, xs = [.ref d] ∧ H d = some (.dT kvs) ∧ Alike (kvs.map (·.1)) sh ∧ kvs.length < 64 ∧ ∀ l zs, H l = none → TupsAt K H zs (sortKs (kvs.map (·.1))) → Q (.ref l) (upd H l (.lst zs))

/-- sorted(a dict whose keys are texts) -/
def rSortDS : List V → Hp → VK → Prop := fun xs H Q => ∃ d kvs ss, xs = [.ref d] ∧ H d = some (.dK kvs) ∧ kvs.map (·.1) = ss.map Sum.inr ∧ ss.length < 64 ∧ ∀ l, H l = none → Q (.ref l) (upd H l (.lst ((sortS ss).map V.str)))

/-- sorted(d.items()) -/
def rSortI (K : PySem.W.Frag) : List V → Hp → VK → Prop := fun xs H Q => ∃ (v d : Addr) (kvs : List (Key × V)) (ks : List (Key × Key)) (sh : List Bool), xs = [.ref v] ∧ H v = some (itemsV v d) ∧ H d = some (.dK kvs) ∧ kvs = ks.map (fun k : Key × Key => (k.1, kV k.2)) ∧ Alike (ks.map fun k => [k.1, k.2]) sh ∧ ks.length < 64 ∧
  ∀ l H1 zs, Same H H1 → H1 l = none → TupsAt K H1 zs (sortKs (ks.map fun k => [k.1, k.2])) → Q (.ref l) (upd H1 l (.lst zs))


/-! ### list(d), dict(pairs) -/
def rListD : List V → Hp → VK → Prop := fun xs H Q => ∃ d kvs, xs = [.ref d] ∧ Rd H d (.dK kvs) ∧ ∀ l, H l = none → Q (.ref l) (upd H l (.lst (kvs.map fun kv => kV kv.1)))


def rDictOf (K : PySem.W.Frag) : List V → Hp → VK → Prop := fun xs H Q => ∃ p ys kvs, xs = [.ref p] ∧ H p = some (.lst ys) ∧ PairsAt K H ys kvs ∧ kvs.length ≤ 1000 ∧ ∀ l, H l = none → Q (.ref l) (upd H l (.dK (mergeK [] kvs)))


/-! ### all, any, max -/
theorem bools_of : ∀ {bs : List Bool} {vs : List Value}, Vals (bs.map V.bl) vs → vs = bs.map Value.bool
  | [], _, .nil => rfl
  | b :: bs, _, .cons h t => by
    cases h
    rw [bools_of t]
    rfl
def rAll (K : PySem.W.Frag) (g : List Bool → Bool) : List V → Hp → VK → Prop := fun xs H Q => ∃ p bs, xs = [.ref p] ∧ SqL K H p (bs.map V.bl) ∧ Q (.bl (g bs)) H
theorem call_all (hc : X.calm = true) : CallR X (.builtin "all") (rAll X.K fun bs => bs.all id) := by
  intro pins s σ H xs us Q I r h
  obtain ⟨p, bs, rfl, hp, q⟩ := h
  obtain ⟨u, rfl, ru⟩ := vals1 r
  cases ru
  obtain ⟨its, rv, pl, z⟩ := I.list hp
  obtain rfl := bools_of rv
  have hl := pl.isList
  have lt : p < s.heap.objs.size := by obtain ⟨_, e, _⟩ := hl; exact Heap.lt_size e
  refine call_all_walk (wpAny_pyIter_list hl ⟨s.heap.objs.size, [s.heap.objs.size, p], [s.heap.objs.size], (bs.map Value.bool).toArray.size, _, _, fun i => (bs[i]?).getD true, rfl, Walks.list (A := X.A.in1) (I.ok.hd hc) _ p (Nat.ne_of_lt lt) _, ⟨⟨_, Heap.get?_push_size _ rfl, rfl, rfl⟩, hl.push _⟩, fun i v s' Q' E' hP hQ => ?_, fun h' tk hk => ?_⟩)
  · have hP : (bs.map Value.bool).toArray[i]? = some v := hP
    simp only [List.getElem?_toArray, List.getElem?_map] at hP
    cases e : bs[i]? with
    | none => rw [e] at hP; cases hP
    | some b =>
      have hQ : Q' ((bs[i]?).getD true) s' := hQ
      rw [e] at hP hQ
      cases hP
      exact wpAny_truthy_bool hQ
  · have e : ((List.range (bs.map Value.bool).toArray.size).all fun i => (bs[i]?).getD true) = bs.all id := by
      rw [List.size_toArray, List.length_map]
      exact LSm.range_all bs
    rw [e]
    exact ⟨.bl _, H, I.kept (LSm.kept_iter hk), rfl, q⟩


/-- max of a list of numbers -/
def rMax (K : PySem.W.Frag) : List V → Hp → VK → Prop := fun xs H Q => ∃ (p : Addr) (ns : List Int), xs = [.ref p] ∧ SqL K H p (ns.map V.int) ∧ 0 < ns.length ∧ ∀ m, m ∈ ns → (∀ a ∈ ns, a ≤ m) → Q (.int m) H

end
end L2
set_option Elab.async false
set_option linter.all false
set_option maxRecDepth 100000
/-! list != list -/
namespace EvN
open PySem PySem.SeqAt PyProof.Rows
open AutoSeq1 (wpAny_loadPart')
open MeetsSeq MeetsSeq2 MeetsSeq3 SeqRoads2

theorem ne_go (l b : Addr) (xs ys : Array Value) (n m : Nat) (dl db : Option Addr) (sl sb : Array (Option Value)) (hs : xs.size = ys.size) (e : Nat → Bool) (k : Nat) :
    ∀ i : Nat, xs.size - i = k → Meets (Builtin.«list.__eq__.loop» ⟨[.ref l, .ref b, rawInt i, rawInt 3], []⟩)
      (fun A R s => (s.heap.get? l = some { cls := .type "list", dict := dl, data := .seq xs n, slots := sl } ∧ s.heap.get? b = some { cls := .type "list", dict := db, data := .seq ys m, slots := sb }) ∧
        (∀ j (h1 : j < xs.size) (h2 : j < ys.size), EqAt A.in1 s xs[j] ys[j] (e j)) ∧ R (.ok (.ret (.bool (!((List.range xs.size).drop i).all e)))) s) := by
  induction k with
  | zero =>
    intro i hk prog w A R s ⟨⟨gl, gb⟩, he, h⟩
    obtain ⟨hp, g, d, tk, os⟩ := s
    wp_walk using wpAny_loadPart' gl, wpAny_loadPart' gb
    rw [show xs[((i : Nat) : Int).toNat]? = none by simp; omega, show ys[((i : Nat) : Int).toNat]? = none by simp; omega]
    rw [show (List.range xs.size).drop i = [] by simp; omega] at h
    wp_walk using wpAny_loadPart' gl, wpAny_loadPart' gb
    refine (show R (.ok (.ret (.bool (xs.size != ys.size)))) _ from ?_)
    rw [show (xs.size != ys.size) = false by simp [hs]]
    exact h
  | succ k ih =>
    intro i hk prog w A R s ⟨⟨gl, gb⟩, he, h⟩
    obtain ⟨hp, g, d, tk, os⟩ := s
    wp_walk using wpAny_loadPart' gl, wpAny_loadPart' gb
    have z1 : i < xs.size := by omega
    have z2 : i < ys.size := by omega
    have q1 : xs[((i : Nat) : Int).toNat]? = some xs[i] := by simp [z1]
    have q2 : ys[((i : Nat) : Int).toNat]? = some ys[i] := by simp [z2]
    rw [show (List.range xs.size).drop i = i :: (List.range xs.size).drop (i + 1) by simp [List.drop_eq_getElem_cons, z1], List.all_cons] at h
    rw [q1, q2]
    refine wpAny_bind (he i z1 z2 prog w _ _ ?_)
    cases c : e i with
    | true =>
      rw [c] at h
      wp_walk
      rw [show ((i : Int) + 1) = ((i + 1 : Nat) : Int) by omega]
      refine ⟨plainId_quiet plain_eq_loop _, codeAny_builtin entry_eq_loop ?_⟩
      rw [Around.under_plainId plain_eq_loop _]
      exact ih (i + 1) (by omega) prog w A R _ ⟨⟨gl, gb⟩, he, by simpa using h⟩
    | false =>
      rw [c] at h
      wp_walk using wpAny_loadPart' gl, wpAny_loadPart' gb
      rw [q1, q2]
      wp_walk
      simpa using h

theorem ne_lists (l b : Addr) (xs ys : Array Value) (n m : Nat) (dl db : Option Addr) (sl sb : Array (Option Value)) (hs : xs.size = ys.size) (e : Nat → Bool) :
    Meets (Builtin.«list.__ne__» ⟨[.ref l, .ref b], []⟩)
      (fun A R s => (s.heap.get? l = some { cls := .type "list", dict := dl, data := .seq xs n, slots := sl } ∧ s.heap.get? b = some { cls := .type "list", dict := db, data := .seq ys m, slots := sb }) ∧
        (∀ j (h1 : j < xs.size) (h2 : j < ys.size), EqAt A.in1 s xs[j] ys[j] (e j)) ∧ R (.ok (.ret (.bool (!(List.range xs.size).all e)))) s) := by
  intro prog w A R s ⟨⟨gl, gb⟩, he, h⟩
  obtain ⟨hp, g, d, tk, os⟩ := s
  have f3 := AutoSeq1.sub_list_list
  have no : ¬ (xs.size != ys.size) = true := by simp [hs]
  wp_walk using wpAny_loadPart' gl, wpAny_loadPart' gb
  refine ⟨plainId_quiet plain_eq_loop _, codeAny_builtin entry_eq_loop ?_⟩
  rw [Around.under_plainId plain_eq_loop _]
  exact ne_go l b xs ys n m dl db sl sb hs e _ 0 rfl prog w A R _ ⟨⟨gl, gb⟩, he, by simpa using h⟩

theorem ne_sizes (l b : Addr) (xs ys : Array Value) (n m : Nat) (dl db : Option Addr) (sl sb : Array (Option Value)) (hs : (xs.size != ys.size) = true) :
    Meets (Builtin.«list.__ne__» ⟨[.ref l, .ref b], []⟩)
      (fun A R s => (s.heap.get? l = some { cls := .type "list", dict := dl, data := .seq xs n, slots := sl } ∧ s.heap.get? b = some { cls := .type "list", dict := db, data := .seq ys m, slots := sb }) ∧ R (.ok (.ret (.bool true))) s) :=
  .of_wp fun prog w A R s ⟨⟨gl, gb⟩, h⟩ => by
    obtain ⟨hp, g, d, tk, os⟩ := s
    have f3 := AutoSeq1.sub_list_list
    wp_walk using wpAny_loadPart' gl, wpAny_loadPart' gb
    exact ⟨_, rfl, h⟩

section
variable {prog : Program} {w : World} {A : Around} {E : Value → Shared → Prop} {s : Shared}
theorem ne_listAt {l b : Addr} {xs ys : Array Value} {e : Nat → Bool} {Q : Value → Shared → Prop} (hl : s.heap.IsList l xs) (hb : s.heap.IsList b ys) (hs : xs.size = ys.size) (hu : A.units < cLine)
    (he : ∀ j (h1 : j < xs.size) (h2 : j < ys.size), EqAt A.in1 s xs[j] ys[j] (e j)) (h : Q (.bool (!(List.range xs.size).all e)) s) : wpAny (model prog w) A (compareOp .NotEq (.ref l) (.ref b)) Q E s := by
  obtain ⟨⟨c1, d1, t1, l1⟩, o1, k1, n1, z1⟩ := id hl
  obtain ⟨⟨c2, d2, t2, l2⟩, o2, k2, n2, z2⟩ := id hb
  simp only at k1 z1 k2 z2
  subst k1 z1 k2 z2
  exact richCompare_meets_room (op := .NotEq) ⟨_, o1, rfl⟩ ⟨_, o2, rfl⟩ F.slot_list_ne F.entry_list_ne (F.args_list_ne_2 _ _) (ne_lists l b xs ys n1 n2 d1 d2 l1 l2 hs e) ⟨⟨o1, o2⟩, he, show Value.bool (!(List.range xs.size).all e) ≠ Value.notImplemented ∧ Q (.bool (!(List.range xs.size).all e)) s from ⟨(fun x => nomatch x), h⟩⟩ hu
theorem ne_sizesAt {l b : Addr} {xs ys : Array Value} {Q : Value → Shared → Prop} (hl : s.heap.IsList l xs) (hb : s.heap.IsList b ys) (hs : (xs.size != ys.size) = true) (hu : A.units < cLine) (h : Q (.bool true) s) : wpAny (model prog w) A (compareOp .NotEq (.ref l) (.ref b)) Q E s := by
  obtain ⟨⟨c1, d1, t1, l1⟩, o1, k1, n1, z1⟩ := id hl
  obtain ⟨⟨c2, d2, t2, l2⟩, o2, k2, n2, z2⟩ := id hb
  simp only at k1 z1 k2 z2
  subst k1 z1 k2 z2
  exact richCompare_meets_room (op := .NotEq) ⟨_, o1, rfl⟩ ⟨_, o2, rfl⟩ F.slot_list_ne F.entry_list_ne (F.args_list_ne_2 _ _) (ne_sizes l b xs ys n1 n2 d1 d2 l1 l2 hs) ⟨⟨o1, o2⟩, show Value.bool true ≠ Value.notImplemented ∧ Q (.bool true) s from ⟨(fun x => nomatch x), h⟩⟩ hu
end
end EvN
set_option Elab.async false
set_option linter.all false
set_option maxRecDepth 100000
/-! data of the heap, compared -/
namespace L2
open PySem PySem.Spec PyProof.Rows PySem.W EvS EvD

/-- x stands for d -/
abbrev Rp (D : Type) := Hp → V → D → Prop
structure Cmp (X : Cx) (n : Nat) {D : Type} [DecidableEq D] (R : Rp D) : Prop where
  eq : ∀ {pins : List (Addr × Obj)} {σ : St} {H : Hp} {s : Shared} {A : Around} {x y : V} {u v : Value} {d e : D}, Inv X pins σ H s → RelV x u → RelV y v → R H x d → R H y e → A.units + n < cLine → SeqAt.EqAt A s u v (decide (d = e))
  one : ∀ {pins : List (Addr × Obj)} {σ : St} {H : Hp} {s : Shared} {x : V} {d e : D}, Inv X pins σ H s → R H x d → R H x e → d = e

def rS : Rp Str := fun _ x d => x = .str d
def rZ : Rp Int := fun _ x d => x = .int d
def rB : Rp Bool := fun _ x d => x = .bl d
def r2 (K : PySem.W.Frag) {D1 D2 : Type} (R1 : Rp D1) (R2 : Rp D2) : Rp (D1 × D2) := fun H x d => ∃ a u v, x = .ref a ∧ SqT K H a [u, v] ∧ R1 H u d.1 ∧ R2 H v d.2
def r3 (K : PySem.W.Frag) {D1 D2 D3 : Type} (R1 : Rp D1) (R2 : Rp D2) (R3 : Rp D3) : Rp (D1 × D2 × D3) := fun H x d => ∃ a u v w, x = .ref a ∧ SqT K H a [u, v, w] ∧ R1 H u d.1 ∧ R2 H v d.2.1 ∧ R3 H w d.2.2
def rL (K : PySem.W.Frag) {D : Type} (R : Rp D) : Rp (List D) := fun H x ds => ∃ a xs, x = .ref a ∧ SqL K H a xs ∧ Paired (R H) xs ds

section
variable {X : Cx}
theorem cmpS : Cmp X 0 rS where
  eq := fun {pins σ H s A x y u v d e} I ru rv hx hy hu => by
    have hx : x = .str d := hx
    have hy : y = .str e := hy
    subst hx
    subst hy
    have q := eqAt_V (A := A) (s := s) ru rv rfl rfl
    have e2 : eqV (.str d) (.str e) = decide (d = e) := by
      show (d == e) = _
      by_cases h : d = e
      · subst h; simp
      · simp [h]
    rwa [e2] at q
  one := fun {pins σ H s x d e} I hx hy => by
    have hx : x = .str d := hx
    have hy : x = .str e := hy
    rw [hx] at hy
    exact V.str.inj hy


theorem isTuple_of {h : Heap} {a : Addr} {its : Array Value} (t : IsTup h a its) : h.IsTuple a its := t



theorem paired_get {α β : Type} {F : α → β → Prop} : ∀ {l : List α} {m : List β}, Paired F l m → ∀ (i : Nat) (h1 : i < l.length) (h2 : i < m.length), F l[i] m[i]
  | _, _, .cons h t, 0, _, _ => h
  | _, _, .cons h t, i + 1, h1, h2 => paired_get t i (by simpa using h1) (by simpa using h2)
theorem all_range_eq {D : Type} [DecidableEq D] : ∀ {ds es : List D}, ds.length = es.length → ((List.range ds.length).all fun j => decide (ds[j]? = es[j]?)) = decide (ds = es) := fun {ds es} hl => by
  by_cases h : ds = es
  · subst h
    simp
  · rw [decide_eq_false h]
    have : ∃ i, i < ds.length ∧ ds[i]? ≠ es[i]? := by
      refine Classical.byContradiction fun hn => h ?_
      apply List.ext_getElem?
      intro i
      by_cases hi : i < ds.length
      · exact Classical.byContradiction fun q => hn ⟨i, hi, q⟩
      · rw [List.getElem?_eq_none (by omega), List.getElem?_eq_none (by omega)]
    obtain ⟨i, hi, q⟩ := this
    rw [List.all_eq_false]
    exact ⟨i, by simpa using hi, by simpa using q⟩



/-- the items of two lists of one length, compared -/
theorem items_eq {D : Type} [DecidableEq D] {n : Nat} {R : Rp D} (c : Cmp X n R) {pins : List (Addr × Obj)} {σ : St} {H : Hp} {s : Shared} {A : Around} (I : Inv X pins σ H s) {xs ys : List V} {us vs : List Value} {ds es : List D} (ru : Vals xs us) (rv : Vals ys vs) (hx : Paired (R H) xs ds) (hy : Paired (R H) ys es) (hu : A.units + n < cLine) :
    ∀ j (h1 : j < us.toArray.size) (h2 : j < vs.toArray.size), SeqAt.EqAt A s us.toArray[j] vs.toArray[j] (decide (ds[j]? = es[j]?)) := fun j h1 h2 => by
  have l1 := ru.length
  have l2 := rv.length
  have l3 := Paired.length hx
  have l4 := Paired.length hy
  simp only [List.size_toArray] at h1 h2
  have q := c.eq (A := A) I (paired_get ru j (by omega) h1) (paired_get rv j (by omega) h2) (paired_get hx j (by omega) (by omega)) (paired_get hy j (by omega) (by omega)) hu
  have e : decide (ds[j]? = es[j]?) = decide (ds[j]'(by omega) = es[j]'(by omega)) := by
    rw [List.getElem?_eq_getElem (by omega), List.getElem?_eq_getElem (by omega)]
    by_cases z : ds[j]'(by omega) = es[j]'(by omega)
    · simp [z]
    · simp [z]
  rw [e]
  exact q



/-! ### the rules -/
def rEqD {D : Type} [DecidableEq D] (R : Rp D) (neg : Bool) : V → V → Hp → VK → Prop := fun x y H Q => ∃ d e, R H x d ∧ R H y e ∧ Q (.bl (if neg then !decide (d = e) else decide (d = e))) H
theorem op_eqL {n : Nat} {D : Type} [DecidableEq D] {R : Rp D} (c : Cmp X n R) (hu : X.A.units + n + 1 < cLine) : OpR X (compareOp .Eq) (rEqD (rL X.K R) false) := by
  intro pins s σ H x y v u Q I rx ry h
  obtain ⟨d, e, ⟨a, xs, rfl, t, q⟩, ⟨b, ys, rfl, t', q'⟩, hq⟩ := h
  cases rx
  cases ry
  obtain ⟨us, r, pl, _⟩ := I.list t
  obtain ⟨vs, r', pl', _⟩ := I.list t'
  have l1 := r.length
  have l2 := r'.length
  have l3 := Paired.length q
  have l4 := Paired.length q'
  by_cases hl : d.length = e.length
  · refine SeqAt.eq_listAt pl.isList pl'.isList (by simp only [List.size_toArray]; omega) (by omega) (items_eq c I r r' q q' (A := X.A.in1) (by show X.A.units + 1 + n < cLine; omega)) ⟨.bl _, H, I, rfl, ?_⟩
    rw [show us.toArray.size = d.length by simp only [List.size_toArray]; omega, all_range_eq hl]
    exact hq
  · refine SeqAt.eq_list_lengthsAt pl.isList pl'.isList (by simp only [List.size_toArray, bne_iff_ne]; omega) (by omega) ⟨.bl _, H, I, rfl, ?_⟩
    have hq : Q (.bl (decide (d = e))) H := hq
    rwa [decide_eq_false (fun z => hl (by rw [z]))] at hq
theorem op_neL {n : Nat} {D : Type} [DecidableEq D] {R : Rp D} (c : Cmp X n R) (hu : X.A.units + n + 1 < cLine) : OpR X (compareOp .NotEq) (rEqD (rL X.K R) true) := by
  intro pins s σ H x y v u Q I rx ry h
  obtain ⟨d, e, ⟨a, xs, rfl, t, q⟩, ⟨b, ys, rfl, t', q'⟩, hq⟩ := h
  cases rx
  cases ry
  obtain ⟨us, r, pl, _⟩ := I.list t
  obtain ⟨vs, r', pl', _⟩ := I.list t'
  have l1 := r.length
  have l2 := r'.length
  have l3 := Paired.length q
  have l4 := Paired.length q'
  have hq : Q (.bl (!decide (d = e))) H := hq
  by_cases hl : d.length = e.length
  · refine EvN.ne_listAt pl.isList pl'.isList (by simp only [List.size_toArray]; omega) (by omega) (items_eq c I r r' q q' (A := X.A.in1) (by show X.A.units + 1 + n < cLine; omega)) ⟨.bl _, H, I, rfl, ?_⟩
    rw [show us.toArray.size = d.length by simp only [List.size_toArray]; omega, all_range_eq hl]
    exact hq
  · refine EvN.ne_sizesAt pl.isList pl'.isList (by simp only [List.size_toArray, bne_iff_ne]; omega) (by omega) ⟨.bl _, H, I, rfl, ?_⟩
    rwa [decide_eq_false (fun z => hl (by rw [z]))] at hq
/-- d in a list -/
def rInD (K : PySem.W.Frag) {D : Type} [DecidableEq D] (R : Rp D) (neg : Bool) : V → V → Hp → VK → Prop := fun x y H Q => ∃ d es, R H x d ∧ rL K R H y es ∧ Q (.bl (if neg then !decide (d ∈ es) else decide (d ∈ es))) H



end
end L2
set_option Elab.async false
set_option linter.all false
set_option maxRecDepth 100000
namespace L2
open PySem PySem.Spec PyProof.Rows PySem.W EvS EvD

section
variable {X : Cx}
/-! ### isinstance(x, T), T a built-in type -/
def rIsi (K : PySem.W.Frag) : List V → Hp → VK → Prop := fun xs H Q => ∃ x T t b, xs = [x, .ty T] ∧ TyOf K H x t ∧ PySem.W.kitOne K t (.type T) = some b ∧ Q (.bl b) H
theorem call_isi : CallR X (.builtin "isinstance") (rIsi X.K) := by
  intro pins s σ H xs us Q I r h
  obtain ⟨x, T, t, b, rfl, ty, e, q⟩ := h
  obtain ⟨u, w', rfl, ru, rw'⟩ := vals2 r
  cases (show w' = Value.type T from rw')
  exact isinst_ok I ru ty e fun tk => ⟨.bl b, H, I.tok tk, rfl, q⟩
/-! ### texts -/
theorem op_le_str : OpR X (compareOp .LtE) (fun x y H Q => ∃ i j, x = .str i ∧ y = .str j ∧ Q (.bl (!decide (j.cps.toList < i.cps.toList))) H) := by
  intro pins s σ H x y v u Q I rx ry h
  obtain ⟨i, j, rfl, rfl, q⟩ := h
  obtain ⟨t, rfl⟩ := rx
  obtain ⟨t', rfl⟩ := ry
  exact PySem.P.le_str ⟨.bl _, H, I, rfl, q⟩
/-! ### list.insert -/


def rInsert : V → List V → Hp → VK → Prop := fun x vs H Q => ∃ (l : Addr) (k : Nat) (xs : List V) (y : V), x = .ref l ∧ vs = [.int k, y] ∧ H l = some (.lst xs) ∧ k ≤ xs.length ∧ xs.length < 100000 ∧ Q .non (upd H l (.lst (xs.take k ++ y :: xs.drop k)))

/-! ### d.items(), d.values() -/
def tView (mk : Addr → Addr → HO) (td : TE) : TE := fun σ H Q => td σ H fun x H1 => ∃ d kvs, x = .ref d ∧ H1 d = some (.dK kvs) ∧ ∀ v, H1 v = none → Q (.ref v) (upd H1 v (mk v d))



end

/-! ### a dict held still while it is walked -/
section
variable {X : Cx} {pins : List (Addr × Obj)} {σ : St} {H : Hp} {s : Shared} {d : Addr} {kvs : List (Key × V)}


end
/-- e, in which the dict at d is walked -/
def tThaw (t : TE) : TE := fun σ H Q => ∃ d kvs, H d = some (.dK kvs) ∧ t σ H fun v H1 => ∃ o, H1 d = some (.frz o (.dK kvs)) ∧ Q v (upd H1 d (.dK kvs))


/-- its values, in order -/
def Itv (d : Addr) (o : Obj) (kvs : List (Key × V)) : It := ⟨fun i H => H d = some (.frz o (.dK kvs)) ∧ i < kvs.length, fun i H x H' => H' = H ∧ ∃ k, kvs[i]? = some (k, x), fun i H => H d = some (.frz o (.dK kvs)) ∧ kvs.length ≤ i⟩



def iVals (tv : TE) : TI := fun σ H R => tv σ H fun x H1 => ∃ v d kvs, x = .ref v ∧ H1 v = some (valuesV v d) ∧ H1 d = some (.dK kvs) ∧ ∀ o, R (Itv d o kvs) (upd H1 d (.frz o (.dK kvs)))


/-! ### the signs of a text -/
def Its (x : Str) : It := ⟨fun i _ => i < x.cps.size, fun i H v H' => H' = H ∧ ∃ c, x.cps[i]? = some c ∧ v = .str ⟨#[c]⟩, fun i _ => x.cps.size ≤ i⟩
theorem turn_ascii {P : Program} {w : World} {K : PySem.W.Frag} {tg : Expr} (it : Addr) (x : Str) (t : Tok) : Turn P w K tg (Its x) [it] it (fun i h => i ≤ x.cps.size ∧ h.IsStrIter it "str_ascii_iterator" x t i) where
  mem := by simp
  obj := fun i h st b hb => by
    obtain rfl : b = it := by simpa using hb
    obtain ⟨o, e, c, d⟩ := st.2
    exact ⟨o, e, fun v z => by rw [d] at z; cases z⟩
  keep := fun i h h' st k => ⟨st.1, let ⟨o, ho, r⟩ := st.2; ⟨o, k it (by simp) o ho, r⟩⟩
  item := by
    intro X hP hw hK hc i pins s σ H E I hf st hg
    subst hP hw hK
    have hg : i < x.cps.size := hg
    obtain ⟨f0, f1, f2, f3, f4, f5⟩ := hf it (by simp)
    refine wpAny_pyNext_ascii_item st.2 (c := x.cps[i]) (by simp [hg]) fun h' st' sb => ?_
    have I1 : Inv X pins σ H { s with heap := h', toks := s.toks + 1 } := I.turned (t' := s.toks + 1) (fun b o hb e => (sb.2 b hb).trans e) f0 f1 f3 f4 f5
    obtain ⟨o', e, c, dd⟩ := id st'
    exact ⟨_, rfl, go_of (s := { s with heap := h', toks := s.toks + 1 }) e c dd (by decide) ⟨.str ⟨#[x.cps[i]]⟩, H, I1, ⟨_, rfl⟩, ⟨rfl, _, by simp [hg], rfl⟩, ⟨hg, st'⟩, fun b hb => (hf b hb).1⟩⟩
  done := by
    intro X hP hw hK hc i pins s σ H E I hf st hg
    subst hP hw hK
    have hg : x.cps.size ≤ i := hg
    obtain ⟨f0, f1, f2, f3, f4, f5⟩ := hf it (by simp)
    exact wpAny_pyNext_ascii_end (I.ok.hd hc) st.2 (by simp [hg]) fun h' eb => ⟨rfl, I.turned (t' := s.toks) (fun b o hb e => eb b o hb e) f0 f1 f3 f4 f5⟩
  self := fun _ _ _ _ _ st h => wpAny_pyIter_striter_ascii st.2 h
theorem turn_wide {P : Program} {w : World} {K : PySem.W.Frag} {tg : Expr} (it : Addr) (x : Str) (t : Tok) : Turn P w K tg (Its x) [it] it (fun i h => i ≤ x.cps.size ∧ h.IsStrIter it "str_iterator" x t i) where
  mem := by simp
  obj := fun i h st b hb => by
    obtain rfl : b = it := by simpa using hb
    obtain ⟨o, e, c, d⟩ := st.2
    exact ⟨o, e, fun v z => by rw [d] at z; cases z⟩
  keep := fun i h h' st k => ⟨st.1, let ⟨o, ho, r⟩ := st.2; ⟨o, k it (by simp) o ho, r⟩⟩
  item := by
    intro X hP hw hK hc i pins s σ H E I hf st hg
    subst hP hw hK
    have hg : i < x.cps.size := hg
    obtain ⟨f0, f1, f2, f3, f4, f5⟩ := hf it (by simp)
    refine wpAny_pyNext_wide_item st.2 (c := x.cps[i]) (by simp [hg]) fun h' st' sb => ?_
    have I1 : Inv X pins σ H { s with heap := h', toks := s.toks + 1 } := I.turned (t' := s.toks + 1) (fun b o hb e => (sb.2 b hb).trans e) f0 f1 f3 f4 f5
    obtain ⟨o', e, c, dd⟩ := id st'
    exact ⟨_, rfl, go_of (s := { s with heap := h', toks := s.toks + 1 }) e c dd (by decide) ⟨.str ⟨#[x.cps[i]]⟩, H, I1, ⟨_, rfl⟩, ⟨rfl, _, by simp [hg], rfl⟩, ⟨hg, st'⟩, fun b hb => (hf b hb).1⟩⟩
  done := by
    intro X hP hw hK hc i pins s σ H E I hf st hg
    subst hP hw hK
    have hg : x.cps.size ≤ i := hg
    obtain ⟨f0, f1, f2, f3, f4, f5⟩ := hf it (by simp)
    exact wpAny_pyNext_wide_end (I.ok.hd hc) st.2 (by simp [hg]) fun h' eb => ⟨rfl, I.turned (t' := s.toks) (fun b o hb e => eb b o hb e) f0 f1 f3 f4 f5⟩
  self := fun _ _ _ _ _ st h => wpAny_pyIter_striter_wide st.2 h
def iStr (tl : TE) : TI := fun σ H R => tl σ H fun v H1 => ∃ x, v = .str x ∧ R (Its x) H1
theorem pi_str {X : Cx} {tg l : Expr} {tl : TE} (hl : PE X l tl) : PI X tg l (iStr tl) := by
  intro pins s σ H R I h
  refine thn (hl pins s σ H _ I h) fun v s1 ⟨y, H1, I1, r1, x, e, q⟩ => ?_
  subst e
  obtain ⟨t, rfl⟩ := r1
  have fp : ∀ b ∈ [s1.heap.objs.size], FpOk X pins H1 b := fun b hb => by
    obtain rfl : b = s1.heap.objs.size := by simpa using hb
    exact I1.fpOk (Nat.le_refl _) (I1.hok.fresh (Nat.le_refl _))
  cases ha : x.cps.all (· < 128)
  · refine wpAny_pyIter_wide ha ?_
    exact ⟨s1.heap.objs.size, [s1.heap.objs.size], _, _, H1, rfl, I1.kept (t' := s1.toks) fun b o e => Heap.get?_push_of_some _ e, turn_wide _ x t, ⟨Nat.zero_le _, _, Heap.get?_push_size _ rfl, rfl, rfl⟩, fp, q⟩
  · refine wpAny_pyIter_ascii ha ?_
    exact ⟨s1.heap.objs.size, [s1.heap.objs.size], _, _, H1, rfl, I1.kept (t' := s1.toks) fun b o e => Heap.get?_push_of_some _ e, turn_ascii _ x t, ⟨Nat.zero_le _, _, Heap.get?_push_size _ rfl, rfl, rfl⟩, fp, q⟩
end L2

/-! ### the same rules, their part of the text written apart (for a block, whose reading may not speak of its own start) -/
namespace L2
open PySem PySem.Spec PyProof.Rows PySem.W EvS EvD

theorem callK {X : Cx} {f : Value} {K : PySem.W.Frag} (r : PySem.W.Frag → List V → Hp → VK → Prop) (h : CallR X f (r X.K)) (hK : X.K = K := by rfl) : CallR X f (r K) := by
  subst hK
  exact h

def rLen (K : PySem.W.Frag) : List V → Hp → VK → Prop := fun xs H Q => ∃ p ys, xs = [.ref p] ∧ (SqL K H p ys ∨ SqT K H p ys) ∧ Q (.int ys.length) H
def rListOf (K : PySem.W.Frag) : List V → Hp → VK → Prop := fun xs H Q => ∃ p ys, xs = [.ref p] ∧ (SqL K H p ys ∨ SqT K H p ys) ∧ ∀ l, H l = none → Q (.ref l) (upd H l (.lst ys))
def rTupOf (K : PySem.W.Frag) : List V → Hp → VK → Prop := fun xs H Q => ∃ p ys, xs = [.ref p] ∧ ((SqL K H p ys ∧ ∀ l, H l = none → Q (.ref l) (upd H l (.tup ys))) ∨ (SqT K H p ys ∧ Q (.ref p) H))

theorem cListOf {X : Cx} {K : PySem.W.Frag} (hK : X.K = K := by rfl) : CallR X (.type "list") (rListOf K) := callK rListOf call_list_of hK
theorem cTupOf {X : Cx} {K : PySem.W.Frag} (hK : X.K = K := by rfl) : CallR X (.type "tuple") (rTupOf K) := callK rTupOf call_tuple_of hK

end L2
set_option Elab.async false
set_option linter.all false
set_option maxRecDepth 100000
namespace L2
open PySem PySem.Spec PyProof.Rows

theorem ObjOk.here {P : Program} {w : World} {H : Hp} {h : Heap} {a : Addr} {o : HO} (x : ObjOk P w H h a o) : ∃ u, h.get? a = some u := by
  cases o with
  | lst xs => obtain ⟨_, _, _, _, e⟩ := x; exact ⟨_, e⟩
  | tup xs => obtain ⟨_, _, _, o, e, _⟩ := x; exact ⟨_, e⟩
  | dK kvs => obtain ⟨_, _, _, _, o, _, _, e, _⟩ := x; exact ⟨_, e⟩
  | dT kvs => obtain ⟨_, _, _, _, o, _, _, e, _⟩ := x; exact ⟨_, e⟩
  | set S n => obtain ⟨o, _, _, _, e, _⟩ := x; exact ⟨_, e⟩
  | ins C dx fs => obtain ⟨_, _, _, e, _⟩ := x; exact ⟨_, e⟩
  | own y => exact x
  | xd fs => obtain ⟨_, ⟨_, _, _, e, _⟩, _⟩ := x; exact ⟨_, e⟩
  | rng lo hi => obtain ⟨_, _, _, e⟩ := x; exact ⟨_, e⟩
  | frz ob u => obtain ⟨e, _⟩ := x; exact ⟨_, e⟩
  | tbl ps => exact ⟨_, show h.get? a = some _ from x⟩
  | met f y => exact ⟨_, show h.get? a = some _ from x⟩
  | ext φ => obtain ⟨_, e, _⟩ := x; exact e

/-- what an exception on its way over the frames l leaves as it is -/
def InB (B : Heap) (l : List Env) (H : Hp) (h0 h : Heap) : Prop :=
  ∀ b o, h.get? b = some o → b ∉ frs l → ((H b).isSome = true ∨ ∃ o0, h0.get? b = some o0) → B.get? b = some o

section
variable {P : Program} {w : World} {H H' : Hp} {B h0 h h1 : Heap} {l : List Env}
theorem flown_hok (hok : HOk P w H' h) (fr : ∀ b ∈ frs l, H' b = none) (i : InB B l H' h0 h) (st : B.StaysIn h1) : HOk P w H' h1 := fun b o e =>
  (hok b o e).stay (fun c u hc q => by
    have hs : ∃ x, H' c = some x := by
      rcases hc with z | z
      · exact ⟨o, z ▸ e⟩
      · exact ⟨_, z⟩
    obtain ⟨x, hx⟩ := hs
    exact st c u (i c u q (fun m => by rw [fr c m] at hx; cases hx) (.inl (by rw [hx]; rfl)))) (fun _ q => q) (fun _ _ q => q)
theorem flown_un (un : Un (frs l) [] H H' h0 h) (ff : h.FunFrames B l) (i : InB B l H' h0 h) (st : B.StaysIn h1) (up : h.UpToSlots h1) : Un (frs l) [] H H' h0 h1 where
  keep := fun b o q n hb hx => st b o (i b o (un.keep b o q n hb hx) hb (.inr ⟨o, q⟩))
  slot := fun b o q n hb hx => by
    obtain ⟨sl, e⟩ := un.slot b o q n hb hx
    obtain ⟨_, o', e', d⟩ := ff.mem hb
    rw [e] at e'; cases e'
    obtain ⟨sl2, e2⟩ := up b _ e d
    exact ⟨sl2, e2⟩
  free := un.free
  there := fun b o q hx => by
    obtain ⟨o', e⟩ := un.there b o q hx
    by_cases hb : b ∈ frs l
    · obtain ⟨_, o2, e', d⟩ := ff.mem hb
      rw [e] at e'; cases e'
      obtain ⟨sl2, e2⟩ := up b _ e d
      exact ⟨_, e2⟩
    · exact ⟨o', st b o' (i b o' e hb (.inr ⟨o, q⟩))⟩
  tups := un.tups
  frzs := un.frzs
  tbls := un.tbls
theorem flown_in (hok : HOk P w H' h) (un : Un (frs l) [] H H' h0 h) (i : InB B l H' h0 h) (st : B.StaysIn h1) : InB B l H' h0 h1 := fun b o e hb c => by
  have : ∃ u, h.get? b = some u := by
    rcases c with z | ⟨o0, z⟩
    · obtain ⟨x, hx⟩ := Option.isSome_iff_exists.mp z
      exact (hok b x hx).here
    · exact un.there b o0 z (by simp)
  obtain ⟨u, hu⟩ := this
  have q := i b u hu hb c
  have := st b u q
  rw [e] at this; cases this
  exact q
end

/-- a call's end by an exception of the class cls, that lies at a -/
def CX1 (P : Program) (w : World) : CXT := fun l H s E e s' =>
  ∃ a cls H' B a0, e = Value.ref a ∧ s'.os = s.os ∧ AllBare s'.gens ∧ Un (frs l) [] H H' s.heap s'.heap ∧ HOk P w H' s'.heap ∧ Heap.FlyingW B l a cls a0 s'.heap ∧ InB B l H' s.heap s'.heap ∧ E cls none H'

section
variable {X : Cx} {pins : List (Addr × Obj)} {σ : St} {H H' : Hp} {s s1 : Shared} {B h : Heap} {a : Addr} {cls a0 : Value} {E : XK}
theorem stk_free (I : Inv X pins σ H s) (un : Un (frs X.stack) [] H H' s.heap h) : ∀ b ∈ frs X.stack, H' b = none := fun b hb => by
  obtain ⟨_, o, ho, _⟩ := I.stack.mem hb
  exact un.free b o ho (I.stkFree b hb) (by simp)
theorem leave_end (I : Inv X pins σ H s) (hex : X.ex = []) (os : s1.os = s.os) (bare : AllBare s1.gens) (un : Un (frs X.stack) [] H H' s.heap h) (hok : HOk X.prog X.w H' h) (i : InB B X.stack H' s.heap h) (ff : h.FunFrames B X.stack) (up : h.UpToSlots s1.heap)
    (fl : Heap.FlyingW B X.outer a cls a0 s1.heap) (hE : E cls none H') : CX1 X.prog X.w X.outer X.H₀ X.s₀ E (.ref a) s1 := by
  have un1 := flown_un un ff i fl.1 up
  have hok1 := flown_hok hok (stk_free I un) i fl.1
  have I1 : Inv X pins σ H' s1 := I.call' os un1 hok1 bare (fun b z => absurd z (by simp))
  have bs := I1.base
  rw [hex] at bs
  refine ⟨a, cls, H', B, a0, rfl, I1.os, I1.bare, bs, I1.hok, fl, fun b o e hb c => ?_, hE⟩
  have nL : b ≠ X.env.locals := by
    rcases c with z | ⟨o0, z⟩
    · intro q
      rw [q, I1.free] at z
      cases z
    · exact Nat.ne_of_lt (Nat.lt_of_lt_of_le (Heap.lt_size z) I.ok.above)
  refine flown_in hok un i fl.1 b o e (fun hm => ?_) (c.imp id fun ⟨o0, z⟩ => I.base.there b o0 z (by rw [hex]; simp))
  rcases List.mem_cons.mp (I.stkSub b hm) with z | z
  · exact nL z
  · exact hb z
end

section
variable {P : Program} {w : World} {K : PySem.W.Frag} {mg : Str → Option Value} {base : Heap} {N : List Str} {qual : Str} {scope : Scope} {f : Addr} {cd : Value} {A : Around} {outer : List Env} {s : Shared} {H : Hp} {E : XK}
/-- an exception of a callee passes on -/
theorem passes1 : Passes (CX1 P w) (cxOf (CX1 P w) P w K mg base N qual scope f cd A outer s H E) E := by
  intro pins σ H1 s1 e s' I hc
  obtain ⟨a, cls, H', B, a0, rfl, os, bare, un, hok, fl, i, hE⟩ := hc
  refine wpAny_leaves_onW (base := B) I.ok.frames rfl fl fun h1 fl1 up => ?_
  exact leave_end (s1 := { s' with heap := h1 }) I rfl os bare un hok i fl.2.2.1 up fl1 hE
/-- what is raised here leaves -/
def Raises (X : Cx) (E : XK) : Prop := ∀ (pins : List (Addr × Obj)) (σ : St) (H : Hp) (s : Shared) (h' : Heap) (e : Addr) (cls : Value) (vs : List Value), Inv X pins σ H s → Heap.MadeExcOf s.heap h' e cls vs → E cls none H → X.xe (.ref e) { s with heap := h' }
theorem raises1 : Raises (cxOf (CX1 P w) P w K mg base N qual scope f cd A outer s H E) E := by
  intro pins σ H1 s1 h' e cls vs I hx hE
  have ff := PySem.W.funFrames_hide (as := frs (cxOf (CX1 P w) P w K mg base N qual scope f cd A outer s H E).stack) I.stack (fun env he b hb => List.mem_filterMap.mpr ⟨env, he, hb⟩)
  refine wpAny_leaves_madeW (base := PySem.W.hideAll s1.heap (frs (cxOf (CX1 P w) P w K mg base N qual scope f cd A outer s H E).stack)) (h := s1.heap) I.ok.frames rfl (fun b o q => PySem.W.of_hideAll _ q) ff hx fun h1 t fl tup nt up => ?_
  exact leave_end (s1 := { s1 with heap := h1 }) I rfl rfl I.bare Un.refl I.hok (fun b o q hb _ => PySem.W.hideAll_get _ q hb) ff ((Heap.UpToSlots.of_keeps hx.keeps).trans up) fl hE
end

/-! ### raise C(e) -/
section
variable {X : Cx} {x : Str} {C : Addr} {bm : List Value} {B newId initId : String} {np cpos pos : Pos} {e₀ : Expr} {t : TA} {E : XK}
theorem own_of {K : PySem.W.Frag} {h : Heap} {mg : Str → Option Value} {bmB : List Value} (X : K.In h) (hm : mg x = some (.ref C)) (q : PySem.W.excIn K C bmB newId = true) : OwnCls x C bmB newId mg h := by
  refine ⟨hm, ?_⟩
  unfold PySem.W.excIn at q
  split at q
  · rename_i dd cd sl ho
    split at q
    · rename_i C' bm k0 k1 k2 k3 n k5 hm' hs
      simp only [Bool.and_eq_true, beq_iff_eq, Bool.not_eq_true'] at q
      obtain ⟨⟨⟨⟨⟨rfl, rfl⟩, hdel⟩, ht⟩, hok⟩, hni⟩ := q
      obtain ⟨nm, bs, mro, ns, qn, hd, sn, sub, ab, col, del⟩ := cd
      dsimp only at hm' hdel hok hni
      subst hm' hdel
      have hsl : sl = #[k0, k1, k2, k3, some (.builtin n), k5] := by
        obtain ⟨l⟩ := sl
        simp only at hs
        rw [hs]
      subst hsl
      exact ⟨bm, ns, nm, qn, bs, hd, sn, sub, ab, col, dd, k0, k1, k2, k3, k5, _, X _ _ ho, .of_isNs (PySem.W.isNs_of_in X hok), PySem.W.nsMap_none_of_in X hok hni, PySem.W.tail_of_in X ht⟩
    · cases q
  · cases q
def tRaise (cls : Value) (E : XK) (t : TA) : TS := fun _ σ H => t σ H fun vs H1 => vs.length ≤ sizeLine ∧ E cls none H1
theorem ps_raise (hh : X.calm = true) (R : Raises X E) (hm : X.mg x = some (.ref C)) (qx : PySem.W.excIn X.K C bm newId = true) (FB : ExcBaseFacts B newId initId bm) (hg : Gl X x) (ha : PA X [e₀] t)
    (he : starEach [e₀] X.env = (false, eval e₀ X.env) :: starEach [] X.env := by rfl) (hpl : (backTo cpos (starEach [e₀] X.env)).any (·.1) = false := by rfl) (hd : (x == ("__debug__" : Str)) = false := by decide) :
    PS X (.Raise (some (.Call (.Name x np) [e₀] [] cpos)) none pos) (tRaise (.ref C) E t) := by
  intro pins s σ H D I h
  have O := own_of I.ok.mod.kin hm qx
  obtain ⟨tl, N, nm, q, bs, hdct, sn, sub, ab, col, dd, k0, k1, k2, k3, k5, mN, hC, hN, hni, T⟩ := O.obj
  refine wpAny_Raise_call_subT (C := C) (nm := nm) (q := q) (N := N) (bs := bs) (bm := tl) (hdct := hdct) (sn := sn) (sub := sub) (ab := ab) (col := col) (dd := dd) (k0 := k0) (k1 := k1) (k2 := k2) (k3 := k3) (k5 := k5)
    FB (mN := mN) (T.hasType FB.hasBase) (I.ok.hd hh) hpl hni (ld_glob I hg O.bound ⟨rfl, ?_⟩ hd)
  have ha' := ha cpos pins s σ H _ I h
  rw [he] at ha' ⊢
  refine Calls.evalArgs_plain (wpAny_mono ha' (fun us s₂ ⟨vs, H1, I1, r, z, q⟩ => ⟨rfl, by rw [← r.length]; exact z, I1.bk _ _ hC, hN.keeps I1.bk, T.keeps I1.bk, fun h' e hm => R pins σ H1 s₂ h' e _ _ I1 hm q⟩) fun _ _ y => y)
end
section
variable {P : Program} {w : World} {K : PySem.W.Frag} {mg : Str → Option Value} {base : Heap}
theorem Fun.okX {x qual : Str} {st : Stmt} {f : Addr} {fd : FuncData} {N ps : List Str} {k : Nat} {sp : Sp} (F : Fun K x qual st f fd) (S : FnScope N ps (defScope st)) (len : ∀ vs H Q E, sp vs H Q E → vs.length = ps.length)
    (hbody : ∀ (cdv : Value) (A : Around) (outer : List Env) (s : Shared) (H : Hp) (vs : List V) (Q : VK) (E : XK), Room k (A.deeper (envOfC qual (defScope st) s.heap.objs.size f cdv)) → sp vs H Q E →
      ∃ t, PSs (cxOf (CX1 P w) P w K mg base N qual (defScope st) f cdv A outer s H E) (defBody st) t ∧ t { nx := fun _ H' => Q .non H', rt := Q } (start N vs) H) : FnOk P w K mg base (CX1 P w) (k + 1) f fd ps sp := by
  obtain ⟨oc, od, kV, doc, pm, an, cdv, ct, osl, rfl, lk, hcd⟩ := F.ex
  refine fn_of lk hcd S len fun A outer s H vs Q E hr hsp => ?_
  obtain ⟨t, h, q⟩ := hbody cdv A outer s H vs Q E hr hsp
  exact ⟨t, h, q⟩


end
end L2
set_option Elab.async false
set_option linter.all false
set_option maxRecDepth 100000
namespace L2
open PySem PySem.Spec PySem.Calls PyProof.Rows PySem.W Builtin Builtin.ObjectAttr Builtin.Getset_descriptor

/-- what the class of an exception must have -/
structure ExcK (K : PySem.W.Frag) (C : Addr) : Prop where
  cl : (clsIn K C).isSome = true
  ga : findIn K (.ref C) "__getattribute__" = some (some (.builtin "BaseException.__getattribute__"))
  ha : findIn K (.ref C) "__getattr__" = some none
  ca : findIn K (.ref C) "__class__" = some (some (.builtin "object.__class__"))
  gt : specialIn K (.builtin "object.__class__") "__get__" = some (some (.builtin "getset_descriptor.__get__"))
  tk : takesIn K (.builtin "object.__class__") = some true
  mo : mroIn K C (.type "object") = some true
  mb : mroIn K C (.type "BaseException") = some true

section
variable {prog : Program} {w : World} {A : Around} {E : Value → Shared → Prop} {s : Shared} {K : PySem.W.Frag} {x C : Addr}
theorem exc_class_get {R : Result → Shared → Prop} {tp : Value} (X : K.In s.heap) (L0 : Looks (model prog w) s.heap (typeOf (.ref x)) (.ref C)) (hm : mroIn K C (.type "object") = some true)
    (h : R (.ok (.ret (.ref C))) s) : codeAny (model prog w) A (.call (.builtin "getset_descriptor.__get__") ⟨[.builtin "object.__class__", .ref x, tp], []⟩) R s := by
  obtain ⟨hh, g, dr, t, os⟩ := s
  have L1 := looks_mroIn (M := model prog w) X hm
  refine codeAny_call_builtin KF.slot_gs.plain KF.entry_gs (KF.slot_gs.check _ _ _ _ _ _ _ _ KF.type_class (KF.args_gs _ _ _) ?_)
  unfold Builtin.«getset_descriptor.__get__» descrGet
  rw [dga_obj]
  refine wpAny_bind (wpAny_pure ?_)
  unfold descrGetter descrCheckInstance descrNameAndClass isInstance
  simp only [KF.owner_class]
  repeat lk
  refine ⟨Code.quiet_builtin _ (by decide +kernel), codeAny_builtin KF.entry_class ?_⟩
  unfold Builtin.«object.__class__» shownTypeOf
  repeat lk
  exact h
theorem exc_find {M : Model} {h : Heap} (k : ExcK K C) (X : K.In h) : Looks M h (find (.ref x) (.ref C) "__class__") (.bind (.builtin "getset_descriptor.__get__") (.builtin "object.__class__")) := by
  refine (looks_findIn X k.ca).andThen ((show Looks M h (getOf (some (.builtin "object.__class__"))) _ from looks_specialIn X k.gt).andThen ?_)
  exact (show Looks M h (dataDescriptor? (some _) (some _)) (some (_, _)) from (looks_takesIn X k.tk).andThen .now).andThen (Looks.tag .now)
theorem exc_entry {tk : Tok} {Q : Fin → Shared → Prop} (k : ExcK K C) (X : K.In s.heap) (L0 : Looks (model prog w) s.heap (typeOf (.ref x)) (.ref C)) (hq : Q (.done (.ret (.ref C))) s) :
    wpAny (model prog w) A (Builtin.«object.__getattribute__» ⟨[.ref x, .str "__class__" tk], []⟩) Q E s := by
  obtain ⟨hh, g, dr, t, os⟩ := s
  have L1 := exc_find (M := model prog w) (x := x) k X
  unfold Builtin.«object.__getattribute__»
  refine wpAny_bind (wpAny_pure ?_)
  refine wpAny_bind (wpAny_pure ?_)
  refine wpAny_bind (L0.at ?_)
  refine wpAny_bind (L1.at ?_)
  show wpAny _ _ (holding [_] (call _ [_, .ref x, .ref C]) >>= ret) _ _ _
  exact wpAny_bind (wpAny_holding (wpAny_call (exc_class_get X L0 k.mo (wpAny_pure hq))))
theorem exc_class_attr {Q : Option Value → Shared → Prop} (k : ExcK K C) (X : K.In s.heap) (L0 : ∀ M, Looks M s.heap (typeOf (.ref x)) (.ref C)) (h : Q (some (.ref C)) { s with toks := s.toks + 1 }) :
    wpAny (model prog w) A (getAttr? (.ref x) "__class__") Q E s := by
  obtain ⟨hh, g, d, t, os⟩ := s
  have L0' := L0 (model prog w)
  have L1 := looks_findIn (M := model prog w) X k.ga
  have L2 := looks_findIn (M := model prog w) X k.ha
  have LB : Looks (model prog w) hh (isInstance (.ref x) (.type "BaseException")) true := L0'.andThen (looks_mroIn X k.mb)
  have hk : builtinKind "BaseException.__getattribute__" = some .slot := by decide +kernel
  have hsplit : splitId "BaseException.__getattribute__" = some ("BaseException", "__getattribute__") := by decide +kernel
  unfold getAttr? getAttrBy? getAttrBy
  refine wpAny_bind (wpAny_mkText (wpAny_bind (wpAny_attempt (wpAny_holding (wpAny_bind (L0'.at (wpAny_bind (L1.at ?_))))))))
  show wpAny _ _ (getAttrByItsOwn _ _ _ _ _ _) _ _ _
  unfold getAttrByItsOwn hookBefore
  refine wpAny_bind (L2.at ?_)
  refine wpAny_bind (wpAny_attempt (wpAny_holding ?_))
  show wpAny _ _ (boundAndCalled _ _ _) _ _ _
  unfold boundAndCalled
  refine wpAny_bind (wpAny_of_eq (PySem.F.attr_ValueError.ga.bind (.ref x)) ?_)
  refine wpAny_call (codeAny_call_builtin PySem.F.attr_ValueError.ga.plain PySem.F.entry_bexc_ga ?_)
  simp only [checkBuiltinCall, hk, hsplit]
  refine wpAny_bind (LB.at ?_)
  have ha := PySem.F.args_bexc_ga (.ref x) (.str "__class__" t)
  have key : ∀ {A' : Around} {E' : Value → Shared → Prop} {R : Unit → Shared → Prop}, R () ⟨hh, g, d, t + 1, os⟩ → wpAny (model prog w) A' (match Manifest.signature? "BaseException.__getattribute__" with
      | some sig => Bind.checkArgs "BaseException.__getattribute__" sig { pos := [Value.ref x] ++ [Value.str (Str.ofString "__class__") t] }
      | x => pure ()) R E' ⟨hh, g, d, t + 1, os⟩ := by
    intro A' E' R hR
    have ha' : (match Manifest.signature? "BaseException.__getattribute__" with
      | some sig => Bind.checkArgs "BaseException.__getattribute__" sig { pos := [Value.ref x] ++ [Value.str (Str.ofString "__class__") t] }
      | x => pure ()) = pure () := ha
    rw [ha']
    exact wpAny_pure hR
  rw [if_neg (by decide)]
  refine key ?_
  refine exc_entry (C := C) k X L0' ?_
  exact wpAny_pure (wpAny_pure h)
/-- an exception's object -/
def exo (a : Addr) (cls : Value) : HO := .ext fun h => ∃ o, h.get? a = some o ∧ o.cls = cls
theorem exo_ok {P : Program} {w : World} {H : Hp} {h : Heap} {a : Addr} {o : Obj} {cls : Value} (e : h.get? a = some o) (c : o.cls = cls) : ObjOk P w H h a (exo a cls) := ⟨⟨o, e, c⟩, ⟨o, e⟩, fun h1 h2 ⟨u, e1, c1⟩ kk => ⟨u, kk u e1, c1⟩⟩
theorem kitx_exc {a : Addr} (k : ExcK K C) : KitX K (.ref a) (.ref C) (fun h => ∃ o, h.get? a = some o ∧ o.cls = .ref C) where
  ty := fun M h _ ⟨o, h1, h2⟩ => h2 ▸ (Looks.ld h1).andThen .now
  it := fun _ _ X _ => by
    obtain ⟨cdD, hcD⟩ := Option.isSome_iff_exists.mp k.cl
    unfold clsIn at hcD
    split at hcD
    · rename_i c' d' cd' sl' ho
      intro A' Q' E' s' kk q
      unfold isType loadHead
      exact wpAny_bind (wpAny_loadPart (kk _ _ (X _ _ ho)) (wpAny_pure q))
    · cases hcD
  ne := fun h tp dd its n sl X htp => by
    obtain ⟨cdD, hcD⟩ := Option.isSome_iff_exists.mp k.cl
    refine Bool.eq_false_iff.mpr fun q => ?_
    have e : C = tp := Value.ref.inj (beq_iff_eq.mp q)
    subst e
    unfold clsIn at hcD
    split at hcD
    · rename_i c' d' cd' sl' ho
      have z := (X _ _ ho).symm.trans htp
      cases z
    · cases hcD
  ca := fun X ⟨o, h1, h2⟩ q => exc_class_attr k X (fun M => h2 ▸ (Looks.ld h1).andThen .now) q
end
/-! ### isinstance(e, C) of an exception; of a thing and an own class -/
section
variable {X : Cx}

def clsV : V → Option Value
  | .ref C => some (.ref C)
  | .ty T => some (.type T)
  | _ => none
theorem clsV_rel {c : V} {u v : Value} (r : RelV c u) (h : clsV c = some v) : u = v := by
  cases c with
  | ref C => cases h; exact r
  | ty T => cases h; exact r
  | _ => cases h
def rIsiE (K : PySem.W.Frag) : List V → Hp → VK → Prop := fun xs H Q => ∃ a C c cv b, xs = [.ref a, c] ∧ clsV c = some cv ∧ H a = some (exo a (.ref C)) ∧ ExcK K C ∧ PySem.W.kitOne K (.ref C) cv = some b ∧ Q (.bl b) H
theorem call_isiE : CallR X (.builtin "isinstance") (rIsiE X.K) := by
  intro pins s σ H xs us Q I r h
  obtain ⟨a, C, c, cv, b, rfl, hc, ha, k, e, q⟩ := h
  obtain ⟨u, w', rfl, ru, rw'⟩ := vals2 r
  cases (show u = Value.ref a from ru)
  cases clsV_rel rw' hc
  exact PySem.W.kia_one (kitx_exc k) I.kIn (I.hok a _ ha).1 e (fun z => nomatch z) fun tk => ⟨.bl b, H, I.tok tk, rfl, q⟩
def rIsiC (K : PySem.W.Frag) : List V → Hp → VK → Prop := fun xs H Q => ∃ x C t b, xs = [x, .ref C] ∧ TyOf K H x t ∧ PySem.W.kitOne K t (.ref C) = some b ∧ Q (.bl b) H

end
end L2
set_option Elab.async false
set_option linter.all false
set_option maxRecDepth 100000
namespace L2
open PySem PySem.Spec PyProof.Rows

/-! ### within an except suite -/
abbrev Cx.inX (X : Cx) (a : Addr) : Cx := { X with A := X.A.mark (some (.ref a)), calm := false }
section
variable {X : Cx} {pins : List (Addr × Obj)} {σ : St} {H : Hp} {s : Shared} {a : Addr}
theorem Cx.Ok.inX (ok : X.Ok) (a : Addr) : (X.inX a).Ok :=
  ⟨ok.mod, ok.kind, ok.glob, ok.blt, ok.above, ok.inj, ok.has, ok.cab, fun z => absurd z (by simp), ok.frames, ok.stk, ok.exf, ok.bs, ok.bsz, ok.noex, ok.exfs, ok.funs, ok.frf⟩
theorem Inv.inX (I : Inv X pins σ H s) (a : Addr) : Inv (X.inX a) pins σ H s := ⟨I.ok.inX a, I.os, I.bare, I.base, I.loc, I.cell, I.free, I.freeC, I.pin, I.hok, I.len⟩
theorem Inv.outX (ok : X.Ok) (I : Inv (X.inX a) pins σ H s) : Inv X pins σ H s := ⟨ok, I.os, I.bare, I.base, I.loc, I.cell, I.free, I.freeC, I.pin, I.hok, I.len⟩

/-- the name of an except clause goes -/
theorem goes_ok {M : Model} {A : Around} {E : Value → Shared → Prop} {i : Nat} {n : Str} {pos : Pos} {Q : Unit → Shared → Prop} (I : Inv X pins σ H s) (hN : X.N.Nodup) (hi : X.N[i]? = some n) (hl : X.env.scope.names.lookup n = some .local)
    (h : ∀ s', Inv X pins (σ.set i none) H s' → Q () s') : wpAny M A (do bindName X.env n .none; unbindBehindTheSuite X.env n pos) Q E s := by
  obtain ⟨m, hn, hl'⟩ := id I.loc
  have hcls : (X.env.scope.kind == .class || (X.env.scope.kind == .module && X.env.locals != X.env.globals)) = false := by rw [I.ok.kind]; rfl
  have hiσ : i < σ.length := by rw [I.len]; exact (List.getElem?_eq_some_iff.mp hi).1
  have cne := I.cne
  refine wpAny_nameGoes_keeps hl hn hcls fun h' v hn' hs => ?_
  obtain ⟨oL, _, _, hoL, _⟩ := id hn
  refine h _ ⟨I.ok, I.os, I.bare, ⟨fun b o e n hb hx => ?_, fun b o e n hb hx => ?_, I.base.free, fun b o e hx => ?_, I.base.tups, I.base.frzs, I.base.tbls⟩, ⟨_, hn', fun j y v' e1 e2 e3 => ?_⟩, fun y c e => ?_, I.free, I.freeC, fun p hp => ?_, fun b ob e => ?_, by simpa using I.len⟩
  · exact (hs.2 b (Nat.ne_of_lt (Nat.lt_of_lt_of_le (Heap.lt_size e) I.ok.above))).trans (I.base.keep b o e n hb hx)
  · obtain ⟨sl, e1⟩ := I.base.slot b o e n hb hx
    exact ⟨sl, (hs.2 b (Nat.ne_of_lt (Nat.lt_of_lt_of_le (Heap.lt_size e) I.ok.above))).trans e1⟩
  · obtain ⟨o', e1⟩ := I.base.there b o e hx
    exact ⟨o', (hs.2 b (Nat.ne_of_lt (Nat.lt_of_lt_of_le (Heap.lt_size e) I.ok.above))).trans e1⟩
  · by_cases hj : j = i
    · subst hj
      rw [List.getElem?_set_self hiσ] at e2
      cases e2
    · rw [List.getElem?_set_ne (Ne.symm hj)] at e2
      obtain ⟨u', r', q⟩ := hl' j y v' e1 e2 e3
      refine ⟨u', r', ?_⟩
      rcases q with ⟨k, e⟩ | ⟨k, c, e, z⟩
      · refine .inl ⟨k, ?_⟩
        have : y ≠ n := fun e => hj (nodup_ix hN e1 (e ▸ hi))
        simp [this, e]
      · exact .inr ⟨k, c, e, z.sameBut hs (cne y c e)⟩
  · obtain ⟨w', z⟩ := I.cell y c e
    exact ⟨w', z.sameBut hs (cne y c e)⟩
  · obtain ⟨e, n, ne, nf, d⟩ := I.pin p hp
    exact ⟨(hs.2 p.1 ne).trans e, n, ne, nf, d⟩
  · refine (I.hok b ob e).stay (fun c w' hc q => (hs.2 c ?_).trans q) (fun _ q => q) fun _ _ q => q
    rintro rfl
    rcases hc with z | hc
    · rw [← z, I.free] at e; cases e
    · rw [I.free] at hc; cases hc
end

/-! ### what may end by an exception -/
abbrev XS := St → Value → Hp → Prop
def XP (X : Cx) (pins : List (Addr × Obj)) (ES : XS) (e : Value) (s' : Shared) : Prop := ∃ σ H s, Inv X pins σ H s ∧ CX1 X.prog X.w X.stack H s (fun cls _ H' => ES σ cls H') e s'
def PEX (X : Cx) (e : Expr) (t : XS → TE) : Prop :=
  ∀ (ES : XS) (pins : List (Addr × Obj)) (s : Shared) (σ : St) (H : Hp) (Q : VK), Inv X pins σ H s → t ES σ H Q → wpAny (model X.prog X.w) X.A (eval e X.env) (EP X pins σ Q) (XP X pins ES) s
def PSX (X : Cx) (st : Stmt) (t : XS → TS) : Prop :=
  ∀ (ES : XS) (pins : List (Addr × Obj)) (s : Shared) (σ : St) (H : Hp) (D : Ends), Inv X pins σ H s → t ES D σ H → wpAny (model X.prog X.w) X.A (exec st X.env) (SP X pins D) (XP X pins ES) s
def PSsX (X : Cx) (st : List Stmt) (t : XS → TS) : Prop :=
  ∀ (ES : XS) (pins : List (Addr × Obj)) (s : Shared) (σ : St) (H : Hp) (D : Ends), Inv X pins σ H s → t ES D σ H → wpAny (model X.prog X.w) X.A (execs st X.env) (SP X pins D) (XP X pins ES) s
section
variable {X : Cx} {st : Stmt} {e c : Expr} {te : XS → TE} {t u : XS → TS} {pos : Pos} {a b : List Stmt} {tc : TT}



theorem pssx_one (h1 : PSX X st t) : PSsX X [st] t := by
  intro ES pins s σ H D I h
  refine wpAny_execs_cons (thn (h1 ES pins s σ H D I h) fun f s1 q => ?_)
  cases f with
  | next => exact wpAny_execs_nil q
  | ret v => exact q
  | brk => exact q
  | cont => exact q

end

section
variable {X : Cx} {k : Nat} {f C : Addr} {fd : FuncData} {ps : List Str} {sp : Sp} {dvs : List V} {ds : List Value} {ES : XS} {x m : Str} {p pos apos : Pos} {e o : Expr} {es : List Expr} {ta : TE} {t : TA}
theorem run_fnX {pins : List (Addr × Obj)} {σ : St} {H : Hp} {s : Shared} {Q : VK} {us : List Value} {vs : List V} (F : FnOk X.prog X.w X.K X.mg X.base (CX1 X.prog X.w) k f fd ps sp) (hr : Room k X.A) (hb : Binds X.K fd ps ds) (hd : Vals dvs ds)
    (I : Inv X pins σ H s) (r : Vals vs us) (h : sp (vs ++ dvs) H Q (fun cls _ H' => ES σ cls H')) : wpAny (model X.prog X.w) X.A (call (.ref f) us) (EP X pins σ Q) (XP X pins ES) s := by
  have r2 : Vals (vs ++ dvs) (us ++ ds) := r.append hd
  have hl : (us ++ ds).length = ps.length := by rw [← r2.length]; exact F.len _ _ _ _ h
  refine wpAny_call (codeAny_mono (F.run X.A X.stack s H ⟨us, []⟩ (us ++ ds) (vs ++ dvs) Q _ hr I.env0 (hb s us I.kIn hl) r2 h) fun r s' hq => ?_)
  cases r with
  | error e => exact ⟨σ, H, s, I, hq⟩
  | ok fl =>
    cases fl with
    | ret u => exact I.after hq
    | next => exact False.elim hq
    | brk => exact False.elim hq
    | cont => exact False.elim hq
def tCallX (sp : Sp) (dvs : List V) (t : TA) (ES : XS) : TE := fun σ H Q => t σ H fun vs H1 => sp (vs ++ dvs) H1 Q (fun cls _ H' => ES σ cls H')
def tMethX (C : Addr) (m : Str) (sp : Sp) (dvs : List V) (ta : TE) (t : TA) (ES : XS) : TE := fun σ H Q => ta σ H fun x H1 => ∃ a dx fs, x = .ref a ∧ H1 a = some (.ins C dx fs) ∧ fs.lookup m = none ∧
  t σ H1 fun vs H2 => sp (x :: (vs ++ dvs)) H2 Q (fun cls _ H' => ES σ cls H')
def tMakeX (C : Addr) (sp : Sp) (dvs : List V) (t : TA) (ES : XS) : TE := fun σ H Q => t σ H fun vs H1 => ∀ x dx, H1 x = none → H1 dx = none → dx ≠ x →
  sp (.ref x :: (vs ++ dvs)) (upd (upd H1 dx (.own x)) x (.ins C dx [])) (fun v H2 => v = .non ∧ Q (.ref x) H2) (fun cls _ H' => ES σ cls H')
theorem pex_call (F : FnOk X.prog X.w X.K X.mg X.base (CX1 X.prog X.w) k f fd ps sp) (hr : Room k X.A) (hg : Gl X x) (hm : X.mg x = some (.ref f)) (hk : PySem.W.keepIn X.K (.ref f) = true) (hb : Binds X.K fd ps ds) (hd : Vals dvs ds)
    (ha : PA X.nox (e :: es) t) (hdb : (x == ("__debug__" : Str)) = false := by decide) (he : starEach (e :: es) X.env = (false, eval e X.env) :: starEach es X.env := by rfl) (hpl : (backTo pos (starEach es X.env)).any (·.1) = false := by rfl) :
    PEX X (.Call (.Name x p) (e :: es) [] pos) (tCallX sp dvs t) := by
  intro ES pins s σ H Q I h
  refine wpAny_Call_Name_kw (ld_glob I hg hm ?_ hdb)
  refine PySem.W.callWith_K (h₀ := X.base) I.ok.mod.kin hk (wpAny_mono (ha pos pins s σ H _ (I.wish _) h) (fun us s1 ⟨vs, H1, I1, r, q⟩ => ⟨I1.kIn, ?_⟩) fun _ _ z => False.elim z) he hpl
  exact run_fnX F hr hb hd I1.unwish r q



end

/-! ### try .. except C as n -/
section
variable {X : Cx} {i : Nat} {x n : Str} {D C : Addr} {np hpos pos : Pos} {b₀ : Stmt} {suite body : List Stmt} {tb : XS → TS} {ts : TS}
/-- the ends behind an except suite: its name is gone -/
def Ends.gone (D : Ends) (i : Nat) : Ends := { nx := fun σ H => D.nx (σ.set i none) H, rt := D.rt, bk := fun σ H => D.bk (σ.set i none) H, ct := fun σ H => D.ct (σ.set i none) H }
def tTry (i : Nat) (C : Addr) (tb : XS → TS) (ts : TS) : TS := fun D σ H =>
  tb (fun σ' cls H' => cls = .ref C ∧ ∀ a, H' a = none → ts (D.gone i) (σ'.set i (some (.ref a))) (upd H' a (exo a (.ref C)))) D σ H
theorem caught_ok {pins : List (Addr × Obj)} {σ : St} {H : Hp} {s s' : Shared} {e : Value} {R : Ends} (hN : X.N.Nodup) (hi : X.N[i]? = some n) (hl : X.env.scope.names.lookup n = some .local) (hst : X.stack = X.env :: X.outer) (hfr : X.env.frame = some X.env.locals)
    (hg : Gl X x) (hm : X.mg x = some (.ref D)) (hx : PySem.W.exmOne X.K (.ref C) (.ref D) = some true) (hs : ∀ a, PSs (X.inX a).nox (b₀ :: suite) ts) (I : Inv X pins σ H s)
    (hc : CX1 X.prog X.w X.stack H s (fun cls _ H' => cls = .ref C ∧ ∀ a, H' a = none → ts (R.gone i) (σ.set i (some (.ref a))) (upd H' a (exo a (.ref C)))) e s') (hd : (x == ("__debug__" : Str)) = false := by decide) :
    wpAny (model X.prog X.w) X.A (noteFrame e X.env) (fun _ s₂ => wpAny (model X.prog X.w) X.A (setFlight e none) (fun _ s₃ =>
      wpAny (model X.prog X.w) X.A (handleBy e X.env [.ExceptHandler (some (.Name x np)) (some n) (b₀ :: suite) hpos]) (SP X pins R) X.xe s₃) X.xe s₂) X.xe s' := by
  obtain ⟨a, cls, H', B, a0, rfl, os, bare, un, hok, fl, i', rfl, hE⟩ := hc
  have fr := stk_free I un
  have ff := fl.2.2.1
  -- the three turns of the exception's own objects
  refine wpAny_looks_onW (base := B) (by rw [I.ok.frames, hst]) hfr (by rw [← hst]; exact fl) fun h₄ held up4 => ?_
  refine wpAny_landsW held fun h₅ fl5 up5 => ?_
  have up45 := up4.trans up5
  have un5 := flown_un un ff i' fl5.1 up45
  have hok5 := flown_hok hok fr i' fl5.1
  have in5 := flown_in hok un i' fl5.1
  have I5 : Inv X pins σ H' { s' with heap := h₅ } := I.call' (s' := { s' with heap := h₅ }) os un5 hok5 bare (fun b z => absurd z (by simp))
  have J5 := I5.inX a
  obtain ⟨oe, he5, hce⟩ := fl5.there
  refine wpAny_handleBy_cons (codeAny_handlers_test (ld_glob (X := X.inX a) J5 hg hm ?_ hd)) (by intro q; cases q)
  refine (PySem.W.exm_one (K := X.K) J5.kIn (by subst_eqs; exact hce ▸ (PySem.W.Looks.ld he5).andThen .now) hx).at ?_
  refine codeAny_handlers_suite_as ?_
  refine lands_againW (base := B) (by exact fl5) fun h₆ fl6 up6 => ?_
  have ff5 := fl5.2.2.1
  rw [← hst] at ff5 fl6
  have un6 := flown_un un5 ff5 in5 fl6.1 up6
  have hok6 := flown_hok hok5 fr in5 fl6.1
  have in6 := flown_in hok5 un5 in5 fl6.1
  have I6 : Inv X pins σ H' { s' with heap := h₆ } := I.call' (s' := { s' with heap := h₆ }) os un6 hok6 bare (fun b z => absurd z (by simp))
  obtain ⟨ox, vs, hx6, hcx, hdx, _⟩ := fl6.first
  have nfr : a ∉ frs X.stack := fun hm => by
    obtain ⟨_, o, ho, d⟩ := fl6.2.2.1.mem hm
    have ho : h₆.get? a = some o := ho
    rw [hx6] at ho; cases ho
    exact d _ hdx
  have nB : B.get? a = none := fl6.2.1
  have nH : H' a = none := by
    cases q : H' a with
    | none => rfl
    | some u =>
      have z := in6 a ox hx6 nfr (.inl (by rw [q]; rfl))
      rw [nB] at z; cases z
  have nS : s.heap.get? a = none := by
    cases q : s.heap.get? a with
    | none => rfl
    | some u =>
      have z := in6 a ox hx6 nfr (.inr ⟨u, q⟩)
      rw [nB] at z; cases z
  have ntr : ∀ c, H' c ≠ none → c ≠ a := fun c z q => z (q ▸ nH)
  have un7 : Un (frs X.stack) [] H (upd H' a (exo a (.ref C))) s.heap h₆ :=
    ⟨un6.keep, un6.slot, fun b o q m z => by
      rw [upd_ne (fun y => by rw [y, nS] at q; cases q)]
      exact un6.free b o q m z, un6.there, fun b xs q => by
      have := un6.tups b xs q
      rw [upd_ne (ntr b (by rw [this]; simp))]
      exact this, fun b o u q => by
      have := un6.frzs b o u q
      rw [upd_ne (ntr b (by rw [this]; simp))]
      exact this, fun b p q => by
      obtain ⟨more, this⟩ := un6.tbls b p q
      exact ⟨more, by rw [upd_ne (ntr b (by rw [this]; simp))]; exact this⟩⟩
  have hok7 : HOk X.prog X.w (upd H' a (exo a (.ref C))) h₆ := fun b u q => by
    by_cases hb : b = a
    · subst hb
      rw [upd_same] at q; cases q
      exact exo_ok hx6 hcx
    · rw [upd_ne hb] at q
      exact (hok6 b u q).stay (fun _ _ _ z => z) (fun c z => by rw [upd_ne (ntr c (by rw [z]; simp))]; exact z) fun c xs z => by rw [upd_ne (ntr c (by rw [z]; simp))]; exact z
  have I7 : Inv X pins σ (upd H' a (exo a (.ref C))) { s' with heap := h₆ } := I.call' (s' := { s' with heap := h₆ }) os un7 hok7 bare (fun b z => absurd z (by simp))
  refine store_ok (X := X.inX a) (v := .ref a) (I7.inX a) hN hi (.inl hl) rfl (fun s8 I8 => ?_) (.inr hl)
  refine wpAny_mono (hs a pins s8 _ _ _ (I8.wish _) (hE a nH)) (fun f s9 q => ?_) fun _ _ z => False.elim z
  have q := q.unwish
  show wpAny _ _ _ _ _ _
  cases f with
  | next =>
    obtain ⟨σ', H9, I9, q⟩ := q
    exact goes_ok (X := X) (I9.outX I.ok) hN hi hl fun s10 I10 => ⟨_, _, I10, q⟩
  | brk =>
    obtain ⟨σ', H9, I9, q⟩ := q
    exact goes_ok (X := X) (I9.outX I.ok) hN hi hl fun s10 I10 => ⟨_, _, I10, q⟩
  | cont =>
    obtain ⟨σ', H9, I9, q⟩ := q
    exact goes_ok (X := X) (I9.outX I.ok) hN hi hl fun s10 I10 => ⟨_, _, I10, q⟩
  | ret u =>
    obtain ⟨v, σ', H9, I9, r, q⟩ := q
    exact goes_ok (X := X) (I9.outX I.ok) hN hi hl fun s10 I10 => ⟨v, _, _, I10, r, q⟩
theorem ps_try (hN : X.N.Nodup) (hi : X.N[i]? = some n) (hl : X.env.scope.names.lookup n = some .local) (hst : X.stack = X.env :: X.outer) (hfr : X.env.frame = some X.env.locals)
    (hg : Gl X x) (hm : X.mg x = some (.ref D)) (hx : PySem.W.exmOne X.K (.ref C) (.ref D) = some true) (hb : PSsX X body tb) (hs : ∀ a, PSs (X.inX a).nox (b₀ :: suite) ts) (hd : (x == ("__debug__" : Str)) = false := by decide) :
    PS X (.Try body [.ExceptHandler (some (.Name x np)) (some n) (b₀ :: suite) hpos] [] [] pos) (tTry i C tb ts) := by
  intro pins s σ H R I h
  refine wpAny_Try_except (wpAny_mono (hb _ pins s σ H R I h) (fun f s1 q => ?_) fun e s1 ⟨σ', H', s0, I0, hc⟩ => caught_ok hN hi hl hst hfr hg hm hx hs I0 hc hd)
  cases f with
  | next => exact wpAny_execs_nil q
  | ret v => exact q
  | brk => exact q
  | cont => exact q
end
end L2
set_option Elab.async false
set_option linter.all false
set_option maxRecDepth 100000
/-! Exceptions within loops: the wish that tells how an exception lies. -/
namespace L2
open PySem PySem.Spec PyProof.Rows
/-- an exception that stands at the frame L -/
def CXH (P : Program) (w : World) (L : Addr) : CXT := fun l H s E e s' =>
  ∃ a cls H' B a0, e = Value.ref a ∧ s'.os = s.os ∧ AllBare s'.gens ∧ Un (frs l) [] H H' s.heap s'.heap ∧ HOk P w H' s'.heap ∧ Heap.HeldW B l a cls a0 L s'.heap ∧ InB B l H' s.heap s'.heap ∧ E cls none H'
/-- it comes from a callee, or stands at the own frame, or is just made -/
def XQ (X : Cx) (E : XK) : Value → Shared → Prop := fun e s' => ∃ pins σ H s, Inv X pins σ H s ∧
  (CX1 X.prog X.w X.stack H s E e s' ∨ CXH X.prog X.w X.env.locals X.stack H s E e s' ∨ ∃ h' a cls vs, e = Value.ref a ∧ s' = { s with heap := h' } ∧ Heap.MadeExcOf s.heap h' a cls vs ∧ E cls none H)

section
variable {M : Model} {A : Around} {E : Value → Shared → Prop} {s : Shared}
/-- the flight of what stands at a frame is told anew -/
theorem flight_same {B : Heap} {l : List Env} {e L : Addr} {cls a0 : Value} {Q : Unit → Shared → Prop} (hh : Heap.HeldW B l e cls a0 L s.heap)
    (hQ : ∀ h', Heap.HeldW B l e cls a0 L h' → s.heap.UpToSlots h' → Q () { s with heap := h' }) : wpAny M A (setFlight (.ref e) (some L)) Q E s := by
  obtain ⟨st, ne, ff, oe, vs, T, oT, ts, he, hc, hd, h1, nT, Te, hT, dT, h3⟩ := hh
  have z3 : 3 < ts.size := (Array.getElem?_eq_some_iff.mp h3).1
  have oth : ∀ b o, s.heap.get? b = some o → b ≠ T → (s.heap.update T (Obj.mapFields (·.setIfInBounds 3 (rawInt L)))).get? b = some o := fun b o q n => by
    rw [Heap.get?_update_other _ _ n.symm]
    exact q
  have nrec : ∀ b o, s.heap.get? b = some o → (∀ us, o.data ≠ .fields us) → b ≠ T := fun b o q n y => by
    subst y
    rw [hT] at q
    cases q
    exact n ts dT
  unfold setFlight
  refine wpAny_bind (wpAny_field he hd h1 ?_)
  rw [if_pos (by simp)]
  refine wpAny_setField hT dT z3 (hQ _ ⟨fun b o q => ?_, ne, ?_, ?_⟩ ?_)
  · exact oth b o (st b o q) fun y => by
      rw [y, nT] at q
      cases q
  · exact ff.of_keeps fun b o q n => ⟨o, oth b o q (nrec b o q n), rfl⟩
  · refine ⟨oe, vs, T, _, _, oth e oe he Te.symm, hc, hd, h1, nT, Te, Heap.get?_update_self _ hT (Obj.isFreed_of_fields (Obj.data_mapFields dT _)), Obj.data_mapFields dT _, ?_⟩
    simp [z3]
  · exact fun b o q n => ⟨o.slots, oth b o q (nrec b o q n)⟩
/-- and it comes back from the loop's own turn -/
theorem back_held {B : Heap} {env : Env} {l : List Env} {e L : Addr} {cls a0 : Value} (hf : env.frame = some L) (hh : Heap.HeldW B l e cls a0 L s.heap)
    (hQ : ∀ h', Heap.HeldW B l e cls a0 L h' → s.heap.UpToSlots h' → E (.ref e) { s with heap := h' }) : cameBackBy M A env E (.ref e) s := by
  unfold cameBackBy
  have hh2 := hh
  obtain ⟨st, ne, ff, oe, vs, T, oT, ts, he, hc, hd, h1, nT, Te, hT, dT, h3⟩ := hh
  refine wpAny_bind (wpAny_field he hd h1 ?_)
  rw [if_neg (by simp), hf]
  exact flight_same hh2 fun h' q up => hQ h' q up
end

section
variable {X : Cx} {E : XK}
theorem cxh_up {pins : List (Addr × Obj)} {σ : St} {H H' : Hp} {s s' : Shared} {B h1 : Heap} {a L : Addr} {cls a0 : Value} (I : Inv X pins σ H s) (os : s'.os = s.os) (bare : AllBare s'.gens) (un : Un (frs X.stack) [] H H' s.heap s'.heap) (hok : HOk X.prog X.w H' s'.heap)
    (ff : s'.heap.FunFrames B X.stack) (i : InB B X.stack H' s.heap s'.heap) (hE : E cls none H') (hd : Heap.HeldW B X.stack a cls a0 L h1) (up : s'.heap.UpToSlots h1) : CXH X.prog X.w L X.stack H s E (.ref a) { s' with heap := h1 } :=
  ⟨a, cls, H', B, a0, rfl, os, bare, flown_un un ff i hd.1 up, flown_hok hok (stk_free I un) i hd.1, hd, flown_in hok un i hd.1, hE⟩
/-- what is raised in a turn is noted there, and comes back -/
theorem passQ (hst : X.stack = X.env :: X.outer) (hfr : X.env.frame = some X.env.locals) : PassesOwn (model X.prog X.w) X.A X.env (XQ X E) := by
  intro e s' h
  obtain ⟨pins, σ, H, s, I, c⟩ := h
  have back : ∀ s2, CXH X.prog X.w X.env.locals X.stack H s E e s2 → cameBackBy (model X.prog X.w) X.A X.env (XQ X E) e s2 := fun s2 hc => by
    obtain ⟨a, cls, H', B, a0, rfl, os, bare, un, hok, hd, i, hE⟩ := hc
    exact back_held hfr hd fun h' q up => ⟨pins, σ, H, s, I, .inr (.inl (cxh_up I os bare un hok hd.2.2.1 i hE q up))⟩
  unfold notedBy
  have fin : wpAny (model X.prog X.w) X.A (noteFrame e X.env) (fun _ s2 => CXH X.prog X.w X.env.locals X.stack H s E e s2) (cameBackBy (model X.prog X.w) X.A X.env (XQ X E)) s' := by
    rcases c with c | c | ⟨h', a, cls, vs, rfl, rfl, hx, hE⟩
    · obtain ⟨a, cls, H', B, a0, rfl, os, bare, un, hok, fl, i, hE⟩ := c
      refine wpAny_looks_onW (base := B) (by rw [I.ok.frames, hst]) hfr (by rw [← hst]; exact fl) fun h4 hd up => ?_
      rw [← hst] at hd
      exact cxh_up I os bare un hok fl.2.2.1 i hE hd up
    · obtain ⟨a, cls, H', B, a0, rfl, os, bare, un, hok, hd, i, hE⟩ := c
      exact wpAny_noteFrame_againW hfr hd.2.2.2 ⟨a, cls, H', B, a0, rfl, os, bare, un, hok, hd, i, hE⟩
    · have ff := PySem.W.funFrames_hide (as := frs X.stack) I.stack (fun env he b hb => List.mem_filterMap.mpr ⟨env, he, hb⟩)
      have hk : (PySem.W.hideAll s.heap (frs X.stack)).StaysIn s.heap := fun b o q => PySem.W.of_hideAll _ q
      obtain ⟨t, he, htn, ht⟩ := hx.there
      have frs0 : ∀ b, s.heap.get? b = none → (PySem.W.hideAll s.heap (frs X.stack)).get? b = none := fun b hb => by
        cases hq : (PySem.W.hideAll s.heap (frs X.stack)).get? b with
        | none => rfl
        | some o' =>
          have := hk b o' hq
          rw [hb] at this
          cases this
      have ff1 : Heap.FunFrames h' (PySem.W.hideAll s.heap (frs X.stack)) X.stack := ff.of_keeps fun b o hb _ => ⟨o, hx.keeps b o hb, rfl⟩
      unfold noteFrame
      simp only [hfr]
      refine wpAny_bind (wpAny_field he rfl rfl ?_)
      rw [if_neg (by simp)]
      refine wpAny_entryW (base := PySem.W.hideAll s.heap (frs X.stack)) (outer := X.outer) (a0 := .ref t) (by rw [I.ok.frames, hst]) (by rw [← hst]; exact ff1) hfr he (fun b o q => hx.keeps b o (hk b o q)) (frs0 a hx.new) rfl (by simp) rfl fun h4 nt => ?_
      rw [← hst] at nt
      obtain ⟨k1, k2, k3, k4⟩ := nt
      have un : Un (frs X.stack) [] H H s.heap h' := Un.kept hx.keeps
      have hok : HOk X.prog X.w H h' := I.hok.kept hx.keeps
      have i : InB (PySem.W.hideAll s.heap (frs X.stack)) X.stack H s.heap h' := fun b o q hb c => by
        rcases c with c | ⟨o0, z⟩
        · obtain ⟨u, hu⟩ := Option.isSome_iff_exists.mp c
          obtain ⟨o1, z⟩ := (I.hok b u hu).here
          have := hx.keeps b o1 z
          rw [q] at this
          cases this
          exact PySem.W.hideAll_get _ z hb
        · have := hx.keeps b o0 z
          rw [q] at this
          cases this
          exact PySem.W.hideAll_get _ z hb
      exact cxh_up (s' := { s with heap := h' }) I rfl I.bare un hok ff1 i hE ⟨k1, frs0 a hx.new, k2, k3⟩ k4
  exact wpAny_mono fin (fun _ s2 q => back s2 q) fun _ _ z => z
end

section
variable {P : Program} {w : World} {K : PySem.W.Frag} {mg : Str → Option Value} {base : Heap}
/-- the context of a def whose loops may raise -/
abbrev cxQ (P : Program) (w : World) (K : PySem.W.Frag) (mg : Str → Option Value) (base : Heap) (N : List Str) (qual : Str) (scope : Scope) (f : Addr) (cd : Value) (A : Around) (outer : List Env) (s : Shared) (H : Hp) (E : XK) : Cx :=
  (cxOf (CX1 P w) P w K mg base N qual scope f cd A outer s H E).wish (XQ (cxOf (CX1 P w) P w K mg base N qual scope f cd A outer s H E) E)
section
variable {N : List Str} {qual : Str} {scope : Scope} {f : Addr} {cd : Value} {A : Around} {outer : List Env} {s : Shared} {H : Hp} {E : XK}
theorem ownQ : PassesOwn (model P w) (cxQ P w K mg base N qual scope f cd A outer s H E).A (cxQ P w K mg base N qual scope f cd A outer s H E).env (cxQ P w K mg base N qual scope f cd A outer s H E).xe := passQ (X := cxOf (CX1 P w) P w K mg base N qual scope f cd A outer s H E) rfl rfl
theorem passesQ : Passes (CX1 P w) (cxQ P w K mg base N qual scope f cd A outer s H E) E := fun pins σ H1 s1 e s' I hc => ⟨pins, σ, H1, s1, I.unwish, .inl hc⟩
theorem raisesQ : Raises (cxQ P w K mg base N qual scope f cd A outer s H E) E := fun pins σ H1 s1 h' e cls vs I hx hE => ⟨pins, σ, H1, s1, I.unwish, .inr (.inr ⟨h', e, cls, vs, rfl, rfl, hx, hE⟩)⟩
theorem leaveQ {e : Value} {s' : Shared} (h : XQ (cxOf (CX1 P w) P w K mg base N qual scope f cd A outer s H E) E e s') : (cxOf (CX1 P w) P w K mg base N qual scope f cd A outer s H E).xe e s' := by
  obtain ⟨pins, σ, H1, s1, I, c⟩ := h
  rcases c with c | c | ⟨h', a, cls, vs, rfl, rfl, hx, hE⟩
  · exact passes1 pins σ H1 s1 e s' I c
  · obtain ⟨a, cls, H', B, a0, rfl, os, bare, un, hok, hd, i, hE⟩ := c
    show wpAny _ _ (leaving _ _) _ _ _
    unfold leaving
    refine wpAny_bind (wpAny_noteFrame_againW rfl hd.2.2.2 (wpAny_landsW hd fun h1 fl up => ?_))
    have ff := hd.2.2.1
    obtain ⟨k1, k2, ⟨_, _, k3⟩, k4⟩ := fl
    exact leave_end (s1 := { s' with heap := h1 }) I rfl os bare un hok i ff up ⟨k1, k2, k3, k4⟩ hE
  · exact raises1 pins σ H1 s1 h' a cls vs I hx hE
end
theorem Fun.okQ {x qual : Str} {st : Stmt} {f : Addr} {fd : FuncData} {N ps : List Str} {k : Nat} {sp : Sp} (F : Fun K x qual st f fd) (S : FnScope N ps (defScope st)) (len : ∀ vs H Q E, sp vs H Q E → vs.length = ps.length)
    (hbody : ∀ (cdv : Value) (A : Around) (outer : List Env) (s : Shared) (H : Hp) (vs : List V) (Q : VK) (E : XK), Room k (A.deeper (envOfC qual (defScope st) s.heap.objs.size f cdv)) → sp vs H Q E →
      PassesOwn (model P w) (cxQ P w K mg base N qual (defScope st) f cdv A outer s H E).A (cxQ P w K mg base N qual (defScope st) f cdv A outer s H E).env (cxQ P w K mg base N qual (defScope st) f cdv A outer s H E).xe →
      Passes (CX1 P w) (cxQ P w K mg base N qual (defScope st) f cdv A outer s H E) E → Raises (cxQ P w K mg base N qual (defScope st) f cdv A outer s H E) E →
      ∃ t, PSs (cxQ P w K mg base N qual (defScope st) f cdv A outer s H E) (defBody st) t ∧ t { nx := fun _ H' => Q .non H', rt := Q } (start N vs) H) : FnOk P w K mg base (CX1 P w) (k + 1) f fd ps sp :=
  F.okX S len fun cdv A outer s H vs Q E hr hsp => by
    obtain ⟨t, h, q⟩ := hbody cdv A outer s H vs Q E hr hsp ownQ passesQ raisesQ
    exact ⟨t, fun pins s1 σ H1 D I hw => wpAny_mono (h pins s1 σ H1 D (I.wish _) hw) (fun _ _ q => q.unwish) fun _ _ z => leaveQ z, q⟩
end
end L2
set_option Elab.async false
set_option linter.all false
set_option maxRecDepth 100000
/-! isinstance of an exception and several classes; a call of a function that a name holds; is of truths. -/
namespace L2
open PySem PySem.Spec PyProof.Rows
section
variable {X : Cx}
theorem cls_vals : ∀ {cs : List V} {cvs us : List Value}, Vals cs us → cs.map clsV = cvs.map some → us = cvs
  | _, [], _, .nil, _ => rfl
  | _, _ :: _, _, .nil, h => by cases h
  | _, [], _, .cons _ _, h => by cases h
  | _, c :: cvs, _, .cons r rs, h => by
    obtain ⟨h1, h2⟩ := List.cons.inj h
    rw [clsV_rel r h1, cls_vals rs h2]
def rIsiT (K : PySem.W.Frag) : List V → Hp → VK → Prop := fun xs H Q => ∃ (a tp C : Addr) (cs : List V) (cvs : List Value) (b : Bool), xs = [.ref a, .ref tp] ∧ H tp = some (.tup cs) ∧ cs.map clsV = cvs.map some ∧ H a = some (exo a (.ref C)) ∧ ExcK K C ∧ PySem.W.kitAny K (.ref C) cvs = some b ∧ Q (.bl b) H
theorem call_isiT : CallR X (.builtin "isinstance") (rIsiT X.K) := by
  intro pins s σ H xs us Q I r h
  obtain ⟨a, tp, C, cs, cvs, b, rfl, ht, hc, ha, k, e, q⟩ := h
  obtain ⟨u, w', rfl, ru, rw'⟩ := vals2 r
  cases (show u = Value.ref a from ru)
  cases (show w' = Value.ref tp from rw')
  obtain ⟨its, rv, ⟨o, ho, hcl, n, hd⟩, _⟩ := I.tuple (.of ht)
  cases cls_vals rv hc
  obtain ⟨oc, od, dt, sl⟩ := o
  cases (show oc = _ from hcl)
  cases (show dt = _ from hd)
  exact PySem.W.kia_tup (kitx_exc k) I.kIn (I.hok a _ ha).1 ho e (fun z => nomatch z) fun tk => ⟨.bl b, H, I.tok tk, rfl, q⟩

end
section
variable {X : Cx} {k : Nat} {ps : List Str} {x : Str} {p pos : Pos} {e : Expr} {es : List Expr} {tn : TE} {t : TA}
/-- f(e), f what a name holds -/
def tCallV (P : Program) (w : World) (K : PySem.W.Frag) (mg : Str → Option Value) (base : Heap) (k : Nat) (ps : List Str) (tn : TE) (t : TA) (ES : XS) : TE := fun σ H Q => tn σ H fun x H1 => ∃ f fd sp, x = .ref f ∧ FnOk P w K mg base (CX1 P w) k f fd ps sp ∧ PySem.W.keepIn K (.ref f) = true ∧ Binds K fd ps [] ∧ t σ H1 fun vs H2 => sp vs H2 Q (fun cls _ H' => ES σ cls H')

end
end L2
set_option Elab.async false
set_option linter.all false
set_option maxRecDepth 100000
/-! Slices of texts. -/
namespace L2
open PySem PySem.Spec PyProof.Rows
section
variable {X : Cx}
def rSlS : V → Option Int → Option Int → Hp → VK → Prop := fun x lo hi H Q => ∃ z, x = .str z ∧ z.length ≤ sizeLine ∧ Q (.str (Txt.slice z lo hi)) H
theorem sl_str : SlR X rSlS := by
  intro pins s σ H x v vl vu lo hi sl Q I rx hs pl pu h
  obtain ⟨z, rfl, hz, q⟩ := h
  obtain ⟨t, rfl⟩ := rx
  refine ⟨"str", _, PySem.F.slot_str_getitem.lookup, typeIs_str _ _ _, ?_⟩
  have fin : ∀ lo hi, Q (.str (Txt.slice z lo hi)) H → (Txt.slice z lo hi).length ≤ sizeLine ∧ ∀ t' k, EP X pins σ Q (.str (Txt.slice z lo hi) t') { s with toks := k } := fun lo hi q =>
    ⟨Nat.le_trans (Txt.slice_le z _ _) hz, fun t' k => ⟨.str _, H, I.kept (h' := s.heap) (t' := k) fun _ _ e => e, ⟨t', rfl⟩, q⟩⟩
  cases pl with
  | none =>
    cases pu with
    | none => exact wpAny_getItem_str_slice (l := none) (u := none) (st := none) hs rfl (post_val_or_str (fin _ _ q))
    | int j u => exact wpAny_getItem_str_slice (l := none) (u := some (j, u)) (st := none) hs rfl (post_val_or_str (fin _ _ q))
  | int i u =>
    cases pu with
    | none => exact wpAny_getItem_str_slice (l := some (i, u)) (u := none) (st := none) hs rfl (post_val_or_str (fin _ _ q))
    | int j u' => exact wpAny_getItem_str_slice (l := some (i, u)) (u := some (j, u')) (st := none) hs rfl (post_val_or_str (fin _ _ q))


end
end L2
set_option Elab.async false
set_option linter.all false
set_option maxRecDepth 100000
/-! Texts joined and parted. -/
namespace L2
open PySem PySem.Spec PyProof.Rows PySem.Builtin PySem.Builtin.Str
theorem strs_are : ∀ {ss : List Str} {us : List Value}, Vals (ss.map V.str) us → StrsAre us ss
  | [], _, .nil => .nil
  | x :: ss, _, .cons r rs => by
    obtain ⟨t, rfl⟩ := r
    exact .cons x t (strs_are rs)
theorem vals_strs : ∀ (l : List (Str × Tok)), Vals ((l.map (·.1)).map V.str) (strValues l)
  | [] => .nil
  | (x, t) :: l => .cons ⟨t, rfl⟩ (vals_strs l)
section
variable {X : Cx}
def rJoin (K : PySem.W.Frag) : V → List V → Hp → VK → Prop := fun x vs H Q => ∃ (sep : Str) (p : Addr) (ss : List Str), x = .str sep ∧ vs = [.ref p] ∧ SqL K H p (ss.map V.str) ∧ (ss.map (·.length)).sum + ss.length * sep.length ≤ 16777216 ∧ Q (.str (Txt.join sep ss)) H
theorem mt_join : MtM X "str.join" (rJoin X.K) := by
  intro pins s σ H x vs v us Q I rx rv h
  obtain ⟨sep, p, ss, rfl, rfl, hp, hz, q⟩ := h
  obtain ⟨t, rfl⟩ := rx
  obtain ⟨u, rfl, ru⟩ := rv.one
  cases (show u = Value.ref p from ru)
  obtain ⟨its, r, ht, _⟩ := I.list hp
  exact join_list ht.isList (strs_are r) hz fun t' k => ⟨.str _, H, I.tok k, ⟨t', rfl⟩, q⟩
def rSplit : V → List V → Hp → VK → Prop := fun x vs H Q => ∃ (z y : Str), x = .str z ∧ vs = [.str y] ∧ z.length ≤ 1000 ∧ (y.length == 0) = false ∧ (partsBetween z (occurrences z y 0 z.length (z.length + 1)) y.length).length ≤ 1000 ∧ ∀ l, H l = none → Q (.ref l) (upd H l (.lst ((Txt.split z y).map V.str)))


end
end L2
set_option Elab.async false
set_option linter.all false
set_option maxRecDepth 100000
/-! Texts parted at one sign, however long; a tuple joined; three things compared; a store within a try. -/
namespace L2
open PySem PySem.Spec PyProof.Rows PySem.Builtin PySem.Builtin.Str
section
variable {X : Cx}
def rJoinT (K : PySem.W.Frag) : V → List V → Hp → VK → Prop := fun x vs H Q => ∃ (sep : Str) (p : Addr) (ss : List Str), x = .str sep ∧ vs = [.ref p] ∧ SqT K H p (ss.map V.str) ∧ (ss.map (·.length)).sum + ss.length * sep.length ≤ 16777216 ∧ Q (.str (Txt.join sep ss)) H
theorem mt_joinT : MtM X "str.join" (rJoinT X.K) := by
  intro pins s σ H x vs v us Q I rx rv h
  obtain ⟨sep, p, ss, rfl, rfl, hp, hz, q⟩ := h
  obtain ⟨t, rfl⟩ := rx
  obtain ⟨u, rfl, ru⟩ := rv.one
  cases (show u = Value.ref p from ru)
  obtain ⟨its, r, ht, _⟩ := I.tuple hp
  exact join_tuple ht (strs_are r) hz fun t' k => ⟨.str _, H, I.tok k, ⟨t', rfl⟩, q⟩
def rSplitB : V → List V → Hp → VK → Prop := fun x vs H Q => ∃ (z y : Str) (c : Nat), x = .str z ∧ vs = [.str y] ∧ y = ⟨#[c]⟩ ∧ z.length ≤ 50000 ∧ ∀ l, H l = none → Q (.ref l) (upd H l (.lst ((Txt.split z y).map V.str)))
theorem mt_splitB : MtM X "str.split" rSplitB := by
  intro pins s σ H x vs v us Q I rx rv h
  obtain ⟨z, y, c, rfl, rfl, ey, hz, q⟩ := h
  obtain ⟨t, rfl⟩ := rx
  obtain ⟨u, rfl, t2, rfl⟩ := rv.one
  have sz := sizeLine_eq
  have hy : (y.length == 0) = false := by rw [ey]; rfl
  have hn : (partsBetween z (occurrences z y 0 z.length (z.length + 1)) y.length).length ≤ 60000 := by
    rw [length_partsBetween]
    have := StrLaws.occ_length_le z y 0 z.length (z.length + 1)
    omega
  have sl := PyProof.Rows.split_le z y
  have fin : ∀ (l : List (Str × Tok)) (k : Nat), l.map (·.1) = Txt.split z y → EP X pins σ Q (.ref s.heap.objs.size) { s with toks := k, heap := s.heap.push { cls := .type "list", data := .seq (strValues l).toArray } } := fun l k e => by
    have vl := vals_strs l
    rw [e] at vl
    refine ⟨.ref s.heap.objs.size, _, I.laid (t' := k) (o := .lst ((Txt.split z y).map V.str)) (fun b ob q => Heap.get?_push_of_some _ q) (Nat.le_refl _) ?_, rfl, q _ (I.hok.fresh (Nat.le_refl _))⟩
    refine ⟨?_, _, 0, vl, Heap.get?_push_size _ rfl⟩
    rw [List.length_map]
    omega
  cases hA : (decide (z.length < y.length) || decide (strKind z < strKind y)) with
  | true =>
    refine call_meets PySem.F.slot_str_split (typeIs_str _ _ _) PySem.F.entry_str_split (PySem.F.args_str_split_2 _ _) (meets_str_split_cannot_occur z y t t2 hA) ?_
    exact fin [(z, t)] _ (by unfold Txt.split; rw [if_pos hA]; rfl)
  | false =>
    cases hB : (occurrences z y 0 z.length (z.length + 1)).isEmpty with
    | true =>
      refine call_meets PySem.F.slot_str_split (typeIs_str _ _ _) PySem.F.entry_str_split (PySem.F.args_str_split_2 _ _) (meets_str_split_not_found z y t t2 hA hy hB) ?_
      exact fin [(z, t)] _ (by unfold Txt.split; rw [if_neg (by rw [hA]; decide), if_pos hB]; rfl)
    | false =>
      refine call_meets PySem.F.slot_str_split (typeIs_str _ _ _) PySem.F.entry_str_split (PySem.F.args_str_split_2 _ _) (meets_str_split_sep z y t t2 hA hy hB (by omega) (by omega)) ?_
      show wants _ _ _ { s with toks := _, heap := s.heap.push { cls := .type "list", data := .seq (strsFrom s.toks (partsBetween z (occurrences z y 0 z.length (z.length + 1)) y.length)).toArray } }
      rw [strsFrom_eq]
      exact fin (numbered s.toks _) _ ((numbered_texts _ _).trans (by unfold Txt.split; rw [if_neg (by rw [hA]; decide), if_neg (by rw [hB]; decide)]))
theorem vals3 {x y z : V} {us : List Value} (r : Vals [x, y, z] us) : ∃ u v w, us = [u, v, w] ∧ RelV x u ∧ RelV y v ∧ RelV z w := by
  cases r with
  | cons r1 r =>
    obtain ⟨v, w, rfl, r2, r3⟩ := vals2 r
    exact ⟨_, v, w, rfl, r1, r2, r3⟩
theorem cmp3 {n : Nat} {D1 D2 D3 : Type} [DecidableEq D1] [DecidableEq D2] [DecidableEq D3] {R1 : Rp D1} {R2 : Rp D2} {R3 : Rp D3} (c1 : Cmp X n R1) (c2 : Cmp X n R2) (c3 : Cmp X n R3) : Cmp X (n + 1) (r3 X.K R1 R2 R3) where
  one := fun {pins σ H s x d e} I hx hy => by
    obtain ⟨a, u, v, w, rfl, t, q1, q2, q3⟩ := hx
    obtain ⟨b, u', v', w', e0, t', q1', q2', q3'⟩ := hy
    cases e0
    have e1 := I.tuple_inj t t'
    cases e1
    exact Prod.ext (c1.one I q1 q1') (Prod.ext (c2.one I q2 q2') (c3.one I q3 q3'))
  eq := fun {pins σ H s A x y u v d e} I ru rv hx hy hu => by
    obtain ⟨a, x1, x2, x3, rfl, t, q1, q2, q3⟩ := hx
    obtain ⟨b, y1, y2, y3, rfl, t', q1', q2', q3'⟩ := hy
    cases ru
    cases rv
    by_cases hab : a = b
    · subst hab
      have e1 := I.tuple_inj t t'
      cases e1
      have : d = e := Prod.ext (c1.one I q1 q1') (Prod.ext (c2.one I q2 q2') (c3.one I q3 q3'))
      rw [decide_eq_true this]
      exact SeqAt.EqAt.same _
    · obtain ⟨its, r, it, _⟩ := I.tuple t
      obtain ⟨its', r', it', _⟩ := I.tuple t'
      obtain ⟨u1, u2, u3, rfl, r1, r2, r3⟩ := vals3 r
      obtain ⟨w1, w2, w3, rfl, r1', r2', r3'⟩ := vals3 r'
      have key := SeqAt.EqAt.of_refs hab (SeqAt.RcAt.tuples (A := A) (s := s) (e := fun j => if j = 0 then decide (d.1 = e.1) else if j = 1 then decide (d.2.1 = e.2.1) else decide (d.2.2 = e.2.2)) (isTuple_of it) (isTuple_of it') (by omega) fun j h1 h2 => by
        match j, h1, h2 with
        | 0, _, _ => exact c1.eq I r1 r1' q1 q1' (by show A.units + 1 + n < cLine; omega)
        | 1, _, _ => exact c2.eq I r2 r2' q2 q2' (by show A.units + 1 + n < cLine; omega)
        | 2, _, _ => exact c3.eq I r3 r3' q3 q3' (by show A.units + 1 + n < cLine; omega))
      have e3 : ((List.range (min [u1, u2, u3].toArray.size [w1, w2, w3].toArray.size)).all (fun j => if j = 0 then decide (d.1 = e.1) else if j = 1 then decide (d.2.1 = e.2.1) else decide (d.2.2 = e.2.2)) && [u1, u2, u3].toArray.size == [w1, w2, w3].toArray.size) = decide (d = e) := by
        show (decide (d.1 = e.1) && (decide (d.2.1 = e.2.1) && (decide (d.2.2 = e.2.2) && true)) && true) = _
        by_cases h1 : d.1 = e.1
        · by_cases h2 : d.2.1 = e.2.1
          · by_cases h3 : d.2.2 = e.2.2
            · have : d = e := Prod.ext h1 (Prod.ext h2 h3)
              simp [this]
            · have : ¬ d = e := fun z => h3 (by rw [z])
              simp [h1, h2, h3, this]
          · have : ¬ d = e := fun z => h2 (by rw [z])
            simp [h1, h2, this]
        · have : ¬ d = e := fun z => h1 (by rw [z])
          simp [h1, this]
      rw [e3] at key
      exact key
theorem psx_set {i : Nat} {x : Str} {e : Expr} {te : XS → TE} {pos pos' : Pos} (hN : X.N.Nodup) (hi : X.N[i]? = some x) (hx : Loc X.env.scope x) (he : PEX X e te) (hs : swapsWith e (some (.Name x pos')) pos.line X.env = pure false := by rfl) (hf : X.fn x = true ∨ X.env.scope.names.lookup x = some .local := by first | exact .inl rfl | exact .inr rfl | assumption) :
    PSX X (.Assign [.Name x pos'] e pos) (fun ES => tAsg (te ES) (gName i)) := by
  intro ES pins s σ H D I h
  refine wpAny_Assign_Name (thn (he ES pins s σ H _ I h) fun v s1 ⟨y, H1, I1, r1, q1⟩ => ?_) hs
  exact store_ok I1 hN hi hx r1 (fun s2 I2 => ⟨_, H1, I2, q1⟩) hf
/-- two lists, or two texts, compared -/
def rNeO {D : Type} [DecidableEq D] (R : Rp D) : V → V → Hp → VK → Prop := fun x y H Q => rEqD R true x y H Q ∨ rNe x y H Q
theorem op_neO {n : Nat} {D : Type} [DecidableEq D] {R : Rp D} (c : Cmp X n R) (hu : X.A.units + n + 1 < cLine) : OpR X (compareOp .NotEq) (rNeO (rL X.K R)) := by
  intro pins s σ H x y v u Q I rx ry h
  rcases h with h | h
  · exact op_neL c hu pins s σ H x y v u Q I rx ry h
  · exact op_ne pins s σ H x y v u Q I rx ry h
end
end L2
set_option Elab.async false
set_option linter.all false
set_option maxRecDepth 100000
namespace Ev
open PySem L2
/-! ### texts parted and joined -/
theorem nl_eq : ("\n" : Str) = ⟨#[10]⟩ := by decide +kernel
theorem bl_eq : (" " : Str) = ⟨#[32]⟩ := by decide +kernel
theorem em_eq : ("" : Str) = ⟨#[]⟩ := by decide +kernel
theorem app_l (a b : Str) : (a ++ b).cps.toList = a.cps.toList ++ b.cps.toList := by rw [PySem.Str.cps_append, Array.toList_append]
theorem str_ext {a b : Str} (h : a.cps.toList = b.cps.toList) : a = b := by
  apply Str.ext'
  exact Array.toList_inj.mp h
theorem first_cut {c : Nat} : ∀ {a b s t : List Nat}, c ∉ a → c ∉ b → a ++ c :: s = b ++ c :: t → a = b ∧ s = t
  | [], [], _, _, _, _, h => ⟨rfl, (List.cons.inj h).2⟩
  | [], y :: b, s, t, _, hb, h => by
    have := (List.cons.inj h).1
    exact absurd (this ▸ List.mem_cons_self) hb
  | x :: a, [], s, t, ha, _, h => by
    have := (List.cons.inj h).1
    exact absurd (this ▸ List.mem_cons_self) ha
  | x :: a, y :: b, s, t, ha, hb, h => by
    obtain ⟨e, h⟩ := List.cons.inj h
    obtain ⟨e1, e2⟩ := first_cut (fun m => ha (List.mem_cons_of_mem _ m)) (fun m => hb (List.mem_cons_of_mem _ m)) h
    exact ⟨by rw [e, e1], e2⟩
theorem join_two (c : Nat) (x y : Str) (r : List Str) : (Str.join ⟨#[c]⟩ (x :: y :: r)).cps.toList = x.cps.toList ++ c :: (Str.join ⟨#[c]⟩ (y :: r)).cps.toList := by
  show (x ++ ⟨#[c]⟩ ++ Str.join ⟨#[c]⟩ (y :: r)).cps.toList = _
  rw [app_l, app_l, List.append_assoc]
  rfl
theorem join_inj (c : Nat) : ∀ (ps qs : List Str), ps ≠ [] → qs ≠ [] → (∀ p ∈ ps, c ∉ p.cps.toList) → (∀ q ∈ qs, c ∉ q.cps.toList) → (Str.join ⟨#[c]⟩ ps).cps.toList = (Str.join ⟨#[c]⟩ qs).cps.toList → ps = qs
  | [], _, h, _, _, _, _ => absurd rfl h
  | _ :: _, [], _, h, _, _, _ => absurd rfl h
  | [x], [y], _, _, _, _, e => by rw [str_ext (a := x) (b := y) e]
  | [x], y :: z :: r, _, _, h, _, e => by
    rw [join_two] at e
    have : c ∈ x.cps.toList := by
      have e : x.cps.toList = _ := e
      rw [e]
      simp
    exact absurd this (h x List.mem_cons_self)
  | x :: z :: r, [y], _, _, _, h, e => by
    rw [join_two] at e
    have : c ∈ y.cps.toList := by
      have e : _ = y.cps.toList := e
      rw [← e]
      simp
    exact absurd this (h y List.mem_cons_self)
  | x :: x2 :: r, y :: y2 :: q, _, _, h1, h2, e => by
    rw [join_two, join_two] at e
    obtain ⟨e1, e2⟩ := first_cut (h1 x List.mem_cons_self) (h2 y List.mem_cons_self) e
    rw [str_ext e1, join_inj c (x2 :: r) (y2 :: q) (by simp) (by simp) (fun p m => h1 p (List.mem_cons_of_mem _ m)) (fun p m => h2 p (List.mem_cons_of_mem _ m)) e2]
theorem split_join (c : Nat) (ps : List Str) (h : ps ≠ []) (hf : ∀ p ∈ ps, c ∉ p.cps.toList) : Txt.split (Txt.join ⟨#[c]⟩ ps) ⟨#[c]⟩ = ps := by
  refine join_inj c _ ps (fun e => ?_) h (StrLaws.split_free _ c) hf ?_
  · have := PyProof.Rows.split_pos (Txt.join ⟨#[c]⟩ ps) ⟨#[c]⟩
    rw [e] at this
    simp at this
  · rw [StrLaws.join_split]
    show (Builtin.Str.glued _ ps).cps.toList = _
    rw [StrLaws.glued_eq_join]
theorem jlen (sep : Str) (ss : List Str) : (Txt.join sep ss).length ≤ (ss.map (·.length)).sum + ss.length * sep.length := by
  show (Builtin.Str.glued sep ss).length ≤ _
  rw [size_glued]
  have : (ss.length - 1) * sep.length ≤ ss.length * sep.length := Nat.mul_le_mul_right _ (by omega)
  omega
theorem sum_le {ss : List Str} {m : Nat} (h : ∀ x ∈ ss, x.length ≤ m) : (ss.map (·.length)).sum ≤ m * ss.length := by
  induction ss with
  | nil => simp
  | cons x ss ih =>
    have a := h x List.mem_cons_self
    have b := ih fun y hy => h y (List.mem_cons_of_mem _ hy)
    rw [List.map_cons, List.sum_cons, List.length_cons, Nat.mul_add, Nat.mul_one]
    omega

/-! ### names, moves -/
def okc (c : Nat) : Bool := decide (97 ≤ c) && decide (c ≤ 122)
def nameB (x : Str) : Bool := decide (1 ≤ x.length) && decide (x.length ≤ 8) && x.cps.toList.all okc
theorem name_len {x : Str} (h : nameB x = true) : 1 ≤ x.length ∧ x.length ≤ 8 := by
  unfold nameB at h
  simp only [Bool.and_eq_true, decide_eq_true_eq] at h
  exact h.1
theorem name_sign {x : Str} (h : nameB x = true) {c : Nat} (m : c ∈ x.cps.toList) : 97 ≤ c ∧ c ≤ 122 := by
  unfold nameB at h
  simp only [Bool.and_eq_true, List.all_eq_true] at h
  have := h.2 c m
  unfold okc at this
  simpa using this
abbrev Tri := Str × Str × Str
def triL (m : Tri) : List Str := [m.1, m.2.1, m.2.2]
def triS (m : Tri) : Str := Txt.join " " (triL m)
def txtS (ms : List Tri) : Str := Txt.join "\n" (ms.map triS)
def goodW (ws : List Str) : Bool := decide (ws.length = 3) && ws.all nameB
def triW (ws : List Str) : Tri := (ws.getD 0 "", ws.getD 1 "", ws.getD 2 "")
def rowsOf (t : Str) : List Str := Txt.split t "\n"
def wordsOf (r : Str) : List Str := Txt.split r " "
def rd (t : Str) : Option (List Tri) := if t = "" then some [] else if (rowsOf t).all (fun r => goodW (wordsOf r)) then some ((rowsOf t).map fun r => triW (wordsOf r)) else none
/-- of what is no text: none -/
def rdO : Option Str → Option (List Tri)
  | some t => rd t
  | none => none
def triB (m : Tri) : Bool := (triL m).all nameB
theorem tri_sum {m : Tri} (h : triB m = true) : ((triL m).map (·.length)).sum ≤ 24 := by
  have := sum_le (ss := triL m) (m := 8) fun x hx => (name_len (List.all_eq_true.mp h x hx)).2
  have e : (triL m).length = 3 := rfl
  omega
theorem bl_len : (" " : Str).length = 1 := by decide +kernel
theorem nl_len : ("\n" : Str).length = 1 := by decide +kernel
theorem em_len : ("" : Str).length = 0 := by decide +kernel
theorem tri_len {m : Tri} (h : triB m = true) : (triS m).length ≤ 27 := by
  have a := jlen " " (triL m)
  have b := tri_sum h
  rw [bl_len, show (triL m).length = 3 from rfl] at a
  unfold triS
  omega
theorem tri_pos {m : Tri} (h : triB m = true) : 1 ≤ (triS m).length := by
  have e : (triS m).length = ((triL m).map (·.length)).sum + ((triL m).length - 1) * (" " : Str).length := size_glued _ _
  rw [bl_len, show (triL m).length = 3 from rfl] at e
  omega
theorem txt_sum {ms : List Tri} (h : ∀ m ∈ ms, triB m = true) : ((ms.map triS).map (·.length)).sum ≤ 27 * ms.length := by
  have := sum_le (ss := ms.map triS) (m := 27) fun x hx => by
    obtain ⟨m, hm, rfl⟩ := List.mem_map.mp hx
    exact tri_len (h m hm)
  rwa [List.length_map] at this
theorem txt_len {ms : List Tri} (h : ∀ m ∈ ms, triB m = true) : (txtS ms).length ≤ 28 * ms.length := by
  have a := jlen "\n" (ms.map triS)
  have b := txt_sum h
  rw [nl_len, List.length_map] at a
  unfold txtS
  omega
theorem join_cps (sep : Str) (ss : List Str) : Txt.join sep ss = Str.join sep ss := StrLaws.glued_eq_join sep ss
theorem tri_words {m : Tri} (h : triB m = true) : wordsOf (triS m) = triL m := by
  unfold wordsOf triS
  rw [bl_eq]
  refine split_join 32 _ (by unfold triL; simp) fun p hp hc => ?_
  have := name_sign (List.all_eq_true.mp h p hp) hc
  omega
theorem tri_row {m : Tri} (h : triB m = true) : 10 ∉ (triS m).cps.toList := by
  unfold triS
  rw [join_cps, PyProof.Rows.mem_join, bl_eq]
  rintro (⟨t, ht, hc⟩ | ⟨_, hc⟩)
  · have := name_sign (List.all_eq_true.mp h t ht) hc
    omega
  · simp at hc
theorem txt_rows {ms : List Tri} (h : ∀ m ∈ ms, triB m = true) (h0 : ms ≠ []) : rowsOf (txtS ms) = ms.map triS := by
  unfold rowsOf txtS
  rw [nl_eq]
  refine split_join 10 _ (by simpa using h0) fun p hp => ?_
  obtain ⟨m, hm, rfl⟩ := List.mem_map.mp hp
  exact tri_row (h m hm)
theorem txt_ne {ms : List Tri} (h : ∀ m ∈ ms, triB m = true) (h0 : ms ≠ []) : txtS ms ≠ "" := by
  intro e
  have e2 : (txtS ms).length = ((ms.map triS).map (·.length)).sum + ((ms.map triS).length - 1) * ("\n" : Str).length := size_glued _ _
  rw [e, em_len] at e2
  cases ms with
  | nil => exact h0 rfl
  | cons m ms =>
    have := tri_pos (h m List.mem_cons_self)
    rw [List.map_cons, List.map_cons, List.sum_cons] at e2
    omega
/-- what is written is read back -/
theorem rd_txt {ms : List Tri} (h : ∀ m ∈ ms, triB m = true) : rd (txtS ms) = some ms := by
  by_cases h0 : ms = []
  · subst h0
    unfold rd
    rw [if_pos (show txtS [] = "" by decide +kernel)]
  · unfold rd
    rw [if_neg (txt_ne h h0), txt_rows h h0, if_pos ?_, List.map_map]
    · congr 1
      have : ∀ m ∈ ms, ((fun r => triW (wordsOf r)) ∘ triS) m = id m := fun m hm => by
        show triW (wordsOf (triS m)) = m
        rw [tri_words (h m hm)]
        rfl
      rw [List.map_congr_left this, List.map_id]
    · rw [List.all_eq_true]
      intro r hr
      obtain ⟨m, hm, rfl⟩ := List.mem_map.mp hr
      rw [tri_words (h m hm)]
      unfold goodW
      rw [decide_eq_true (show (triL m).length = 3 from rfl), Bool.true_and]
      exact h m hm
theorem abc_list : ("abcdefghijklmnopqrstuvwxyz" : Str).cps.toList = (List.range 26).map (97 + ·) := by decide +kernel
theorem abc_mem (c : Nat) : decide (c ∈ ("abcdefghijklmnopqrstuvwxyz" : Str).cps.toList) = okc c := by
  rw [abc_list]
  unfold okc
  by_cases h : 97 ≤ c ∧ c ≤ 122
  · rw [decide_eq_true h.1, decide_eq_true h.2]
    exact decide_eq_true (List.mem_map.mpr ⟨c - 97, List.mem_range.mpr (by omega), by omega⟩)
  · rw [show (decide (97 ≤ c) && decide (c ≤ 122)) = false by rw [← Bool.not_eq_true, Bool.and_eq_true, decide_eq_true_eq, decide_eq_true_eq]; exact h]
    refine decide_eq_false fun m => h ?_
    obtain ⟨i, hi, e⟩ := List.mem_map.mp m
    have := List.mem_range.mp hi
    omega
theorem abc_notin (c : Nat) : (!(!(Builtin.Str.occurrences ("abcdefghijklmnopqrstuvwxyz" : Str) ⟨#[c]⟩ 0 ("abcdefghijklmnopqrstuvwxyz" : Str).length 1).isEmpty)) = !okc c := by
  rw [StrLaws.found_one, abc_mem]
def lenB (x : Str) : Bool := decide (1 ≤ x.length) && decide (x.length ≤ 8)
/-- both looks at the words of a row tell the same -/
theorem looks {ws : List Str} : ws.all nameB = (ws.all lenB && (Txt.join "" ws).cps.toList.all okc) := by
  rw [join_cps]
  have hm := PyProof.Rows.mem_join (sep := "") (ts := ws)
  rw [Bool.eq_iff_iff, Bool.and_eq_true, List.all_eq_true, List.all_eq_true, List.all_eq_true]
  constructor
  · intro h
    refine ⟨fun x hx => ?_, fun c hc => ?_⟩
    · have := h x hx
      unfold nameB at this
      rw [Bool.and_eq_true] at this
      exact this.1
    · rcases (hm c).mp hc with ⟨t, ht, m⟩ | ⟨_, m⟩
      · have := name_sign (h t ht) m
        unfold okc
        simpa using this
      · rw [em_eq] at m
        simp at m
  · rintro ⟨h1, h2⟩ x hx
    have a := h1 x hx
    unfold lenB at a
    unfold nameB
    rw [a, Bool.true_and, List.all_eq_true]
    exact fun c hc => h2 c ((hm c).mpr (.inl ⟨x, hx, hc⟩))
/-- bounds of what is parted -/
theorem rows_le (t : Str) : (rowsOf t).length ≤ t.length + 2 := PyProof.Rows.split_le t _
theorem row_len {t r : Str} (h : r ∈ rowsOf t) : r.length ≤ t.length := PyProof.Rows.part_short h
theorem words_le (t : Str) : (wordsOf t).length ≤ t.length + 2 := PyProof.Rows.split_le t _
theorem word_len {t r : Str} (h : r ∈ wordsOf t) : r.length ≤ t.length := PyProof.Rows.part_short h
theorem words_sum (t : Str) : ((wordsOf t).map (·.length)).sum ≤ t.length + 1 := by
  have := PyProof.Rows.split_weight t " " (by rw [bl_len]; exact Nat.le_refl 1)
  unfold wordsOf
  omega
end Ev
set_option Elab.async false
set_option linter.all false
set_option maxRecDepth 100000
namespace Ev
open PySem L2
def top (i : Nat) : Stmt := PySem.Challenge.pw_evenpieces_k74_moves_as_texts.main.body.getD i (.Pass ⟨0, 0, 0, 0⟩)
abbrev sName : Stmt := top 11
abbrev sWords : Stmt := top 13
abbrev sMText : Stmt := top 14
abbrev sRead : Stmt := top 15
abbrev sCell : Stmt := top 17
abbrev sDigit : Stmt := top 18
abbrev sLName : Stmt := top 19
abbrev sFound : Stmt := top 20
abbrev sDue : Stmt := top 21
abbrev sSpoiled : Stmt := top 22
abbrev sLaw : Stmt := top 23
def StrV (K : PySem.W.Frag) (H : Hp) (v : V) : Option Str → Prop
  | some x => v = .str x
  | none => ∃ t, TyOf K H v t ∧ PySem.W.kitOne K t (.type "str") = some false
structure Bi (mg : Str → Option Value) : Prop where
  isi : mg "isinstance" = none
  str : mg "str" = none
  len : mg "len" = none
  all : mg "all" = none
  tuple : mg "tuple" = none
  list : mg "list" = none
  range : mg "range" = none
  max : mg "max" = none
  min : mg "min" = none
  int : mg "int" = none
  val : mg "ValueError" = none
structure Ref (K : PySem.W.Frag) (mg : Str → Option Value) (x : Str) (C : Addr) : Prop where
  mg : mg x = some (.ref C)
  ex : PySem.W.excIn K C [.type "ValueError", .type "Exception", .type "BaseException", .type "object"] "ValueError.__new__" = true
structure Cal (P : Program) (w : World) (K : PySem.W.Frag) (mg : Str → Option Value) (base : Heap) (k : Nat) (x : Str) (ps : List Str) (sp : Sp) : Prop where
  ex : ∃ f fd, FnOk P w K mg base CX0 k f fd ps sp ∧ mg x = some (.ref f) ∧ PySem.W.keepIn K (.ref f) = true ∧ Binds K fd ps []
theorem pe_fn {X : Cx} {k : Nat} {x : Str} {ps : List Str} {sp : Sp} {p pos : Pos} {e : Expr} {es : List Expr} {t : TA} (c : Cal X.prog X.w X.K X.mg X.base k x ps sp) (hr : Room k X.A) (ha : PA X (e :: es) t) (hg : Gl X x := by rfl) (hdb : (x == ("__debug__" : Str)) = false := by decide)
    (he : starEach (e :: es) X.env = (false, eval e X.env) :: starEach es X.env := by rfl) (hpl : (backTo pos (starEach es X.env)).any (·.1) = false := by rfl) : PE X (.Call (.Name x p) (e :: es) [] pos) (tCall sp [] E0 t) := by
  obtain ⟨f, fd, F, m, kp, b⟩ := c.ex
  exact pe_call F hr hg m kp b .nil pass0 ha hdb he hpl

structure CalF (P : Program) (w : World) (K : PySem.W.Frag) (mg : Str → Option Value) (base : Heap) (k : Nat) (x : Str) (ps : List Str) (sp : Sp) : Prop where
  ex : ∃ f fd, FnOk P w K mg base (CX1 P w) k f fd ps sp ∧ mg x = some (.ref f) ∧ PySem.W.keepIn K (.ref f) = true ∧ Binds K fd ps []
theorem pe_fq {X : Cx} {E : XK} {k : Nat} {x : Str} {ps : List Str} {sp : Sp} {p pos : Pos} {e : Expr} {es : List Expr} {t : TA} (c : CalF X.prog X.w X.K X.mg X.base k x ps sp) (hr : Room k X.A) (hx : Passes (CX1 X.prog X.w) X E) (ha : PA X (e :: es) t) (hg : Gl X x := by rfl) (hdb : (x == ("__debug__" : Str)) = false := by decide)
    (he : starEach (e :: es) X.env = (false, eval e X.env) :: starEach es X.env := by rfl) (hpl : (backTo pos (starEach es X.env)).any (·.1) = false := by rfl) : PE X (.Call (.Name x p) (e :: es) [] pos) (tCall sp [] E t) := by
  obtain ⟨f, fd, F, m, kp, b⟩ := c.ex
  exact pe_call F hr hg m kp b .nil hx ha hdb he hpl

theorem roomU {k : Nat} {A : Around} (hr : Room k A) (n : Nat) (h : n + 1 ≤ 64 := by decide) : A.units + n + 1 < cLine := by
  have := hr.units
  omega
theorem mtK {X : Cx} {n : String} {K : PySem.W.Frag} (r : PySem.W.Frag → V → List V → Hp → VK → Prop) (h : MtM X n (r X.K)) (hK : X.K = K := by rfl) : MtM X n (r K) := by
  subst hK
  exact h
theorem same_but' {H H1 : Hp} {D : Addr} {o : HO} (h : Same H H1) (hD : H D = none) : Same H (upd H1 D o) := fun b u e => by rw [upd_ne (ne_of_none e hD)]; exact h b u e
/-- a statement and the rest, the rest a letter -/
theorem seqG {t u : TS} {D : Ends} {σ : St} {H : Hp} (R : St → Hp → Prop) (later : ∀ σ H, R σ H → u D σ H) (now : ∀ N : St → Hp → Prop, (∀ σ H, R σ H → N σ H) → t { D with nx := N } σ H) : tSeq t u D σ H := now (u D) later
theorem atI_nat {α : Type} {xs : List α} {i : Int} (h0 : 0 ≤ i) (h1 : i < xs.length) : atI xs i = xs[i.toNat]? := by
  unfold atI ixN
  rw [if_pos h0, if_pos h1]
  rfl
theorem hitL {α : Type} {p : α → Prop} {xs : List α} {r : Int} {n : Nat} (hn : xs.length = n) (h0 : 0 ≤ r) (h1 : r < (n : Int)) (h : ∀ v ∈ xs, p v) : ∃ v, atI xs r = some v ∧ p v := by
  have hl : r.toNat < xs.length := by omega
  refine ⟨xs[r.toNat], ?_, h _ (List.getElem_mem hl)⟩
  rw [atI_nat h0 (by omega), List.getElem?_eq_getElem hl]
def But (l : Addr) (H H' : Hp) : Prop := ∀ b o, H b = some o → b ≠ l → H' b = some o
theorem But.refl (l : Addr) (H : Hp) : But l H H := fun _ _ e _ => e
theorem But.trans {l : Addr} {H H1 H2 : Hp} (h : But l H H1) (h2 : But l H1 H2) : But l H H2 := fun b o e n => h2 b o (h b o e n) n
theorem But.of {l : Addr} {H H1 : Hp} (h : Same H H1) : But l H H1 := fun b o e _ => h b o e
theorem But.upd {l : Addr} {H : Hp} {o : HO} : But l H (upd H l o) := fun b u e n => by rw [upd_ne n]; exact e
def stt (H : Hp) (l : Addr) : Prop := (∃ n : Int, H l = some (.lst [.int n])) ∨ ∃ n m c : Int, H l = some (.lst [.int n, .int m, .int c])
theorem stt.some {H : Hp} {l : Addr} (h : stt H l) : ∃ xs, H l = some (.lst xs) := by
  rcases h with ⟨n, e⟩ | ⟨n, m, c, e⟩
  · exact ⟨_, e⟩
  · exact ⟨_, e⟩
theorem stt.same {H H' : Hp} {l : Addr} (h : stt H l) (s : Same H H') : stt H' l := by
  rcases h with ⟨n, e⟩ | ⟨n, m, c, e⟩
  · exact .inl ⟨n, s _ _ e⟩
  · exact .inr ⟨n, m, c, s _ _ e⟩
theorem stt.ne {H : Hp} {l a : Addr} (h : stt H l) (e : H a = none) : a ≠ l := by
  obtain ⟨xs, hl⟩ := h.some
  exact (ne_of_none hl e).symm
theorem stt.upd {H : Hp} {l a : Addr} {o : HO} (h : stt H l) (n : a ≠ l) : stt (L2.upd H a o) l := by
  rcases h with ⟨i, e⟩ | ⟨i, m, c, e⟩
  · exact .inl ⟨i, by rw [upd_ne n.symm]; exact e⟩
  · exact .inr ⟨i, m, c, by rw [upd_ne n.symm]; exact e⟩
theorem But.same {l : Addr} {H0 H H' : Hp} (b : But l H H') (n : H0 l = none) (s : Same H0 H) : Same H0 H' := fun c o e => b c o (s c o e) (ne_of_none e n)
def spDigit : Sp := fun vs H Q _ => ∃ (l : Addr) (b : Int), vs = [.ref l, .int b] ∧ 0 < b ∧ b < 1073741824 ∧ stt H l ∧ ∀ r H', 0 ≤ r → r < b → But l H H' → stt H' l → Q (.int r) H'
theorem small (x : Int) : -(2 ^ 64) < x % 2147483647 ∧ x % 2147483647 < 2 ^ 64 := by
  have h1 := Int.emod_nonneg x (b := 2147483647) (by decide)
  have h2 := Int.emod_lt_of_pos x (b := 2147483647) (by decide)
  exact ⟨by omega, by omega⟩
section
variable {P : Program} {w : World} {K : PySem.W.Frag} {mg : Str → Option Value} {base : Heap}

theorem scName : FnScope ["thing"] ["thing"] (defScope sName) := ⟨rfl, rfl, rfl, by decide +kernel, rfl, by decide +kernel, by decide +kernel⟩
def spName : Sp := fun vs H Q _ => ∃ x : Str, vs = [.str x] ∧ x.length ≤ 100000 ∧ ∀ H', Same H H' → Q (.bl (nameB x)) H'
def spNameA (K : PySem.W.Frag) : Sp := fun vs H Q _ => ∃ (v : V) (x : Option Str), vs = [v] ∧ StrV K H v x ∧ (∀ y, x = some y → y.length ≤ 100000) ∧ ∀ H', Same H H' → Q (.bl (x.elim false nameB)) H'

theorem sign_le {c : Nat} : (!decide ((⟨#[c]⟩ : Str).cps.toList < ("a" : Str).cps.toList)) = decide (97 ≤ c) := by
  have e : ("a" : Str).cps.toList = [97] := by decide +kernel
  rw [e]
  show (!decide ([c] < [97])) = decide (97 ≤ c)
  by_cases h : 97 ≤ c
  · have : ¬ [c] < [97] := by simp [List.cons_lt_cons_iff]; omega
    simp [this, h]
  · have : [c] < [97] := by simp [List.cons_lt_cons_iff]; omega
    simp [this, h]
theorem sign_ge {c : Nat} : (!decide (("z" : Str).cps.toList < (⟨#[c]⟩ : Str).cps.toList)) = decide (c ≤ 122) := by
  have e : ("z" : Str).cps.toList = [122] := by decide +kernel
  rw [e]
  show (!decide ([122] < [c])) = decide (c ≤ 122)
  by_cases h : c ≤ 122
  · have : ¬ [122] < [c] := by simp [List.cons_lt_cons_iff]; omega
    simp [this, h]
  · have : [122] < [c] := by simp [List.cons_lt_cons_iff]; omega
    simp [this, h]
theorem ok_nameA {f : Addr} {fd : FuncData} (F : Fun K "is_name" "is_name" sName f fd) (B : Bi mg) {t8 : Tok} (m8 : mg "MOST_LETTERS" = some (.int 8 t8)) : FnOk P w K mg base CX0 1 f fd ["thing"] (spNameA K) := by
  refine F.ok scName (fun vs H Q E h => ?_) (fun cdv A outer s H vs Q E hr h => ?_)
  · obtain ⟨v, x, rfl, _⟩ := h
    rfl
  · obtain ⟨v, x, rfl, sv, hz, k⟩ := h
    have sz := sizeLine_eq
    refine ⟨_, pss_cons (ps_if (pw_or (pt_not (pt_val (pe_callB call_isi (by rfl) B.isi PyProof.Rows.Boot.«isinstance» (pa_cons (pv 0) (pa_cons (pe_bltn (v := .ty "str") (by rfl) B.str PyProof.Rows.Boot.«str» rfl) pa_nil)))))
        (pw_or1 (pt_not (pt_chain op_le op_le pe_int (pe_callB call_len_str (by rfl) B.len PySem.boot_len (pa_cons (pv 0) pa_nil)) (pe_glob (v := .int 8) (by rfl) m8 ⟨t8, rfl⟩))))).pt (pss_one (ps_ret pe_bl)) pss_nil)
      (pss_one (ps_ret (pe_callB (call_all rfl) (by rfl) B.all PyProof.Rows.Boot.«all» (pa_cons
        (pe_comp ["letter"] 1 [] (pi_str (pv 0)) (fun fp s H => pg_name (i := 0) (show (["letter"] : List Str).Nodup by decide +kernel) rfl (Or.inl rfl)) (fun fp s H => pts_nil) (fun fp s H => pe_chain op_le_str op_le_str pe_str (pv 0) pe_str)) pa_nil)))), ?_⟩
    cases x with
    | none =>
      obtain ⟨t, ty, e⟩ := sv
      exact ⟨_, rfl, _, _, _, _, rfl, ty, e, _, rfl, iteT (k H (Same.refl H))⟩
    | some x =>
    cases (show v = .str x from sv)
    have hz := hz x rfl
    have k : ∀ H', Same H H' → Q (.bl (nameB x)) H' := k
    refine ⟨_, rfl, _, _, _, _, rfl, .str x, rfl, _, rfl, ?_⟩
    refine iteF ?_
    refine ⟨_, rfl, x, rfl, by omega, _, _, rfl, rfl, _, rfl, ?_⟩
    have fin : (decide (1 ≤ x.length) && decide (x.length ≤ 8)) = false → ∀ H', Same H H' → Q (.bl false) H' := fun e H' sm => by
      have := k H' sm
      rwa [show nameB x = false by unfold nameB; rw [e]; rfl] at this
    refine ite2 (fun c => ?_) (fun c => ?_)
    · have c1 : 1 ≤ x.length := by
        have : (1 : Int) ≤ (x.length : Int) := by simpa using c
        omega
      refine ⟨_, _, rfl, rfl, _, rfl, ?_⟩
      refine ite2 (fun c2 => ?_) (fun c2 => ?_)
      · -- too long
        have c3 : ¬ x.length ≤ 8 := by
          have : ¬ ((x.length : Int) ≤ 8) := by simpa using c2
          omega
        exact fin (by rw [decide_eq_false c3, Bool.and_false]) H (Same.refl H)
      · have c3 : x.length ≤ 8 := by
          have : (x.length : Int) ≤ 8 := by simpa using c2
          omega
        refine ⟨_, rfl, x, rfl, fun D hD => ?_⟩
        refine comp_it (own := 1) (fv := []) rfl gok1 x.cps.size (fun i out H' => H' = upd H D (.lst out) ∧ out = ((x.cps.toList.take i).map okc).map V.bl) ⟨rfl, by simp⟩ (fun out H' ⟨e1, e2⟩ => ?_) (fun i out H' hi ⟨e1, e2⟩ => ?_)
        · refine ⟨Nat.le_refl _, D, x.cps.toList.map okc, rfl, .of ?_, ?_⟩
          · rw [e1, upd_same, e2, List.take_of_length_le (by simp)]
          · have := k H' (by rw [e1]; exact Same.new hD)
            rwa [show nameB x = (x.cps.toList.map okc).all id by unfold nameB; rw [decide_eq_true c1, decide_eq_true c3, List.all_map]; rfl] at this
        · refine ⟨hi, fun v H2 y => ?_⟩
          obtain ⟨eH, c, hc, rfl⟩ := y
          subst eH
          refine ⟨_, rfl, rfl, fun Nx hN => yesT ?_⟩
          have lo : out.length < sizeLine := by
            rw [e2]
            have hs : x.length = x.cps.size := rfl
            simp only [List.length_map, List.length_take, Array.length_toList]
            omega
          have nx : Nx (upd H2 D (.lst (out ++ [V.bl (okc c)]))) := hN (out ++ [V.bl (okc c)]) _ ⟨by rw [e1, upd_upd], by
            rw [e2, List.take_add_one]
            simp [hc]⟩
          have atD : H2 D = some (.lst out) := by rw [e1, upd_same]
          refine ⟨_, rfl, _, _, rfl, rfl, _, rfl, ?_⟩
          rw [sign_le]
          refine ite2 (fun c2 => ?_) (fun c2 => ?_)
          · refine ⟨_, _, rfl, rfl, out, atD, lo, ?_⟩
            rw [sign_ge]
            rwa [show okc c = decide (c ≤ 122) by unfold okc; rw [c2]; rfl] at nx
          · refine ⟨out, atD, lo, ?_⟩
            rwa [show okc c = false by unfold okc; rw [show decide (97 ≤ c) = false by simpa using c2]; rfl] at nx
    · have c1 : ¬ 1 ≤ x.length := by
        have : ¬ ((1 : Int) ≤ (x.length : Int)) := by simpa using c
        omega
      exact ⟨_, rfl, iteT (fin (by rw [decide_eq_false c1]; rfl) H (Same.refl H))⟩

theorem scCell : FnScope ["_law_script", "_law_k"] ["_law_script", "_law_k"] (defScope sCell) := ⟨rfl, rfl, rfl, by decide +kernel, rfl, by decide +kernel, by decide +kernel⟩
def spCell (K : PySem.W.Frag) : Sp := fun vs H Q _ => ∃ (l : Addr) (ns : List Int) (k : Int), vs = [.ref l, .int k] ∧ 0 ≤ k ∧ SqL K H l (ns.map V.int) ∧ ∀ n, Q (.int n) H
theorem ok_cell {f : Addr} {fd : FuncData} (F : Fun K "_law_cell_at" "_law_cell_at" sCell f fd) (B : Bi mg) : FnOk P w K mg base CX0 1 f fd ["_law_script", "_law_k"] (spCell K) := by
  refine F.ok scCell (fun vs H Q E h => ?_) (fun cdv A outer s H vs Q E hr h => ?_)
  · obtain ⟨l, ns, k, rfl, _⟩ := h
    rfl
  · obtain ⟨l, ns, i, rfl, h0, hl, k⟩ := h
    refine ⟨_, pss_cons (ps_if (pt_cmpR op_lt (pv 1) (pe_callB call_len_seq (by rfl) B.len PySem.boot_len (pa_cons (pv 0) pa_nil)) (nomark _)) (pss_one (ps_ret (pe_ix ix_list (pv 0) (pv 1) (fun _ _ => rfl)))) pss_nil) (pss_one (ps_ret pe_int)), ?_⟩
    refine ⟨_, rfl, _, rfl, l, _, rfl, .inl hl, _, _, rfl, rfl, _, rfl, ?_⟩
    refine ite2 (fun c => ?_) (fun c => ?_)
    · have c : i < (ns.map V.int).length := by simpa using c
      have e : atI (ns.map V.int) i = some (.int (ns[i.toNat]'(by rw [List.length_map] at c; omega))) := by
        rw [atI_nat h0 c, List.getElem?_map, List.getElem?_eq_getElem (by rw [List.length_map] at c; omega)]
        rfl
      exact ⟨_, rfl, _, rfl, l, _, _, _, rfl, rfl, hl, e, k _⟩
    · exact k 0

theorem scDigit : FnScope ["_law_state", "_law_base", "_law_cell", "_law_found_here", "_law_number"] ["_law_state", "_law_base"] (defScope sDigit) := ⟨rfl, rfl, rfl, by decide +kernel, rfl, by decide +kernel, by decide +kernel⟩
theorem pick2 {n : Int} (b : Bool) : ∃ m : Int, atI [V.int 0, V.int n] (if b then 1 else 0) = some (.int m) := by
  cases b
  · exact ⟨0, rfl⟩
  · exact ⟨n, rfl⟩
theorem ok_digit {f : Addr} {fd : FuncData} (F : Fun K "_law_digit" "_law_digit" sDigit f fd) (B : Bi mg) : FnOk P w K mg base CX0 1 f fd ["_law_state", "_law_base"] spDigit := by
  refine F.ok scDigit (fun vs H Q E h => ?_) (fun cdv A outer s H vs Q E hr h => ?_)
  · obtain ⟨l, b, rfl, _⟩ := h
    rfl
  · obtain ⟨l, b, rfl, h0, h1, st, k⟩ := h
    refine ⟨_, pss_cons (ps_if (pt_cmpR op_eq (pe_callB call_len_seq (by rfl) B.len PySem.boot_len (pa_cons (pv 0) pa_nil)) pe_int (nomark _))
        (pss_cons (ps_set (i := 2) scDigit.nd rfl (Or.inl rfl) (pe_ix ix_list (pv 0) pe_int (fun _ _ => rfl)))
        (pss_cons (ps_asg (pe_ix ix_list (pe_lst (pa_cons pe_int (pa_cons (pv 2) pa_nil))) (pe_callTy call_int1 (by rfl) B.int PyProof.Rows.Boot.«int» (pa_cons (pe_cmpR op_ge (pv 2) (pe_op op_pow pe_int pe_int) (nomark _)) pa_nil)) (fun _ _ => rfl)) (pg_sub (pv 0) pe_int set_list))
        (pss_one (ps_expr (pe_bm PySem.F.plainAttrs_list PySem.F.slot_list_extend PySem.F.type_list_extend mt_extend (pv 0) (pa_cons (pe_lst (pa_cons (pe_op op_mod (pv 2) pe_int) (pa_cons pe_int pa_nil))) pa_nil)))))) pss_nil)
      (pss_cons (ps_if (pt_cmpR op_gt (pe_ix ix_list (pv 0) pe_int (fun _ _ => rfl)) pe_int (nomark _))
        (pss_cons (ps_set (i := 3) scDigit.nd rfl (Or.inl rfl) (pe_op op_mod (pe_ix ix_list (pv 0) pe_int (fun _ _ => rfl)) (pv 1)))
        (pss_cons (ps_asg (pe_op op_fdiv (pe_ix ix_list (pv 0) pe_int (fun _ _ => rfl)) (pv 1)) (pg_sub (pv 0) pe_int set_list))
        (pss_one (ps_ret (pv 3))))) pss_nil)
      (pss_cons (ps_asg (pe_op op_add (pe_ix ix_list (pv 0) pe_int (fun _ _ => rfl)) pe_int) (pg_sub (pv 0) pe_int set_list))
      (pss_cons (ps_set (i := 4) scDigit.nd rfl (Or.inl rfl) (pe_op op_mod (pe_op op_mul (pe_op op_add (pe_op op_add (pe_ix ix_list (pv 0) pe_int (fun _ _ => rfl)) (pe_op op_mul pe_int (pe_ix ix_list (pv 0) pe_int (fun _ _ => rfl)))) pe_int) pe_int) pe_int))
      (pss_cons (ps_set (i := 4) scDigit.nd rfl (Or.inl rfl) (pe_op op_mod (pe_op op_mul (pv 4) (pe_op op_add (pe_op op_fdiv (pv 4) pe_int) pe_int)) pe_int))
      (pss_one (ps_ret (pe_op op_mod (pe_op op_mod (pe_op op_mul (pv 4) (pe_op op_add (pe_op op_fdiv (pv 4) pe_int) pe_int)) pe_int) (pv 1)))))))), ?_⟩
    rcases st with ⟨n, hl0⟩ | ⟨n, m, c, hl⟩
    case' inl =>
      refine ⟨_, rfl, l, _, rfl, .inl (.of hl0), rfl, _, rfl, iteT ?_⟩
      refine ⟨_, rfl, l, _, _, _, rfl, rfl, .of hl0, rfl, ?_⟩
      refine ⟨_, rfl, by show 2 ≤ sizeLine; decide, fun p hp => ?_⟩
      have lp : l ≠ p := ne_of_none hl0 hp
      refine ⟨_, rfl, _, _, rfl, rfl, ⟨by decide, by decide, by decide⟩, _, _, rfl, rfl, .inr ⟨_, rfl, ?_⟩⟩
      obtain ⟨n', hn'⟩ := pick2 (n := n) (decide ((10 : Int) ^ (18 : Int).toNat ≤ n))
      refine ⟨p, _, _, _, rfl, rfl, .of upd_same, hn', ?_⟩
      refine ⟨_, rfl, l, _, _, 0, rfl, rfl, by rw [upd_ne lp]; exact hl0, rfl, ?_⟩
      have hl1 : (upd (upd H p (.lst [.int 0, .int n])) l (.lst ([V.int n].set 0 (.int n')))) l = some (.lst [.int n']) := upd_same
      have bt1 : But l H (upd (upd H p (.lst [.int 0, .int n])) l (.lst ([V.int n].set 0 (.int n')))) := (But.of (Same.new hp)).trans But.upd
      generalize (upd (upd H p (.lst [.int 0, .int n])) l (.lst ([V.int n].set 0 (.int n')))) = Ha at hl1 bt1 ⊢
      refine ⟨_, rfl, .inl ⟨rfl, _, .of hl1⟩, _, rfl, _, _, rfl, rfl, by show (0 : Int) < 2147483647; decide, by show 2 ≤ sizeLine; decide, fun q hq => ?_⟩
      refine ⟨l, q, _, _, rfl, rfl, Same.new hq _ _ hl1, upd_same, by show 1 + 2 ≤ sizeLine; decide, ?_⟩
      have bt : But l H (upd (upd Ha q (.lst [.int (n % 2147483647), .int 0])) l (.lst ([.int n'] ++ [.int (n % 2147483647), .int 0]))) := bt1.trans ((But.of (Same.new hq)).trans But.upd)
      have hl : (upd (upd Ha q (.lst [.int (n % 2147483647), .int 0])) l (.lst ([.int n'] ++ [.int (n % 2147483647), .int 0]))) l = some (.lst [.int n', .int (n % 2147483647), .int 0]) := upd_same
      generalize (upd (upd Ha q (.lst [.int (n % 2147483647), .int 0])) l (.lst ([.int n'] ++ [.int (n % 2147483647), .int 0]))) = H1 at bt hl ⊢
    case' inr =>
      refine ⟨_, rfl, l, _, rfl, .inl (.of hl), rfl, _, rfl, iteF ?_⟩
      have bt := But.refl l H
    all_goals
      refine ⟨_, rfl, l, _, _, _, rfl, rfl, .of hl, rfl, _, _, rfl, rfl, _, rfl, ?_⟩
      refine ite2 (fun c => ?_) (fun c => ?_)
      · refine ⟨_, rfl, l, _, _, _, rfl, rfl, .of hl, rfl, _, rfl, _, _, rfl, rfl, h0, ?_⟩
        refine ⟨_, rfl, l, _, _, _, rfl, rfl, .of hl, rfl, _, rfl, _, _, rfl, rfl, ⟨h0, h1⟩, _, rfl, l, _, _, 0, rfl, rfl, hl, rfl, ?_⟩
        exact ⟨_, rfl, k _ _ (Int.emod_nonneg _ (by omega)) (Int.emod_lt_of_pos _ h0) (bt.trans But.upd) (.inr ⟨_, _, _, upd_same⟩)⟩
      · refine ⟨_, rfl, l, _, _, _, rfl, rfl, .of hl, rfl, _, _, rfl, rfl, _, rfl, l, _, _, 2, rfl, rfl, hl, rfl, ?_⟩
        refine ⟨_, rfl, l, _, _, _, rfl, rfl, .of upd_same, rfl, _, rfl, l, _, _, _, rfl, rfl, .of upd_same, rfl, _, _, rfl, rfl, .inl ⟨by decide, by decide⟩, _, _, rfl, rfl, _, _, rfl, rfl, _, _, rfl, rfl, .inr ⟨by decide, by decide⟩, _, _, rfl, rfl, by show (0 : Int) < 2147483647; decide, ?_⟩
        refine ⟨_, rfl, _, rfl, _, _, rfl, rfl, ⟨by decide, by decide⟩, _, _, rfl, rfl, _, _, rfl, rfl, .inl (small _), _, _, rfl, rfl, by show (0 : Int) < 2147483647; decide, ?_⟩
        refine ⟨_, rfl, _, rfl, _, _, rfl, rfl, ⟨by decide, by decide⟩, _, _, rfl, rfl, _, _, rfl, rfl, .inl (small _), _, _, rfl, rfl, by show (0 : Int) < 2147483399; decide, _, rfl, _, _, rfl, rfl, h0, ?_⟩
        exact k _ _ (Int.emod_nonneg _ (by omega)) (Int.emod_lt_of_pos _ h0) (bt.trans But.upd) (.inr ⟨_, _, _, upd_same⟩)
end
end Ev
set_option Elab.async false
set_option linter.all false
set_option maxRecDepth 100000
namespace Ev
open PySem L2
theorem pe_bmK {X : Cx} {K : PySem.W.Frag} {o e : Expr} {es : List Expr} {to : TE} {t : TA} {name : Str} {apos cpos : Pos} {T id : String} {r : V → List V → Hp → VK → Prop} (pa : PlainAttrs T) (slot : Slot T name id) (hty : typeOf (.builtin id) = pure (.type "method_descriptor")) (hm : MtR X id r) (ho : PE X o to) (ha : PA X (e :: es) t)
    (hK : X.K = K := by rfl) (hbase : attributeBase o name X.env (eval o X.env) = eval o X.env := by rfl)
    (hfew : ((backTo cpos (starEach (e :: es) X.env)).all (fun x => !x.1) && (backToKw cpos (keywordEach [] X.env)).all (fun x => x.1.isSome)
      && decide ((e :: es).length + ([] : List Keyword).length + (if ([] : List Keyword).isEmpty then 0 else 1) < 30)) = true := by rfl)
    (hline : (apos.endLine == cpos.line) = true := by rfl) (hs : starEach (e :: es) X.env = (false, eval e X.env) :: starEach es X.env := by rfl) (hplain : (backTo cpos (starEach es X.env)).any (·.1) = false := by rfl) :
    PE X (.Call (.Attribute o name apos) (e :: es) [] cpos) (tBM K T r to t) := by
  subst hK
  exact pe_bm pa slot hty hm ho ha hbase hfew hline hs hplain
/-- a row's words, as a list -/
def WAt (H : Hp) (y : V) (r : Str) : Prop := ∃ a, y = .ref a ∧ H a = some (.lst ((wordsOf r).map V.str))
def RowsAt (H : Hp) (l : Addr) (rs : List Str) : Prop := ∃ ys, H l = some (.lst ys) ∧ Paired (WAt H) ys rs

abbrev rTri (K : PySem.W.Frag) : Rp Tri := r3 K rS rS rS
theorem tri_same {K : PySem.W.Frag} {H H' : Hp} {y : V} {m : Tri} (h : rTri K H y m) (s : Same H H') : rTri K H' y m := by
  obtain ⟨a, u, v, w, e, q, r⟩ := h
  exact ⟨a, u, v, w, e, q.same s, r⟩
theorem tri_sq {K : PySem.W.Frag} {H : Hp} {y : V} {m : Tri} (h : rTri K H y m) : ∃ a, y = .ref a ∧ SqT K H a ((triL m).map V.str) := by
  obtain ⟨a, u, v, w, e, q, r1, r2, r3⟩ := h
  cases (show u = _ from r1)
  cases (show v = _ from r2)
  cases (show w = _ from r3)
  exact ⟨a, e, q⟩
theorem sq_tri {K : PySem.W.Frag} {H : Hp} {a : Addr} {m : Tri} (h : SqT K H a ((triL m).map V.str)) : rTri K H (.ref a) m := ⟨a, _, _, _, rfl, h, rfl, rfl, rfl⟩
def MvAt (K : PySem.W.Frag) (H : Hp) (l : Addr) (ms : List Tri) : Prop := ∃ ys, H l = some (.lst ys) ∧ Paired (rTri K H) ys ms
theorem paired_imp {α β : Type} {F G : α → β → Prop} (h : ∀ a b, F a b → G a b) : ∀ {l : List α} {m : List β}, Paired F l m → Paired G l m
  | _, _, .nil => .nil
  | _, _, .cons q t => .cons (h _ _ q) (paired_imp h t)
theorem paired_snoc {α β : Type} {F : α → β → Prop} : ∀ {l : List α} {m : List β} {a : α} {b : β}, Paired F l m → F a b → Paired F (l ++ [a]) (m ++ [b])
  | _, _, _, _, .nil, h => .cons h .nil
  | _, _, _, _, .cons q t, h => .cons q (paired_snoc t h)
theorem paired_at {α β : Type} {F : α → β → Prop} : ∀ {l : List α} {m : List β}, Paired F l m → ∀ (i : Nat) {x : α}, l[i]? = some x → ∃ y, m[i]? = some y ∧ F x y
  | _, _, .nil, i, x, h => by simp at h
  | _, _, .cons q t, 0, x, h => by
    cases (show some _ = some x from h)
    exact ⟨_, rfl, q⟩
  | _, _, .cons q t, i + 1, x, h => paired_at t i (by simpa using h)
theorem take_snoc {α : Type} {l : List α} {i : Nat} {x : α} (h : l[i]? = some x) : l.take (i + 1) = l.take i ++ [x] := by rw [List.take_add_one, h]; rfl
section
variable {P : Program} {w : World} {K : PySem.W.Frag} {mg : Str → Option Value} {base : Heap}
theorem scWords : FnScope ["text"] ["text"] (defScope sWords) := ⟨rfl, rfl, rfl, by decide +kernel, rfl, by decide +kernel, by decide +kernel⟩
def spWords (K : PySem.W.Frag) (CT : Addr) : Sp := fun vs H Q E => ∃ v x, vs = [v] ∧ StrV K H v x ∧ (∀ y, x = some y → y.length ≤ 50000) ∧ (∀ t, x = some t → ∀ l H', Same H H' → H l = none → RowsAt H' l (rowsOf t) → Q (.ref l) H') ∧ (x = none → E (.ref CT) none H)
set_option maxHeartbeats 1600000 in
theorem ok_words {f CT : Addr} {fd : FuncData} (F : Fun K "words_of_rows" "words_of_rows" sWords f fd) (B : Bi mg) (N : Ref K mg "NoText" CT) : FnOk P w K mg base (CX1 P w) 1 f fd ["text"] (spWords K CT) := by
  refine F.okQ scWords (fun vs H Q E h => ?_) (fun cdv A outer s H vs Q E hr h own ps rs => ?_)
  · obtain ⟨v, x, rfl, _⟩ := h
    rfl
  · obtain ⟨v, x, rfl, sv, hb, kq, ke⟩ := h
    have sz := sizeLine_eq
    refine' ⟨_, pss_cons ?s1 ?s2, ?kk⟩
    case s1 => exact ps_if (pt_not (pt_val (pe_callB call_isi (by rfl) B.isi PyProof.Rows.Boot.«isinstance» (pa_cons (pv 0) (pa_cons (pe_bltn (v := .ty "str") (by rfl) B.str PyProof.Rows.Boot.«str» rfl) pa_nil))))) (pss_one (ps_raise rfl rs N.mg N.ex PySem.F.excBase_ValueError (by rfl) (pa_cons pe_str pa_nil))) pss_nil
    case' s2 => refine' pss_one ?s3
    first | (case' s3 => refine' ps_ret ?s4) | (case' s2 => refine' ps_ret ?s4)
    first | (case' s4 => refine' pe_comp ["row"] 1 [] ?d1 ?d2 ?d3 ?d4) | (case' s3 => refine' pe_comp ["row"] 1 [] ?d1 ?d2 ?d3 ?d4) | (case' s2 => refine' pe_comp ["row"] 1 [] ?d1 ?d2 ?d3 ?d4)
    case d1 => exact pi_list (pe_bm PySem.F.plainAttrs_str PySem.F.slot_str_split PySem.F.type_str_split mt_splitB (pv 0) (pa_cons pe_str pa_nil))
    case d2 => exact fun fp s H => pg_name (i := 0) (show (["row"] : List Str).Nodup by decide +kernel) rfl (Or.inl rfl)
    case d3 => exact fun fp s H => pts_nil
    case d4 => exact fun fp s H => pe_bmK (K := K) PySem.F.plainAttrs_str PySem.F.slot_str_split PySem.F.type_str_split mt_splitB (pv 0) (pa_cons pe_str pa_nil)
    case' kk => skip
    cases x with
    | none =>
      obtain ⟨t, ty, e⟩ := sv
      exact ⟨_, rfl, _, _, _, _, rfl, ty, e, _, rfl, iteT ⟨by show 1 ≤ sizeLine; decide, ke rfl⟩⟩
    | some t =>
      cases (show v = .str t from sv)
      have tl := hb t rfl
      refine ⟨_, rfl, _, _, _, _, rfl, .str t, rfl, _, rfl, iteF ?_⟩
      refine ⟨_, rfl, rfl, t, "\n", 10, rfl, rfl, nl_eq, tl, fun wl hwl => ?_⟩
      have s1 := Same.new (o := .lst ((rowsOf t).map V.str)) hwl
      have hw : upd H wl (.lst ((rowsOf t).map V.str)) wl = some (.lst ((rowsOf t).map V.str)) := upd_same
      have rl := rows_le t
      have rm : ∀ r ∈ rowsOf t, r.length ≤ t.length := fun r hr => row_len hr
      have kq := kq t rfl
      show _
      change ∃ _, _
      unfold rowsOf at s1 hw rl rm kq
      generalize Txt.split t "\n" = rws at s1 hw rl rm kq ⊢
      generalize upd H wl (.lst (rws.map V.str)) = H1 at s1 hw ⊢
      refine ⟨wl, rfl, ⟨_, .of hw⟩, fun D hD => ?_⟩
      refine comp_list (own := 1) (fv := []) (xs := rws.map V.str) rfl gok1 (fun i out H' => Same H1 H' ∧ H' D = some (.lst out) ∧ Paired (fun y r => ∃ a, y = .ref a ∧ a ≠ D ∧ H' a = some (.lst ((wordsOf r).map V.str))) out (rws.take i)) ⟨Same.new hD, upd_same, by rw [List.take_zero]; exact .nil⟩ (fun i out H' _ ⟨sm, _, _⟩ => .of (sm _ _ hw)) (fun out H7 ⟨s7, hD7, po⟩ => ?_) (fun i y out H' hy ⟨sm, hD', po⟩ => ?_)
      · rw [List.length_map, List.take_length] at po
        exact kq D H7 (s1.trans s7) (s1.free hD) ⟨out, hD7, paired_imp (fun y r ⟨a, e, _, q⟩ => ⟨a, e, q⟩) po⟩
      · have hi : i < rws.length := by
          have := (List.getElem?_eq_some_iff.mp hy).1
          rwa [List.length_map] at this
        rw [List.getElem?_map] at hy
        obtain ⟨r, hr0, rfl⟩ := Option.map_eq_some_iff.mp hy
        have hrl := rm r (List.mem_of_getElem? hr0)
        have ol : out.length = i := by
          have := Paired.length po
          rw [List.length_take] at this
          omega
        refine ⟨_, rfl, rfl, fun Nx hN => yesT ?_⟩
        refine ⟨_, rfl, rfl, r, " ", 32, rfl, rfl, bl_eq, by omega, fun l hl => ⟨out, Same.new hl _ _ hD', by omega, hN _ _ ⟨same_but' (sm.trans (Same.new hl)) hD, upd_same, ?_⟩⟩⟩
        have lD : l ≠ D := (ne_of_none hD' hl).symm
        rw [take_snoc hr0]
        refine paired_snoc (paired_imp ?_ po) ⟨l, rfl, lD, ?_⟩
        · rintro y r ⟨a, e, n, q⟩
          refine ⟨a, e, n, ?_⟩
          rw [upd_ne n]
          exact Same.new hl _ _ q
        · rw [upd_ne lD]
          exact upd_same
theorem scMText : FnScope ["moves"] ["moves"] (defScope sMText) := ⟨rfl, rfl, rfl, by decide +kernel, rfl, by decide +kernel, by decide +kernel⟩
def spMText (K : PySem.W.Frag) : Sp := fun vs H Q _ => ∃ l ys ms, vs = [.ref l] ∧ SqL K H l ys ∧ Paired (rTri K H) ys ms ∧ (∀ m ∈ ms, triB m = true) ∧ ms.length ≤ 100 ∧ ∀ H', Same H H' → Q (.str (txtS ms)) H'
set_option maxHeartbeats 1600000 in
theorem ok_mtext {f : Addr} {fd : FuncData} (F : Fun K "moves_text" "moves_text" sMText f fd) : FnOk P w K mg base CX0 1 f fd ["moves"] (spMText K) := by
  refine F.ok scMText (fun vs H Q E h => ?_) (fun cdv A outer s H vs Q E hr h => ?_)
  · obtain ⟨l, ys, ms, rfl, _⟩ := h
    rfl
  · obtain ⟨l, ys, ms, rfl, hl, pr, tb, ln, k⟩ := h
    have sz := sizeLine_eq
    refine' ⟨_, ?s1, ?kk⟩
    case' s1 => refine' pss_one ?s3
    first | (case' s3 => refine' ps_ret ?s4) | (case' s1 => refine' ps_ret ?s4)
    first | (case' s4 => refine' pe_bm PySem.F.plainAttrs_str PySem.F.slot_str_join PySem.F.type_str_join mt_join pe_str ?c5) | (case' s3 => refine' pe_bm PySem.F.plainAttrs_str PySem.F.slot_str_join PySem.F.type_str_join mt_join pe_str ?c5) | (case' s1 => refine' pe_bm PySem.F.plainAttrs_str PySem.F.slot_str_join PySem.F.type_str_join mt_join pe_str ?c5)
    case' c5 => refine' pa_cons ?c6 pa_nil
    case' c6 => refine' pe_comp ["move"] 1 [] ?d1 ?d2 ?d3 ?d4
    case d1 => exact pi_list (pv 0)
    case d2 => exact fun fp s H => pg_name (i := 0) (show (["move"] : List Str).Nodup by decide +kernel) rfl (Or.inl rfl)
    case d3 => exact fun fp s H => pts_nil
    case d4 => exact fun fp s H => pe_bmK (K := K) PySem.F.plainAttrs_str PySem.F.slot_str_join PySem.F.type_str_join (mtK (K := K) rJoinT mt_joinT) pe_str (pa_cons (pv 0) pa_nil)
    case' kk => skip
    refine ⟨rfl, _, rfl, l, rfl, ⟨_, hl⟩, fun D hD => ?_⟩
    refine comp_list (own := 1) (fv := []) (xs := ys) rfl gok1 (fun i out H' => Same H H' ∧ H' D = some (.lst out) ∧ out = ((ms.take i).map triS).map V.str) ⟨Same.new hD, upd_same, by simp⟩ (fun i out H' _ ⟨sm, _, _⟩ => sm.seq hl) (fun out H7 ⟨s7, hD7, eo⟩ => ?_) (fun i y out H' hy ⟨sm, hD', eo⟩ => ?_)
    · rw [Paired.length pr, List.take_length] at eo
      subst eo
      have a := txt_sum tb
      exact ⟨"\n", D, ms.map triS, rfl, rfl, .of hD7, by rw [nl_len, List.length_map]; omega, k _ s7⟩
    · have hi := (List.getElem?_eq_some_iff.mp hy).1
      have pl := Paired.length pr
      obtain ⟨m, hm, q⟩ := paired_at pr i hy
      have tm := tb m (List.mem_of_getElem? hm)
      obtain ⟨a, rfl, sq⟩ := tri_sq (tri_same q sm)
      have ts := tri_sum tm
      refine ⟨_, rfl, rfl, fun Nx hN => yesT ?_⟩
      refine ⟨rfl, _, rfl, " ", a, triL m, rfl, rfl, sq, by rw [bl_len, show (triL m).length = 3 from rfl]; omega, out, hD', by rw [eo, List.length_map, List.length_map, List.length_take]; omega, hN _ _ ⟨same_but' sm hD, upd_same, ?_⟩⟩
      rw [take_snoc hm, eo, List.map_append, List.map_append]
      rfl
end
end Ev
set_option Elab.async false
set_option linter.all false
set_option maxRecDepth 100000
namespace Ev
open PySem L2

/-- three words are the triple of them -/
theorem good_tri {ws : List Str} (h : goodW ws = true) : triL (triW ws) = ws := by
  unfold goodW at h
  rw [Bool.and_eq_true, decide_eq_true_eq] at h
  match ws, h.1 with
  | [a, b, c], _ => rfl
theorem rd_empty : rd "" = some [] := by
  unfold rd
  rw [if_pos rfl]
theorem rd_good {t : Str} (h : t ≠ "") (g : (rowsOf t).all (fun r => goodW (wordsOf r)) = true) : rd t = some ((rowsOf t).map fun r => triW (wordsOf r)) := by
  unfold rd
  rw [if_neg h, if_pos g]
theorem rd_bad {t r : Str} (h : t ≠ "") (hr : r ∈ rowsOf t) (g : goodW (wordsOf r) = false) : rd t = none := by
  unfold rd
  rw [if_neg h, if_neg ?_]
  intro z
  rw [List.all_eq_true.mp z r hr] at g
  cases g
theorem deqS (x y : Str) : decide (V.str x = V.str y) = decide (x = y) := by
  by_cases e : x = y
  · simp [e]
  · simp [e]
section
variable {P : Program} {w : World} {K : PySem.W.Frag} {mg : Str → Option Value} {base : Heap}
theorem scRead : FnScope ["text", "rows", "words"] ["text"] (defScope sRead) := ⟨rfl, rfl, rfl, by decide +kernel, rfl, by decide +kernel, by decide +kernel⟩
def spRead (K : PySem.W.Frag) (CT : Addr) : Sp := fun vs H Q E => ∃ v x, vs = [v] ∧ StrV K H v x ∧ (∀ y, x = some y → y.length ≤ 50000) ∧ (∀ ms, rdO x = some ms → ∀ l H', Same H H' → H l = none → MvAt K H' l ms → Q (.ref l) H') ∧ (rdO x = none → ∀ H', Same H H' → E (.ref CT) none H')
set_option maxHeartbeats 3200000 in
theorem ok_read {f CT : Addr} {fd : FuncData} (F : Fun K "read_moves" "read_moves" sRead f fd) (B : Bi mg) (N : Ref K mg "NoText" CT) (cN : Cal P w K mg base 1 "is_name" ["thing"] (spNameA K)) (cW : CalF P w K mg base 1 "words_of_rows" ["text"] (spWords K CT)) : FnOk P w K mg base (CX1 P w) 2 f fd ["text"] (spRead K CT) := by
  refine F.okQ scRead (fun vs H Q E h => ?_) (fun cdv A outer s H vs Q E hr h own ps rs => ?_)
  · obtain ⟨v, x, rfl, _⟩ := h
    rfl
  · obtain ⟨v, x, rfl, sv, hb, kq, ke⟩ := h
    have sz := sizeLine_eq
    refine' ⟨_, ?r0, ?kk⟩
    case' r0 => refine' pss_cons ?s1 ?r1
    case' r1 => refine' pss_cons ?s2 ?r2
    case' r2 => refine' pss_cons ?s3 ?s4
    case s1 => exact ps_set (i := 1) scRead.nd rfl (Or.inl rfl) (pe_fq cW hr ps (pa_cons (pv 0) pa_nil))
    case s2 => exact ps_if (pt_cmpR op_eq (pv 0) pe_str (nomark _)) (pss_one (ps_ret (pe_lst pa_nil))) pss_nil
    case' s3 => refine' ps_for own rfl (pi_list (pv 1)) (pg_name (i := 2) scRead.nd rfl (Or.inl rfl)) (pss_one ?l1)
    case' l1 => refine' ps_if ?t1 ?t2 pss_nil
    case t2 => exact pss_one (ps_raise rfl rs N.mg N.ex PySem.F.excBase_ValueError (by rfl) (pa_cons pe_str pa_nil))
    case' t1 => refine' (pw_or ?t3 (pw_or1 ?t4)).pt
    case t3 => exact pt_cmpR op_ne (pe_callB call_len_seq (by rfl) B.len PySem.boot_len (pa_cons (pv 2) pa_nil)) pe_int (nomark _)
    case' t4 => refine' pt_not (pt_val ?t5)
    case' t5 => refine' pe_callB (call_all rfl) (by rfl) B.all PyProof.Rows.Boot.«all» (pa_cons ?t6 pa_nil)
    case' t6 => refine' pe_comp ["word"] 1 [] ?d1 ?d2 ?d3 ?d4
    case d1 => exact pi_list (pv 2)
    case d2 => exact fun fp s H => pg_name (i := 0) (show (["word"] : List Str).Nodup by decide +kernel) rfl (Or.inl rfl)
    case d3 => exact fun fp s H => pts_nil
    case d4 => exact fun fp s H => pe_fn cN hr (pa_cons (pv 0) pa_nil)
    case s4 => exact pss_one (ps_ret (pe_comp ["words"] 1 [] (pi_list (pv 1)) (fun fp s H => pg_name (i := 0) (show (["words"] : List Str).Nodup by decide +kernel) rfl (Or.inl rfl)) (fun fp s H => pts_nil) (fun fp s H => pe_callTy (cTupOf (K := K)) (by rfl) B.tuple PyProof.Rows.Boot.«tuple» (pa_cons (pv 0) pa_nil))))
    case' kk => skip
    refine ⟨_, rfl, v, x, rfl, sv, hb, fun t et l H1 s1 fl hl => ?_, fun ex => ke (by rw [ex]; rfl) H (Same.refl H)⟩
    subst et
    cases (show v = .str t from sv)
    have tl := hb t rfl
    have kq : ∀ ms, rd t = some ms → ∀ l H', Same H H' → H l = none → MvAt K H' l ms → Q (.ref l) H' := kq
    have ke : rd t = none → ∀ H', Same H H' → E (.ref CT) none H' := ke
    refine ⟨_, rfl, rfl, _, rfl, ?_⟩
    rw [deqS]
    refine ite2 (fun c => ?_) (fun c => ?_)
    · have c : t = "" := by simpa using c
      refine ⟨Nat.zero_le _, fun p hp => ?_⟩
      exact kq [] (by rw [c]; exact rd_empty) p _ (s1.trans (Same.new hp)) (s1.free hp) ⟨[], upd_same, .nil⟩
    have tne : t ≠ "" := by simpa using c
    have rb : ∀ r ∈ rowsOf t, goodW (wordsOf r) = false → ∀ H', Same H H' → E (.ref CT) none H' := fun r hr g => ke (rd_bad tne hr g)
    have rg : (rowsOf t).all (fun r => goodW (wordsOf r)) = true → ∀ l H', Same H H' → H l = none → MvAt K H' l ((rowsOf t).map fun r => triW (wordsOf r)) → Q (.ref l) H' := fun g => kq _ (rd_good tne g)
    have rl := rows_le t
    have rm : ∀ r ∈ rowsOf t, r.length ≤ t.length := fun r hr => row_len hr
    generalize rowsOf t = rws at hl rb rg rl rm
    obtain ⟨ys, hys, py⟩ := hl
    have lys := Paired.length py
    refine ⟨_, rfl, l, rfl, ⟨_, .of hys⟩, for_list (K := K) (a := l) (xs := ys) (fun i σ H2 => ∃ v2, σ = [some (.str t), some (.ref l), v2] ∧ Same H1 H2 ∧ (rws.take i).all (fun r => goodW (wordsOf r)) = true) ⟨none, rfl, Same.refl H1, by simp⟩ (fun i σ H2 _ ⟨_, _, s2, _⟩ => .of (s2 _ _ hys)) ?_ ?_⟩
    · rintro i y σ H2 hy ⟨v2, rfl, s2, ag⟩
      obtain ⟨r, hr0, a, rfl, ha⟩ := paired_at py i hy
      have rmem := List.mem_of_getElem? hr0
      have hrl := rm r rmem
      have wl := words_le r
      have wm : ∀ x ∈ wordsOf r, x.length ≤ r.length := fun x hx => word_len hx
      have bad := rb r rmem
      have next : goodW (wordsOf r) = true → (rws.take (i + 1)).all (fun r => goodW (wordsOf r)) = true := fun g => by
        rw [take_snoc hr0, List.all_append, ag, Bool.true_and, List.all_cons, List.all_nil, Bool.and_true]
        exact g
      have ha2 := s2 _ _ ha
      unfold goodW at bad next
      generalize wordsOf r = ws at ha2 wl wm bad next
      refine ⟨_, rfl, a, _, rfl, .inl (.of ha2), rfl, _, rfl, ?_⟩
      refine ite2 (fun c => ?_) (fun c => ?_)
      · have c : ws.length ≠ 3 := by
          intro e
          rw [List.length_map, e] at c
          simp at c
        exact ⟨by show 1 ≤ sizeLine; decide, bad (by rw [decide_eq_false c, Bool.false_and]) _ (s1.trans s2)⟩
      have c : ws.length = 3 := by
        refine Classical.byContradiction fun e => c ?_
        rw [List.length_map]
        have : ¬ ((ws.length : Int) = 3) := by omega
        simp [this]
      rw [decide_eq_true c, Bool.true_and] at bad next
      refine ⟨_, rfl, a, rfl, ⟨_, .of ha2⟩, fun D hD => ?_⟩
      refine comp_list (own := 1) (fv := []) (xs := ws.map V.str) rfl gok1 (fun i out H' => Same H2 H' ∧ H' D = some (.lst out) ∧ out = ((ws.take i).map nameB).map V.bl) ⟨Same.new hD, upd_same, by simp⟩ (fun i out H' _ ⟨sm, _, _⟩ => .of (sm _ _ ha2)) (fun out H7 ⟨s7, hD7, eo⟩ => ?_) (fun i y out H' hy ⟨sm, hD', eo⟩ => ?_)
      · rw [List.length_map, List.take_length] at eo
        subst eo
        refine ⟨D, _, rfl, .of hD7, ws.all nameB, congrArg V.bl (show (ws.map nameB).all id = ws.all nameB by rw [List.all_map]; rfl), ?_⟩
        cases g : ws.all nameB with
        | true => exact iteF ⟨_, rfl, s2.trans s7, next g⟩
        | false => exact iteT ⟨by show 1 ≤ sizeLine; decide, bad g _ (s1.trans (s2.trans s7))⟩
      · have hi := (List.getElem?_eq_some_iff.mp hy).1
        rw [List.length_map] at hi
        rw [List.getElem?_map] at hy
        obtain ⟨x, hx, rfl⟩ := Option.map_eq_some_iff.mp hy
        have xl := wm x (List.mem_of_getElem? hx)
        refine ⟨_, rfl, rfl, fun Nx hN => yesT ?_⟩
        refine ⟨_, rfl, .str x, some x, rfl, rfl, fun y e => by cases e; omega, fun H8 s8 => ?_⟩
        refine ⟨out, s8 _ _ hD', by rw [eo, List.length_map, List.length_map, List.length_take]; omega, hN _ _ ⟨same_but' (sm.trans s8) hD, upd_same, ?_⟩⟩
        rw [take_snoc hx, eo, List.map_append, List.map_append]
        rfl
    · rintro σ H2 ⟨v2, rfl, s2, ag⟩
      rw [lys, List.take_length] at ag
      have rg := rg ag
      have hys2 := s2 _ _ hys
      refine ⟨_, rfl, l, rfl, ⟨_, .of hys2⟩, fun D hD => ?_⟩
      refine comp_list (own := 1) (fv := []) (xs := ys) rfl gok1 (fun i out H' => Same H2 H' ∧ H' D = some (.lst out) ∧ Paired (fun y m => ∃ a, y = .ref a ∧ a ≠ D ∧ H' a = some (.tup ((triL m).map V.str))) out ((rws.map fun r => triW (wordsOf r)).take i)) ⟨Same.new hD, upd_same, by rw [List.take_zero]; exact .nil⟩ (fun i out H' _ ⟨sm, _, _⟩ => .of (sm _ _ hys2)) (fun out H7 ⟨s7, hD7, po⟩ => ?_) (fun i y out H' hy ⟨sm, hD', po⟩ => ?_)
      · rw [lys, show rws.length = (rws.map fun r => triW (wordsOf r)).length by rw [List.length_map], List.take_length] at po
        exact rg D H7 (s1.trans (s2.trans s7)) (s1.free (s2.free hD)) ⟨out, hD7, paired_imp (fun y m ⟨a, e, _, q⟩ => by subst e; exact sq_tri (.of q)) po⟩
      · obtain ⟨r, hr0, a, rfl, ha⟩ := paired_at py i hy
        have ol : out.length = i := by
          have := Paired.length po
          have hi := (List.getElem?_eq_some_iff.mp hy).1
          rw [List.length_take, List.length_map] at this
          omega
        have g := List.all_eq_true.mp ag r (List.mem_of_getElem? hr0)
        have ha2 := sm _ _ (s2 _ _ ha)
        refine ⟨_, rfl, rfl, fun Nx hN => yesT ?_⟩
        refine ⟨_, rfl, a, _, rfl, .inl ⟨.of ha2, fun p hp => ⟨out, Same.new hp _ _ hD', ?_, hN _ _ ⟨same_but' (sm.trans (Same.new hp)) hD, upd_same, ?_⟩⟩⟩⟩
        · have hi := (List.getElem?_eq_some_iff.mp hy).1
          omega
        have pD : p ≠ D := (ne_of_none hD' hp).symm
        rw [take_snoc (x := triW (wordsOf r)) (by rw [List.getElem?_map, hr0]; rfl)]
        refine paired_snoc (paired_imp ?_ po) ⟨p, rfl, pD, ?_⟩
        · rintro y r ⟨a, e, n, q⟩
          refine ⟨a, e, n, ?_⟩
          rw [upd_ne n]
          exact Same.new hp _ _ q
        · rw [upd_ne pD, upd_same, good_tri g]
end
end Ev
set_option Elab.async false
set_option linter.all false
set_option maxRecDepth 100000
namespace Ev
open PySem L2
/-- the classes of the refusals -/
structure Refs (K : PySem.W.Frag) (mg : Str → Option Value) (CT CE : Addr) (c : Nat → Addr) : Prop where
  n : Ref K mg "NoText" CT
  e : mg "EvenError" = some (.ref CE)
  m0 : mg "NoGoods" = some (.ref (c 0))
  m1 : mg "NoHand" = some (.ref (c 1))
  m2 : mg "NoMove" = some (.ref (c 2))
  m3 : mg "NoPiece" = some (.ref (c 3))
  m4 : mg "NoStand" = some (.ref (c 4))
  m5 : mg "NoWeb" = some (.ref (c 5))
  k : ExcK K CT
  kt : PySem.W.exmOne K (.ref CT) (.ref CT) = some true
  ke : PySem.W.kitOne K (.ref CT) (.ref CE) = some true
  kv : PySem.W.kitOne K (.ref CT) (.type "ValueError") = some true
  k6 : PySem.W.kitAny K (.ref CT) [.ref (c 0), .ref (c 1), .ref (c 2), .ref (c 3), .ref (c 4), .ref (c 5)] = some false
abbrev t6 (c : Nat → Addr) : TA := (tCons (tC (.ref (c 0))) (tCons (tC (.ref (c 1))) (tCons (tC (.ref (c 2))) (tCons (tC (.ref (c 3))) (tCons (tC (.ref (c 4))) (tCons (tC (.ref (c 5))) tNil))))))
abbrev tSuite (K : PySem.W.Frag) (CE : Addr) (c : Nat → Addr) : TS := tSeq (tAsg (tOrV (tCB (rIsiT K) (tCons (tVar 2) (tCons (tTup (t6 c)) tNil))) (tNotV (tCB (rIsiE K) (tCons (tVar 2) (tCons (tC (.ty "ValueError")) tNil))))) (gName 3))
  (tIfS (tOr (tB (tVar 3)) (tNot (tB (tCB (rIsiE K) (tCons (tVar 2) (tCons (tC (.ref CE)) tNil)))))) (tAsg (tC (.str "other")) (gName 1)) tNext)
def FdAt (K : PySem.W.Frag) (H H' : Hp) (r : V) : Option (List Tri) → Prop
  | some ms => ∃ l, r = .ref l ∧ H l = none ∧ MvAt K H' l ms
  | none => r = .str "refused"
section
variable {P : Program} {w : World} {K : PySem.W.Frag} {mg : Str → Option Value} {base : Heap}
theorem scFound : FnScope ["_law_text", "_law_found_here", "e", "_law_other"] ["_law_text"] (defScope sFound) := ⟨rfl, rfl, rfl, by decide +kernel, rfl, by decide +kernel, by decide +kernel⟩
def spFound (K : PySem.W.Frag) : Sp := fun vs H Q _ => ∃ v x, vs = [v] ∧ StrV K H v x ∧ (∀ y, x = some y → y.length ≤ 50000) ∧ ∀ r H', Same H H' → FdAt K H H' r (rdO x) → Q r H'
set_option maxHeartbeats 1600000 in
theorem ok_found {f CT CE : Addr} {c : Nat → Addr} {fd : FuncData} (F : Fun K "_law_found" "_law_found" sFound f fd) (B : Bi mg) (R : Refs K mg CT CE c) (cR : CalF P w K mg base 2 "read_moves" ["text"] (spRead K CT)) : FnOk P w K mg base CX0 3 f fd ["_law_text"] (spFound K) := by
  refine F.ok scFound (fun vs H Q E h => ?_) (fun cdv A outer s H vs Q E hr h => ?_)
  · obtain ⟨v, x, rfl, _⟩ := h
    rfl
  · obtain ⟨v, x, rfl, sv, hb, k⟩ := h
    obtain ⟨fr, fdr, Fr, mr, kr, br⟩ := cR.ex
    refine' ⟨_, ?r0, ?kk⟩
    case' r0 => refine' pss_cons ?s1 ?r1
    case' r1 => refine' pss_cons ?s2 ?s3
    case s1 => exact ps_set (i := 1) scFound.nd rfl (Or.inl rfl) pe_str
    case' s2 => refine' ps_try (i := 2) (C := CT) (ts := tSuite K CE c) scFound.nd rfl rfl rfl rfl (by rfl) R.n.mg R.kt ?hb (fun a => ?hs)
    case hb => exact pssx_one (psx_set (i := 1) scFound.nd rfl (Or.inl rfl) (pex_call Fr hr (by rfl) mr kr br .nil (pa_cons (pv 0) pa_nil)))
    case' hs => refine' pss_cons ?h1 ?q1
    case' q1 => refine' pss_one ?h2
    case h1 => exact ps_set (i := 3) scFound.nd rfl (Or.inl rfl) (pe_or (pe_callB (callK (K := K) rIsiT call_isiT) (by rfl) B.isi PyProof.Rows.Boot.«isinstance» (pa_cons (pv 2) (pa_cons (pe_tup (pa_cons (pe_glob (v := .ref (c 0)) (by rfl) R.m0 rfl) (pa_cons (pe_glob (v := .ref (c 1)) (by rfl) R.m1 rfl) (pa_cons (pe_glob (v := .ref (c 2)) (by rfl) R.m2 rfl) (pa_cons (pe_glob (v := .ref (c 3)) (by rfl) R.m3 rfl) (pa_cons (pe_glob (v := .ref (c 4)) (by rfl) R.m4 rfl) (pa_cons (pe_glob (v := .ref (c 5)) (by rfl) R.m5 rfl) pa_nil))))))) pa_nil))) (pe_one (pe_not (pe_callB (callK (K := K) rIsiE call_isiE) (by rfl) B.isi PyProof.Rows.Boot.«isinstance» (pa_cons (pv 2) (pa_cons (pe_bltn (v := .ty "ValueError") (by rfl) B.val PyProof.Rows.Boot.«ValueError» rfl) pa_nil))))))
    first | (case h2 => exact ps_if (pw_or (pt_val (pv 3)) (pw_or1 (pt_not (pt_val (pe_callB (callK (K := K) rIsiE call_isiE) (by rfl) B.isi PyProof.Rows.Boot.«isinstance» (pa_cons (pv 2) (pa_cons (pe_glob (v := .ref CE) (by rfl) R.e rfl) pa_nil))))))).pt (pss_one (ps_set (i := 1) scFound.nd rfl (Or.inl rfl) pe_str)) pss_nil) | (case q1 => exact ps_if (pw_or (pt_val (pv 3)) (pw_or1 (pt_not (pt_val (pe_callB (callK (K := K) rIsiE call_isiE) (by rfl) B.isi PyProof.Rows.Boot.«isinstance» (pa_cons (pv 2) (pa_cons (pe_glob (v := .ref CE) (by rfl) R.e rfl) pa_nil))))))).pt (pss_one (ps_set (i := 1) scFound.nd rfl (Or.inl rfl) pe_str)) pss_nil)
    case s3 => exact pss_one (ps_ret (pv 1))
    case' kk => skip
    refine ⟨_, rfl, v, x, rfl, sv, hb, fun ms em l H1 s1 fl mv => ⟨_, rfl, k _ _ s1 ?_⟩, fun en H1 s1 => ⟨rfl, fun a ha => ?_⟩⟩
    · rw [em]
      exact ⟨l, rfl, fl, mv⟩
    have s2 := Same.new (o := exo a (.ref CT)) ha
    have he : upd H1 a (exo a (.ref CT)) a = some (exo a (.ref CT)) := upd_same
    refine ⟨_, rfl, by show 6 ≤ sizeLine; decide, fun t ht => ?_⟩
    have s3 := Same.new (o := .tup [.ref (c 0), .ref (c 1), .ref (c 2), .ref (c 3), .ref (c 4), .ref (c 5)]) ht
    refine ⟨a, t, CT, _, [.ref (c 0), .ref (c 1), .ref (c 2), .ref (c 3), .ref (c 4), .ref (c 5)], false, rfl, upd_same, rfl, s3 _ _ he, R.k, R.k6, _, rfl, iteF ?_⟩
    refine ⟨_, rfl, a, CT, _, _, true, rfl, rfl, s3 _ _ he, R.k, R.kv, _, rfl, ?_⟩
    refine ⟨_, rfl, _, rfl, iteF ?_⟩
    refine ⟨_, rfl, a, CT, _, _, true, rfl, rfl, s3 _ _ he, R.k, R.ke, _, rfl, iteF ?_⟩
    refine ⟨_, rfl, k _ _ (s1.trans (s2.trans s3)) ?_⟩
    rw [en]
    rfl
end
end Ev
set_option Elab.async false
set_option linter.all false
set_option maxRecDepth 100000
namespace Ev
open PySem L2
def DueI (H : Hp) (p rl : Addr) (rws : List Str) (i : Nat) (H2 : Hp) : Prop := Same H H2 ∧ H2 rl = some (.lst (rws.map V.str)) ∧ ∃ ys, H2 p = some (.lst ys) ∧ Paired (fun y m => ∃ a, y = .ref a ∧ a ≠ p ∧ H2 a = some (.tup ((triL m).map V.str))) ys ((rws.take i).map fun r => triW (wordsOf r))
theorem DueI.same {H H2 H3 : Hp} {p rl : Addr} {rws : List Str} {i : Nat} (h : DueI H p rl rws i H2) (s : Same H2 H3) : DueI H p rl rws i H3 := by
  obtain ⟨a, b, ys, c, d⟩ := h
  refine ⟨a.trans s, s _ _ b, ys, s _ _ c, paired_imp ?_ d⟩
  rintro y m ⟨a, e, n, q⟩
  exact ⟨a, e, n, s _ _ q⟩
theorem DueI.put {H H2 : Hp} {p rl tp : Addr} {rws : List Str} {i : Nat} {r : Str} (h : DueI H p rl rws i H2) (fp : H p = none) (np : rl ≠ p) (hr : rws[i]? = some r) (g : goodW (wordsOf r) = true) (n : tp ≠ p) (ht : H2 tp = some (.tup ((wordsOf r).map V.str))) {ys : List V} (hp : H2 p = some (.lst ys)) :
    DueI H p rl rws (i + 1) (upd H2 p (.lst (ys ++ [.ref tp]))) := by
  obtain ⟨a, b, ys', c, d⟩ := h
  rw [hp] at c
  cases c
  refine ⟨same_but' a fp, by rw [upd_ne np]; exact b, _, upd_same, ?_⟩
  rw [take_snoc hr, List.map_append]
  refine paired_snoc (paired_imp ?_ d) ⟨tp, rfl, n, ?_⟩
  · rintro y m ⟨a, e, n, q⟩
    exact ⟨a, e, n, by rw [upd_ne n]; exact q⟩
  · rw [upd_ne n, ht, good_tri g]
theorem strs_rep {H : Hp} : ∀ ns : List Str, Paired (rS H) (ns.map V.str) ns
  | [] => .nil
  | _ :: ns => .cons rfl (strs_rep ns)
theorem filt_nil (l : List Nat) {i : Decidable ((l.filter (fun c => !okc c)).map (fun c => (⟨#[c]⟩ : Str)) = [])} : (!(@decide _ i)) = !(l.all okc) := by
  congr 1
  cases h : l.all okc with
  | true =>
    refine @decide_eq_true _ i ?_
    rw [List.map_eq_nil_iff, List.filter_eq_nil_iff]
    exact fun c hc => by rw [List.all_eq_true.mp h c hc]; decide
  | false =>
    refine @decide_eq_false _ i fun z => ?_
    rw [List.map_eq_nil_iff, List.filter_eq_nil_iff] at z
    have : l.all okc = true := List.all_eq_true.mpr fun c hc => by simpa using z c hc
    rw [h] at this
    cases this
section
variable {P : Program} {w : World} {K : PySem.W.Frag} {mg : Str → Option Value} {base : Heap}
theorem scDue : FnScope ["_law_text", "_law_found_here", "_law_row", "_law_words"] ["_law_text"] (defScope sDue) := ⟨rfl, rfl, rfl, by decide +kernel, rfl, by decide +kernel, by decide +kernel⟩
def spDue (K : PySem.W.Frag) : Sp := fun vs H Q _ => ∃ t, vs = [.str t] ∧ t.length ≤ 50000 ∧ ∀ r H', Same H H' → FdAt K H H' r (rd t) → Q r H'
set_option maxHeartbeats 3200000 in
theorem ok_due {f : Addr} {fd : FuncData} (F : Fun K "_law_due" "_law_due" sDue f fd) (B : Bi mg) : FnOk P w K mg base CX0 1 f fd ["_law_text"] (spDue K) := by
  refine F.ok scDue (fun vs H Q E h => ?_) (fun cdv A outer s H vs Q E hr h => ?_)
  · obtain ⟨t, rfl, _⟩ := h
    rfl
  · obtain ⟨t, rfl, tl, k⟩ := h
    have sz := sizeLine_eq
    refine' ⟨_, ?r0, ?kk⟩
    case' r0 => refine' pss_cons ?s1 ?r1
    case' r1 => refine' pss_cons ?s2 ?r2
    case' r2 => refine' pss_cons ?s3 ?s4
    case s1 => exact ps_set (i := 1) scDue.nd rfl (Or.inl rfl) (pe_lst pa_nil)
    case s2 => exact ps_if (pt_cmpR op_eq (pv 0) pe_str (nomark _)) (pss_one (ps_ret (pv 1))) pss_nil
    case' s3 => refine' ps_for PassesOwn.never rfl ?i1 (pg_name (i := 2) scDue.nd rfl (Or.inl rfl)) (pss_cons ?b1 ?q1)
    case i1 => exact pi_list (pe_bm PySem.F.plainAttrs_str PySem.F.slot_str_split PySem.F.type_str_split mt_splitB (pv 0) (pa_cons pe_str pa_nil))
    case b1 => exact ps_set (i := 3) scDue.nd rfl (Or.inl rfl) (pe_bm PySem.F.plainAttrs_str PySem.F.slot_str_split PySem.F.type_str_split mt_splitB (pv 2) (pa_cons pe_str pa_nil))
    case' q1 => refine' pss_cons ?b2 ?q2
    case' q2 => refine' pss_cons ?b3 ?q3
    case q3 => exact pss_one (ps_expr (pe_bm PySem.F.plainAttrs_list PySem.F.slot_list_append PySem.F.type_list_append mt_append (pv 1) (pa_cons (pe_callTy (cTupOf (K := K)) (by rfl) B.tuple PyProof.Rows.Boot.«tuple» (pa_cons (pv 3) pa_nil)) pa_nil)))
    case' b2 => refine' ps_if ?t1 (pss_one (ps_ret pe_str)) pss_nil
    case' t1 => refine' (pw_or ?t3 (pw_or1 ?t4)).pt
    case t3 => exact pt_cmpR op_ne (pe_callB call_len_seq (by rfl) B.len PySem.boot_len (pa_cons (pv 3) pa_nil)) pe_int (nomark _)
    case' t4 => refine' pt_not (pt_val ?t5)
    case' t5 => refine' pe_callB (call_all rfl) (by rfl) B.all PyProof.Rows.Boot.«all» (pa_cons ?t6 pa_nil)
    case' t6 => refine' pe_comp ["_law_word"] 1 [] ?d1 ?d2 ?d3 ?d4
    case d1 => exact pi_list (pv 3)
    case d2 => exact fun fp s H => pg_name (i := 0) (show (["_law_word"] : List Str).Nodup by decide +kernel) rfl (Or.inl rfl)
    case d3 => exact fun fp s H => pts_nil
    case d4 => exact fun fp s H => pe_chain op_le op_le pe_int (pe_callB call_len_str (by rfl) B.len PySem.boot_len (pa_cons (pv 0) pa_nil)) pe_int
    case' b3 => refine' ps_if (pt_cmpR (op_neL cmpS (roomU hr 0)) ?u1 (pe_lst pa_nil) (nomark _)) (pss_one (ps_ret pe_str)) pss_nil
    case' u1 => refine' pe_comp ["_law_sign"] 1 [] ?e1 ?e2 ?e3 ?e4
    case e1 => exact pi_str (pe_bm PySem.F.plainAttrs_str PySem.F.slot_str_join PySem.F.type_str_join mt_join pe_str (pa_cons (pv 3) pa_nil))
    case e2 => exact fun fp s H => pg_name (i := 0) (show (["_law_sign"] : List Str).Nodup by decide +kernel) rfl (Or.inl rfl)
    case e3 => exact fun fp s H => pts_one (pt_cmpR op_notin_str (pv 0) pe_str (by with_unfolding_all rfl))
    case e4 => exact fun fp s H => pv 0
    case s4 => exact pss_one (ps_ret (pv 1))
    case' kk => skip
    refine ⟨Nat.zero_le _, fun p hp => ?_⟩
    have s0 := Same.new (o := .lst []) hp
    have hp0 : upd H p (.lst []) p = some (.lst []) := upd_same
    generalize upd H p (.lst []) = H0 at s0 hp0 ⊢
    refine ⟨_, rfl, rfl, _, rfl, ?_⟩
    rw [deqS]
    refine ite2 (fun c => ?_) (fun c => ?_)
    · have c : t = "" := by simpa using c
      refine ⟨_, rfl, k _ _ s0 ?_⟩
      rw [c, rd_empty]
      exact ⟨p, rfl, hp, [], hp0, .nil⟩
    have tne : t ≠ "" := by simpa using c
    have rb : ∀ r ∈ rowsOf t, goodW (wordsOf r) = false → ∀ H', Same H H' → Q (.str "refused") H' := fun r hr g H' s' => k _ _ s' (by rw [rd_bad tne hr g]; rfl)
    have rg : (rowsOf t).all (fun r => goodW (wordsOf r)) = true → ∀ l H', Same H H' → H l = none → MvAt K H' l ((rowsOf t).map fun r => triW (wordsOf r)) → Q (.ref l) H' := fun g l H' s' fl mv => k _ _ s' (by rw [rd_good tne g]; exact ⟨l, rfl, fl, mv⟩)
    have rl := rows_le t
    have rm : ∀ r ∈ rowsOf t, r.length ≤ t.length := fun r hr => row_len hr
    refine ⟨_, rfl, rfl, t, "\n", 10, rfl, rfl, nl_eq, tl, fun wl hwl => ?_⟩
    have s1 := Same.new (o := .lst ((rowsOf t).map V.str)) hwl
    have hw : upd H0 wl (.lst ((rowsOf t).map V.str)) wl = some (.lst ((rowsOf t).map V.str)) := upd_same
    unfold rowsOf at rb rg rl rm s1 hw
    generalize Txt.split t "\n" = rws at rb rg rl rm s1 hw ⊢
    have wp : wl ≠ p := (ne_of_none hp0 hwl).symm
    have J0 : DueI H p wl rws 0 (upd H0 wl (.lst (rws.map V.str))) := ⟨s0.trans s1, hw, [], s1 _ _ hp0, by rw [List.take_zero]; exact .nil⟩
    generalize upd H0 wl (.lst (rws.map V.str)) = H1 at J0 hw ⊢
    refine ⟨wl, rfl, ⟨_, .of hw⟩, for_list (K := K) (a := wl) (xs := rws.map V.str) (fun i σ H2 => ∃ v2 v3, σ = [some (.str t), some (.ref p), v2, v3] ∧ DueI H p wl rws i H2 ∧ (rws.take i).all (fun r => goodW (wordsOf r)) = true) ⟨none, none, rfl, J0, by simp⟩ (fun i σ H2 _ ⟨_, _, _, J, _⟩ => .of J.2.1) ?_ ?_⟩
    · rintro i y σ H2 hy ⟨v2, v3, rfl, J, ag⟩
      have hi := (List.getElem?_eq_some_iff.mp hy).1
      rw [List.length_map] at hi
      rw [List.getElem?_map] at hy
      obtain ⟨r, hr0, rfl⟩ := Option.map_eq_some_iff.mp hy
      have rmem := List.mem_of_getElem? hr0
      have hrl := rm r rmem
      have wle := words_le r
      have wm : ∀ x ∈ wordsOf r, x.length ≤ r.length := fun x hx => word_len hx
      have wsum := words_sum r
      have bad := rb r rmem
      have next : goodW (wordsOf r) = true → (rws.take (i + 1)).all (fun r => goodW (wordsOf r)) = true := fun g => by
        rw [take_snoc hr0, List.all_append, ag, Bool.true_and, List.all_cons, List.all_nil, Bool.and_true]
        exact g
      have put : ∀ (H3 : Hp) (tp : Addr) (ys : List V), DueI H p wl rws i H3 → tp ≠ p → H3 tp = some (.tup ((wordsOf r).map V.str)) → H3 p = some (.lst ys) → goodW (wordsOf r) = true → DueI H p wl rws (i + 1) (upd H3 p (.lst (ys ++ [.ref tp]))) := fun H3 tp ys J3 n ht hp3 g => J3.put hp wp hr0 g n ht hp3
      refine ⟨_, rfl, rfl, r, " ", 32, rfl, rfl, bl_eq, by omega, fun a ha => ?_⟩
      have ha2 : upd H2 a (.lst ((wordsOf r).map V.str)) a = some (.lst ((wordsOf r).map V.str)) := upd_same
      have J2 := J.same (Same.new (o := .lst ((wordsOf r).map V.str)) ha)
      unfold goodW at bad next put
      unfold wordsOf at ha2 wle wm wsum bad next put J2
      generalize Txt.split r " " = ws at ha2 wle wm wsum bad next put J2 ⊢
      generalize upd H2 a (.lst (ws.map V.str)) = H3 at ha2 J2 ⊢
      refine ⟨_, rfl, a, _, rfl, .inl (.of ha2), rfl, _, rfl, ?_⟩
      refine ite2 (fun c => ?_) (fun c => ?_)
      · have c : ws.length ≠ 3 := by
          intro e
          rw [List.length_map, e] at c
          simp at c
        exact bad (by rw [decide_eq_false c, Bool.false_and]) _ J2.1
      have c : ws.length = 3 := by
        refine Classical.byContradiction fun e => c ?_
        rw [List.length_map]
        have : ¬ ((ws.length : Int) = 3) := by omega
        simp [this]
      rw [decide_eq_true c, Bool.true_and, looks] at bad next put
      refine ⟨_, rfl, a, rfl, ⟨_, .of ha2⟩, fun D hD => ?_⟩
      refine comp_list (own := 1) (fv := []) (xs := ws.map V.str) rfl gok1 (fun i out H' => Same H3 H' ∧ H' D = some (.lst out) ∧ out = ((ws.take i).map lenB).map V.bl) ⟨Same.new hD, upd_same, by simp⟩ (fun i out H' _ ⟨sm, _, _⟩ => .of (sm _ _ ha2)) (fun out H7 ⟨s7, hD7, eo⟩ => ?_) (fun i y out H' hy ⟨sm, hD', eo⟩ => ?_)
      rotate_left 1
      · have hi := (List.getElem?_eq_some_iff.mp hy).1
        rw [List.length_map] at hi
        rw [List.getElem?_map] at hy
        obtain ⟨x, hx, rfl⟩ := Option.map_eq_some_iff.mp hy
        have xl := wm x (List.mem_of_getElem? hx)
        refine ⟨_, rfl, rfl, fun Nx hN => yesT ?_⟩
        have nx : Nx (upd H' D (.lst (out ++ [V.bl (lenB x)]))) := hN (out ++ [V.bl (lenB x)]) _ ⟨same_but' sm hD, upd_same, by
          rw [take_snoc hx, eo, List.map_append, List.map_append]
          rfl⟩
        have lo : out.length < sizeLine := by
          rw [eo, List.length_map, List.length_map, List.length_take]
          omega
        refine ⟨_, rfl, x, rfl, by omega, _, _, rfl, rfl, _, rfl, ?_⟩
        refine ite2 (fun c2 => ?_) (fun c2 => ?_)
        · have c3 : 1 ≤ x.length := by
            have : (1 : Int) ≤ (x.length : Int) := by simpa using c2
            omega
          refine ⟨_, _, rfl, rfl, out, hD', lo, ?_⟩
          have e : lenB x = decide ((x.length : Int) ≤ 8) := by
            unfold lenB
            rw [decide_eq_true c3, Bool.true_and]
            by_cases z : x.length ≤ 8
            · rw [decide_eq_true z, decide_eq_true (by omega)]
            · rw [decide_eq_false z, decide_eq_false (by omega)]
          rwa [e] at nx
        · refine ⟨out, hD', lo, ?_⟩
          have c3 : ¬ 1 ≤ x.length := by
            have : ¬ ((1 : Int) ≤ (x.length : Int)) := by simpa using c2
            omega
          rwa [show lenB x = false by unfold lenB; rw [decide_eq_false c3, Bool.false_and]] at nx
      rw [List.length_map, List.take_length] at eo
      subst eo
      refine ⟨D, _, rfl, .of hD7, ws.all lenB, congrArg V.bl (show (ws.map lenB).all id = ws.all lenB by rw [List.all_map]; rfl), ?_⟩
      cases g : ws.all lenB with
      | false =>
        rw [g, Bool.false_and] at bad
        exact iteT (bad rfl _ (J2.1.trans s7))
      | true =>
        rw [g, Bool.true_and] at bad next put
        refine iteF ?_
        have ha7 := s7 _ _ ha2
        have J7 := J2.same s7
        refine ⟨rfl, _, rfl, "", a, ws, rfl, rfl, .of ha7, by rw [em_len]; omega, ?_⟩
        have jl : (Txt.join "" ws).length ≤ 60000 := by
          have := jlen "" ws
          rw [em_len] at this
          omega
        have jz : (Txt.join "" ws).length = (Txt.join "" ws).cps.size := rfl
        generalize Txt.join "" ws = jn at bad next put jl jz ⊢
        refine ⟨jn, rfl, fun D2 hD2 => ?_⟩
        refine comp_it (own := 1) (fv := []) rfl gok1 jn.cps.size (fun i out H' => H' = upd H7 D2 (.lst out) ∧ out = (((jn.cps.toList.take i).filter (fun c => !okc c)).map (fun c => (⟨#[c]⟩ : Str))).map V.str) ⟨rfl, by simp⟩ (fun out H' ⟨e1, e2⟩ => ?_) (fun i out H' hi ⟨e1, e2⟩ => ?_)
        rotate_left 1
        · refine ⟨hi, fun v H8 y => ?_⟩
          obtain ⟨eH, ch, hc, rfl⟩ := y
          subst eH
          refine ⟨_, rfl, rfl, fun Nx hN => ?_⟩
          have hc' : jn.cps.toList[i]? = some ch := by rw [Array.getElem?_toList]; exact hc
          refine ⟨_, rfl, _, _, rfl, rfl, !okc ch, congrArg V.bl (abc_notin ch), ?_⟩
          cases ok : okc ch with
          | true =>
            refine iteF (hN out _ ⟨e1, ?_⟩)
            rw [e2, take_snoc hc', List.filter_append]
            simp [ok]
          | false =>
            refine iteT ⟨_, rfl, out, by rw [e1, upd_same], ?_, hN _ _ ⟨by rw [e1, upd_upd], ?_⟩⟩
            · have : (((jn.cps.toList.take i).filter (fun c => !okc c)).map (fun c => (⟨#[c]⟩ : Str))).length ≤ jn.cps.size := by
                rw [List.length_map]
                refine Nat.le_trans (List.length_filter_le _ _) ?_
                rw [List.length_take, Array.length_toList]
                omega
              rw [e2, List.length_map]
              omega
            · rw [e2, take_snoc hc', List.filter_append, List.map_append, List.map_append]
              simp [ok]
        refine ⟨Nat.le_refl _, ?_⟩
        rw [List.take_of_length_le (by rw [Array.length_toList]; exact Nat.le_refl _)] at e2
        subst e1
        have hD8 : upd H7 D2 (.lst out) D2 = some (.lst out) := upd_same
        have s8 := Same.new (o := .lst out) hD2
        have J8 := J7.same s8
        have ha8 := s8 _ _ ha7
        generalize upd H7 D2 (.lst out) = H8 at hD8 s8 J8 ha8 ⊢
        refine ⟨Nat.zero_le _, fun q hq => ?_⟩
        have s9 := Same.new (o := .lst []) hq
        have J9 := J8.same s9
        have ha9 := s9 _ _ ha8
        refine ⟨(jn.cps.toList.filter (fun c => !okc c)).map (fun c => (⟨#[c]⟩ : Str)), [], ⟨D2, _, rfl, .of (s9 _ _ hD8), by rw [e2]; exact strs_rep _⟩, ⟨q, [], rfl, .of upd_same, .nil⟩, !(jn.cps.toList.all okc), congrArg V.bl (filt_nil _), ?_⟩
        cases g2 : jn.cps.toList.all okc with
        | false => exact iteT (bad g2 _ J9.1)
        | true =>
          refine iteF ?_
          obtain ⟨_, _, ys, hys, py⟩ := id J9
          have yl : ys.length ≤ rws.length := by
            have := Paired.length py
            rw [List.length_map, List.length_take] at this
            omega
          refine ⟨_, rfl, .inl ⟨rfl, _, .of hys⟩, _, rfl, a, _, rfl, .inl ⟨.of ha9, fun tp htp => ?_⟩⟩
          have s10 := Same.new (o := .tup (ws.map V.str)) htp
          refine ⟨p, _, _, rfl, rfl, s10 _ _ hys, by omega, ?_⟩
          exact ⟨_, _, rfl, put _ tp ys (J9.same s10) (ne_of_none hys htp).symm upd_same (s10 _ _ hys) g2, next g2⟩
    · rintro σ H2 ⟨v2, v3, rfl, J, ag⟩
      rw [List.length_map, List.take_length] at ag
      obtain ⟨sH, _, ys, hys, py⟩ := J
      rw [List.length_map, List.take_length] at py
      exact ⟨_, rfl, rg ag p H2 sH hp ⟨ys, hys, paired_imp (fun y m ⟨a, e, _, q⟩ => by subst e; exact sq_tri (.of q)) py⟩⟩
end
end Ev
set_option Elab.async false
set_option linter.all false
set_option maxRecDepth 100000
namespace Ev
open PySem L2
theorem abc_len : ("abcdefghijklmnopqrstuvwxyz" : Str).length = 26 ∧ ("abcdefghijklmnopqrstuvwxyz" : Str).cps.toList.length = 26 := by decide +kernel
theorem abc_ok : ∀ c ∈ ("abcdefghijklmnopqrstuvwxyz" : Str).cps.toList, okc c = true := by decide +kernel
theorem len_list (x : Str) : x.cps.toList.length = x.length := by rw [Array.length_toList]; rfl
theorem len_app (x y : Str) : (x ++ y).length = x.length + y.length := by
  rw [← len_list, app_l, List.length_append, len_list, len_list]
def signsS : Str := " !\"#$&'()*+,-./0123456789:;<=>?@ABCDEFGHIJKLMNOPQRSTUVWXYZ[\\]^_`abcdefghijklmnopqrstuvwxyz{|}~"
theorem signs_len : signsS.length = 94 ∧ signsS.cps.toList.length = 94 := by decide +kernel
section
variable {P : Program} {w : World} {K : PySem.W.Frag} {mg : Str → Option Value} {base : Heap}
theorem scLName : FnScope ["_law_state", "_law_word", "_law_j"] ["_law_state"] (defScope sLName) := ⟨rfl, rfl, rfl, by decide +kernel, rfl, by decide +kernel, by decide +kernel⟩
def spLName : Sp := fun vs H Q _ => ∃ l : Addr, vs = [.ref l] ∧ stt H l ∧ ∀ (x : Str) H', But l H H' → stt H' l → nameB x = true → Q (.str x) H'
set_option maxHeartbeats 1600000 in
theorem ok_lname {f : Addr} {fd : FuncData} (F : Fun K "_law_name" "_law_name" sLName f fd) (B : Bi mg) (cD : Cal P w K mg base 1 "_law_digit" ["_law_state", "_law_base"] spDigit) : FnOk P w K mg base CX0 2 f fd ["_law_state"] spLName := by
  refine F.ok scLName (fun vs H Q E h => ?_) (fun cdv A outer s H vs Q E hr h => ?_)
  · obtain ⟨l, rfl, _⟩ := h
    rfl
  · obtain ⟨l, rfl, st, k⟩ := h
    have sz := sizeLine_eq
    refine' ⟨_, ?r0, ?kk⟩
    case' r0 => refine' pss_cons ?s1 ?r1
    case' r1 => refine' pss_cons ?s2 ?s3
    case s1 => exact ps_set (i := 1) scLName.nd rfl (Or.inl rfl) pe_str
    case' s2 => refine' ps_for PassesOwn.never rfl ?i1 (pg_name (i := 2) scLName.nd rfl (Or.inl rfl)) (pss_one ?b1)
    case i1 => exact pi_range1 (by rfl) B.range (pa_cons (pe_ix ix_list (pe_lst (pa_cons pe_int (pa_cons pe_int (pa_cons pe_int (pa_cons (pe_op op_add pe_int (pe_fn cD hr (pa_cons (pv 0) (pa_cons pe_int pa_nil)))) pa_nil))))) (pe_fn cD hr (pa_cons (pv 0) (pa_cons pe_int pa_nil))) (fun _ _ => rfl)) pa_nil)
    case b1 => exact ps_set (i := 1) scLName.nd rfl (Or.inl rfl) (pe_op op_add_str (pv 1) (pe_ix ix_str pe_str (pe_fn cD hr (pa_cons (pv 0) (pa_cons pe_int pa_nil))) (fun _ _ => rfl)))
    case s3 => exact pss_one (ps_ret (pv 1))
    case' kk => skip
    refine ⟨_, rfl, l, 8, rfl, by decide, by decide, st, fun r H1 r0 r8 b1 st1 => ⟨_, _, rfl, rfl, by show 4 ≤ sizeLine; decide, fun p hp => ?_⟩⟩
    have pl := st1.ne hp
    have st2 := st1.same (Same.new (o := .lst [.int 1, .int 2, .int 8, .int (1 + r)]) hp)
    refine ⟨_, rfl, l, 4, rfl, by decide, by decide, st2, fun q H3 q0 q4 b3 st3 => ?_⟩
    have hp3 := b3 p (.lst [.int 1, .int 2, .int 8, .int (1 + r)]) upd_same pl
    have B3 : But l H H3 := b1.trans ((But.of (Same.new hp)).trans b3)
    obtain ⟨v, hv, n, rfl, n1, n8⟩ := hitL (p := fun v => ∃ n : Nat, v = V.int n ∧ 1 ≤ n ∧ n ≤ 8) (xs := [.int 1, .int 2, .int 8, .int (1 + r)]) (n := 4) rfl q0 q4 (fun v hv => by
      simp only [List.mem_cons, List.mem_nil_iff, or_false] at hv
      rcases hv with rfl | rfl | rfl | rfl
      · exact ⟨1, rfl, by decide, by decide⟩
      · exact ⟨2, rfl, by decide, by decide⟩
      · exact ⟨8, rfl, by decide, by decide⟩
      · exact ⟨(1 + r).toNat, by rw [Int.toNat_of_nonneg (by omega)], by omega, by omega⟩)
    refine ⟨p, _, _, _, rfl, rfl, .of hp3, hv, n, rfl, by omega, by omega, ?_⟩
    rw [Int.toNat_natCast]
    refine for_range (lo := 0) (n := n) (fun i σ H4 => ∃ (x : Str) (v2 : Option V), σ = [some (.ref l), some (.str x), v2] ∧ But l H H4 ∧ stt H4 l ∧ x.length = i ∧ x.cps.toList.all okc = true) ⟨"", none, rfl, B3, st3, em_len, by decide +kernel⟩ ?_ ?_
    · rintro i σ H4 hi ⟨x, v2, rfl, b4, st4, xl, xo⟩
      refine ⟨_, rfl, _, rfl, l, 26, rfl, by decide, by decide, st4, fun c H5 c0 c26 b5 st5 => ?_⟩
      obtain ⟨ch, hch, oc⟩ := hitL (p := fun c => okc c = true) abc_len.2 c0 c26 abc_ok
      have lc : (⟨#[ch]⟩ : Str).length = 1 := rfl
      refine ⟨_, _, ch, rfl, rfl, by rw [abc_len.1]; decide, hch, _, _, rfl, rfl, by rw [lc]; omega, ?_⟩
      refine ⟨_, _, rfl, b4.trans b5, st5, by rw [len_app, lc, xl], ?_⟩
      rw [app_l, List.all_append, xo, Bool.true_and]
      show [ch].all okc = true
      simp [oc]
    · rintro σ H4 ⟨x, v2, rfl, b4, st4, xl, xo⟩
      refine ⟨_, rfl, k x H4 b4 st4 ?_⟩
      unfold nameB
      rw [decide_eq_true (by omega), decide_eq_true (by omega), xo]
      rfl
theorem scSpoiled : FnScope ["_law_state", "_law_text", "_law_signs", "_law_place", "_law_sign", "_law_some"] ["_law_state", "_law_text"] (defScope sSpoiled) := ⟨rfl, rfl, rfl, by decide +kernel, rfl, by decide +kernel, by decide +kernel⟩
def spSpoiled : Sp := fun vs H Q _ => ∃ (l : Addr) (t : Str), vs = [.ref l, .str t] ∧ t.length ≤ 10000 ∧ stt H l ∧ ∀ (x : Str) H', But l H H' → stt H' l → x.length ≤ 50000 → Q (.str x) H'
def ShortV (v : V) : Prop := ∃ x : Str, v = .str x ∧ x.length ≤ 50000
theorem short3 {a b c : Str} (ha : a.length ≤ 50000) (hb : b.length ≤ 50000) (hc : c.length ≤ 50000) : ∀ v ∈ [V.str a, V.str b, V.str c], ShortV v := fun v hv => by
  simp only [List.mem_cons, List.mem_nil_iff, or_false] at hv
  rcases hv with rfl | rfl | rfl
  · exact ⟨_, rfl, ha⟩
  · exact ⟨_, rfl, hb⟩
  · exact ⟨_, rfl, hc⟩
theorem lits : ("\na b c d" : Str).length = 8 ∧ ("\n\na b c" : Str).length = 7 ∧ (" a" : Str).length = 2 ∧ ("a b abcdefghi" : Str).length = 13 := by decide +kernel
set_option maxHeartbeats 1600000 in
theorem ok_spoiled {f : Addr} {fd : FuncData} (F : Fun K "_law_spoiled" "_law_spoiled" sSpoiled f fd) (B : Bi mg) (cD : Cal P w K mg base 1 "_law_digit" ["_law_state", "_law_base"] spDigit) : FnOk P w K mg base CX0 2 f fd ["_law_state", "_law_text"] spSpoiled := by
  refine F.ok scSpoiled (fun vs H Q E h => ?_) (fun cdv A outer s H vs Q E hr h => ?_)
  · obtain ⟨l, t, rfl, _⟩ := h
    rfl
  · obtain ⟨l, t, rfl, tl, st, k⟩ := h
    have sz := sizeLine_eq
    refine' ⟨_, ?r0, ?kk⟩
    case' r0 => refine' pss_cons ?s1 ?r1
    case' r1 => refine' pss_cons ?s2 ?r2
    case' r2 => refine' pss_cons ?s3 ?r3
    case' r3 => refine' pss_cons ?s4 ?r4
    case' r4 => refine' pss_cons ?s5 ?r5
    case' r5 => refine' pss_cons ?s6 ?s7
    case s1 => exact ps_set (i := 2) scSpoiled.nd rfl (Or.inl rfl) pe_str
    case s2 => exact ps_set (i := 3) scSpoiled.nd rfl (Or.inl rfl) (pe_fn cD hr (pa_cons (pv 0) (pa_cons (pe_op op_add (pe_callB call_len_str (by rfl) B.len PySem.boot_len (pa_cons (pv 1) pa_nil)) pe_int) pa_nil)))
    case s3 => exact ps_set (i := 4) scSpoiled.nd rfl (Or.inl rfl) (pe_ix ix_str (pv 2) (pe_fn cD hr (pa_cons (pv 0) (pa_cons pe_int pa_nil))) (fun _ _ => rfl))
    case' s4 => refine' ps_set (i := 5) scSpoiled.nd rfl (Or.inl rfl) ?a4
    case' a4 => refine' pe_lst ?a5
    first | (case' a5 => refine' pa_cons ?x1 (pa_cons ?x2 (pa_cons ?x3 pa_nil))) | (case' a4 => refine' pa_cons ?x1 (pa_cons ?x2 (pa_cons ?x3 pa_nil)))
    case x1 => exact pe_op op_add_str (pe_op op_add_str (pe_slice sl_str (pv 1) po_none (po_some (pv 3))) (pv 4)) (pe_slice sl_str (pv 1) (po_some (pv 3)) po_none)
    case x2 => exact pe_op op_add_str (pe_op op_add_str (pe_slice sl_str (pv 1) po_none (po_some (pv 3))) (pv 4)) (pe_slice sl_str (pv 1) (po_some (pe_op op_add (pv 3) pe_int)) po_none)
    case x3 => exact pe_op op_add_str (pe_slice sl_str (pv 1) po_none (po_some (pv 3))) (pe_slice sl_str (pv 1) (po_some (pe_op op_add (pv 3) pe_int)) po_none)
    case' s5 => refine' ps_set (i := 5) scSpoiled.nd rfl (Or.inl rfl) (pe_op op_cat (pv 5) (pe_lst (pa_cons ?y1 (pa_cons ?y2 (pa_cons ?y3 (pa_cons ?y4 (pa_cons pe_str (pa_cons ?y6 pa_nil))))))))
    case y1 => exact pe_op op_add_str (pv 1) pe_str
    case y2 => exact pe_op op_add_str pe_str (pv 1)
    case y3 => exact pe_op op_add_str (pv 1) pe_str
    case y4 => exact pe_op op_add_str (pv 1) pe_str
    case y6 => exact pe_slice sl_str (pv 1) po_none (po_some (pv 3))
    case' s6 => refine' ps_set (i := 5) scSpoiled.nd rfl (Or.inl rfl) (pe_op op_cat (pv 5) (pe_lst (pa_cons ?z1 (pa_cons ?z2 (pa_cons ?z3 pa_nil)))))
    case z1 => exact pe_op op_add_str (pe_op op_add_str (pe_slice sl_str (pv 1) po_none (po_some (pv 3))) pe_str) (pe_slice sl_str (pv 1) (po_some (pv 3)) po_none)
    case z2 => exact pe_op op_add_str (pe_op op_add_str (pe_slice sl_str (pv 1) po_none (po_some (pv 3))) pe_str) (pe_slice sl_str (pv 1) (po_some (pv 3)) po_none)
    case z3 => exact pe_op op_add_str (pv 1) pe_str
    case s7 => exact pss_one (ps_ret (pe_ix ix_list (pv 5) (pe_fn cD hr (pa_cons (pv 0) (pa_cons (pe_callB call_len_seq (by rfl) B.len PySem.boot_len (pa_cons (pv 5) pa_nil)) pa_nil))) (fun _ _ => rfl)))
    case' kk => skip
    refine ⟨_, rfl, _, rfl, t, rfl, by omega, _, _, rfl, rfl, l, (t.length : Int) + 1, rfl, by omega, by omega, st, fun at_ H1 a0 a1 b1 st1 => ?_⟩
    refine ⟨_, rfl, _, rfl, l, 94, rfl, by decide, by decide, st1, fun i H2 i0 i1 b2 st2 => ?_⟩
    obtain ⟨ch, hch, _⟩ := hitL (p := fun _ => True) signs_len.2 i0 i1 (fun _ _ => trivial)
    have lc : (⟨#[ch]⟩ : Str).length = 1 := rfl
    refine ⟨signsS, _, ch, rfl, rfl, by rw [signs_len.1]; decide, hch, ?_⟩
    generalize (⟨#[ch]⟩ : Str) = sg at lc ⊢
    have l1 := Txt.slice_le t none (some at_)
    have l2 := Txt.slice_le t (some at_) none
    have l3 := Txt.slice_le t (some (at_ + 1)) none
    obtain ⟨k1, k2, k3, k4⟩ := lits
    -- three of them
    refine ⟨_, rfl, _, rfl, _, rfl, t, rfl, by omega, _, rfl, _, _, rfl, rfl, by omega, ?_⟩
    refine ⟨_, rfl, _, rfl, _, rfl, t, rfl, by omega, _, _, rfl, rfl, by rw [len_app]; omega, ?_⟩
    refine ⟨_, rfl, _, rfl, _, rfl, t, rfl, by omega, _, rfl, _, _, rfl, rfl, by omega, ?_⟩
    refine ⟨_, rfl, _, rfl, _, _, rfl, rfl, _, rfl, t, rfl, by omega, _, _, rfl, rfl, by rw [len_app]; omega, ?_⟩
    refine ⟨_, rfl, _, rfl, _, rfl, t, rfl, by omega, ?_⟩
    refine ⟨_, rfl, _, rfl, _, _, rfl, rfl, _, rfl, t, rfl, by omega, _, _, rfl, rfl, by omega, ?_⟩
    refine ⟨by show 3 ≤ sizeLine; decide, fun p1 hp1 => ?_⟩
    have e1 := short3 (a := Txt.slice t none (some at_) ++ sg ++ Txt.slice t (some at_) none) (b := Txt.slice t none (some at_) ++ sg ++ Txt.slice t (some (at_ + 1)) none) (c := Txt.slice t none (some at_) ++ Txt.slice t (some (at_ + 1)) none) (by rw [len_app, len_app]; omega) (by rw [len_app, len_app]; omega) (by rw [len_app]; omega)
    have n1 : [V.str (Txt.slice t none (some at_) ++ sg ++ Txt.slice t (some at_) none), V.str (Txt.slice t none (some at_) ++ sg ++ Txt.slice t (some (at_ + 1)) none), V.str (Txt.slice t none (some at_) ++ Txt.slice t (some (at_ + 1)) none)].length = 3 := rfl
    show tSeq _ _ _ _ (upd H2 p1 (.lst [V.str (Txt.slice t none (some at_) ++ sg ++ Txt.slice t (some at_) none), V.str (Txt.slice t none (some at_) ++ sg ++ Txt.slice t (some (at_ + 1)) none), V.str (Txt.slice t none (some at_) ++ Txt.slice t (some (at_ + 1)) none)]))
    generalize [V.str (Txt.slice t none (some at_) ++ sg ++ Txt.slice t (some at_) none), V.str (Txt.slice t none (some at_) ++ sg ++ Txt.slice t (some (at_ + 1)) none), V.str (Txt.slice t none (some at_) ++ Txt.slice t (some (at_ + 1)) none)] = xs1 at e1 n1 ⊢
    have s1 := Same.new (o := .lst xs1) hp1
    have h1 : upd H2 p1 (.lst xs1) p1 = some (.lst xs1) := upd_same
    generalize upd H2 p1 (.lst xs1) = H3 at s1 h1 ⊢
    refine ⟨_, rfl, _, rfl, _, _, rfl, rfl, by rw [nl_len]; omega, ?_⟩
    refine ⟨_, rfl, _, _, rfl, rfl, by rw [nl_len]; omega, ?_⟩
    refine ⟨_, rfl, _, _, rfl, rfl, by rw [k3]; omega, ?_⟩
    refine ⟨_, rfl, _, _, rfl, rfl, by rw [k2]; omega, ?_⟩
    refine ⟨_, rfl, _, rfl, _, rfl, t, rfl, by omega, ?_⟩
    refine ⟨by show 6 ≤ sizeLine; decide, fun p2 hp2 => ?_⟩
    have s2 := Same.new (o := .lst [V.str (t ++ "\n"), V.str ("\n" ++ t), V.str (t ++ " a"), V.str (t ++ "\n\na b c"), V.str "a b abcdefghi", V.str (Txt.slice t none (some at_))]) hp2
    refine ⟨p1, p2, _, _, rfl, rfl, s2 _ _ h1, upd_same, by rw [n1]; show 3 + 6 ≤ sizeLine; decide, fun p3 hp3 => ?_⟩
    have e2 : ∀ v ∈ xs1 ++ [V.str (t ++ "\n"), V.str ("\n" ++ t), V.str (t ++ " a"), V.str (t ++ "\n\na b c"), V.str "a b abcdefghi", V.str (Txt.slice t none (some at_))], ShortV v := fun v hv => by
      rcases List.mem_append.mp hv with hv | hv
      · exact e1 v hv
      · simp only [List.mem_cons, List.mem_nil_iff, or_false] at hv
        rcases hv with rfl | rfl | rfl | rfl | rfl | rfl
        · exact ⟨_, rfl, by rw [len_app, nl_len]; omega⟩
        · exact ⟨_, rfl, by rw [len_app, nl_len]; omega⟩
        · exact ⟨_, rfl, by rw [len_app, k3]; omega⟩
        · exact ⟨_, rfl, by rw [len_app, k2]; omega⟩
        · exact ⟨_, rfl, by rw [k4]; decide⟩
        · exact ⟨_, rfl, by omega⟩
    have n2 : (xs1 ++ [V.str (t ++ "\n"), V.str ("\n" ++ t), V.str (t ++ " a"), V.str (t ++ "\n\na b c"), V.str "a b abcdefghi", V.str (Txt.slice t none (some at_))]).length = 9 := by
      rw [List.length_append, n1]
      rfl
    have s3 := Same.new (o := .lst (xs1 ++ [V.str (t ++ "\n"), V.str ("\n" ++ t), V.str (t ++ " a"), V.str (t ++ "\n\na b c"), V.str "a b abcdefghi", V.str (Txt.slice t none (some at_))])) hp3
    have h3 : upd (upd H3 p2 (.lst [V.str (t ++ "\n"), V.str ("\n" ++ t), V.str (t ++ " a"), V.str (t ++ "\n\na b c"), V.str "a b abcdefghi", V.str (Txt.slice t none (some at_))])) p3 (.lst (xs1 ++ [V.str (t ++ "\n"), V.str ("\n" ++ t), V.str (t ++ " a"), V.str (t ++ "\n\na b c"), V.str "a b abcdefghi", V.str (Txt.slice t none (some at_))])) p3 = some (.lst (xs1 ++ [V.str (t ++ "\n"), V.str ("\n" ++ t), V.str (t ++ " a"), V.str (t ++ "\n\na b c"), V.str "a b abcdefghi", V.str (Txt.slice t none (some at_))])) := upd_same
    have s23 := s2.trans s3
    clear s2 s3 hp3
    generalize xs1 ++ [V.str (t ++ "\n"), V.str ("\n" ++ t), V.str (t ++ " a"), V.str (t ++ "\n\na b c"), V.str "a b abcdefghi", V.str (Txt.slice t none (some at_))] = xs2 at e2 n2 h3 s23 ⊢
    generalize upd (upd H3 p2 (.lst [V.str (t ++ "\n"), V.str ("\n" ++ t), V.str (t ++ " a"), V.str (t ++ "\n\na b c"), V.str "a b abcdefghi", V.str (Txt.slice t none (some at_))])) p3 (.lst xs2) = H4 at h3 s23 ⊢
    refine ⟨_, rfl, _, rfl, _, rfl, _, rfl, t, rfl, by omega, _, _, rfl, rfl, by rw [nl_len]; omega, ?_⟩
    refine ⟨_, rfl, _, rfl, _, rfl, t, rfl, by omega, _, _, rfl, rfl, by rw [len_app, nl_len]; omega, ?_⟩
    refine ⟨_, rfl, _, rfl, _, rfl, t, rfl, by omega, _, _, rfl, rfl, by rw [bl_len]; omega, ?_⟩
    refine ⟨_, rfl, _, rfl, _, rfl, t, rfl, by omega, _, _, rfl, rfl, by rw [len_app, bl_len]; omega, ?_⟩
    refine ⟨_, rfl, _, _, rfl, rfl, by rw [k1]; omega, ?_⟩
    refine ⟨by show 3 ≤ sizeLine; decide, fun p4 hp4 => ?_⟩
    have e4 := short3 (a := Txt.slice t none (some at_) ++ "\n" ++ Txt.slice t (some at_) none) (b := Txt.slice t none (some at_) ++ " " ++ Txt.slice t (some at_) none) (c := t ++ "\na b c d") (by rw [len_app, len_app, nl_len]; omega) (by rw [len_app, len_app, bl_len]; omega) (by rw [len_app, k1]; omega)
    have s4 := Same.new (o := .lst [V.str (Txt.slice t none (some at_) ++ "\n" ++ Txt.slice t (some at_) none), V.str (Txt.slice t none (some at_) ++ " " ++ Txt.slice t (some at_) none), V.str (t ++ "\na b c d")]) hp4
    refine ⟨p3, p4, _, _, rfl, rfl, s4 _ _ h3, upd_same, by rw [n2]; show 9 + 3 ≤ sizeLine; decide, fun p5 hp5 => ?_⟩
    have n5 : (xs2 ++ [V.str (Txt.slice t none (some at_) ++ "\n" ++ Txt.slice t (some at_) none), V.str (Txt.slice t none (some at_) ++ " " ++ Txt.slice t (some at_) none), V.str (t ++ "\na b c d")]).length = 12 := by
      rw [List.length_append, n2]
      rfl
    have e5 : ∀ v ∈ xs2 ++ [V.str (Txt.slice t none (some at_) ++ "\n" ++ Txt.slice t (some at_) none), V.str (Txt.slice t none (some at_) ++ " " ++ Txt.slice t (some at_) none), V.str (t ++ "\na b c d")], ShortV v := fun v hv => by
      rcases List.mem_append.mp hv with hv | hv
      · exact e2 v hv
      · exact e4 v hv
    have s5 := Same.new (o := .lst (xs2 ++ [V.str (Txt.slice t none (some at_) ++ "\n" ++ Txt.slice t (some at_) none), V.str (Txt.slice t none (some at_) ++ " " ++ Txt.slice t (some at_) none), V.str (t ++ "\na b c d")])) hp5
    have sAll := s1.trans (s23.trans (s4.trans s5))
    have st5 := st2.same sAll
    have b5 : But l H _ := (b1.trans b2).trans (But.of sAll)
    have h5 : upd (upd H4 p4 (.lst [V.str (Txt.slice t none (some at_) ++ "\n" ++ Txt.slice t (some at_) none), V.str (Txt.slice t none (some at_) ++ " " ++ Txt.slice t (some at_) none), V.str (t ++ "\na b c d")])) p5 (.lst (xs2 ++ [V.str (Txt.slice t none (some at_) ++ "\n" ++ Txt.slice t (some at_) none), V.str (Txt.slice t none (some at_) ++ " " ++ Txt.slice t (some at_) none), V.str (t ++ "\na b c d")])) p5 = _ := upd_same
    have pl5 : p5 ≠ l := (st2.same (s1.trans (s23.trans s4))).ne hp5
    clear sAll s5 s4 e4 hp5
    generalize xs2 ++ [V.str (Txt.slice t none (some at_) ++ "\n" ++ Txt.slice t (some at_) none), V.str (Txt.slice t none (some at_) ++ " " ++ Txt.slice t (some at_) none), V.str (t ++ "\na b c d")] = xs5 at n5 e5 st5 b5 h5 ⊢
    generalize upd (upd H4 p4 (.lst [V.str (Txt.slice t none (some at_) ++ "\n" ++ Txt.slice t (some at_) none), V.str (Txt.slice t none (some at_) ++ " " ++ Txt.slice t (some at_) none), V.str (t ++ "\na b c d")])) p5 (.lst xs5) = H5 at st5 b5 h5 ⊢
    refine ⟨_, rfl, _, rfl, _, rfl, p5, _, rfl, .inl (.of h5), l, (xs5.length : Int), rfl, by rw [n5]; decide, by rw [n5]; decide, st5, fun j H6 j0 j1 b6 st6 => ?_⟩
    rw [n5] at j1
    obtain ⟨v, hv, x, rfl, lx⟩ := hitL (p := ShortV) n5 j0 j1 e5
    exact ⟨p5, _, _, _, rfl, rfl, .of (b6 _ _ h5 pl5), hv, k x H6 (b5.trans b6) st6 lx⟩
end
end Ev
set_option Elab.async false
set_option linter.all false
set_option maxRecDepth 100000
namespace Ev
open PySem L2
theorem setG {i : Nat} {v : V} {σ : St} {H : Hp} {N : St → Hp → Prop} (h : N (σ.set i (some v)) H) : gName i v σ H N := h
theorem ifG {c : TT} {t u : TS} {D : Ends} {σ : St} {H : Hp} (R : Bool → Hp → Prop) (ht : ∀ H, R true H → t D σ H) (hu : ∀ H, R false H → u D σ H) (hc : ∀ N : Bool → Hp → Prop, (∀ b H, R b H → N b H) → c σ H N) : tIfS c t u D σ H := hc _ fun b H r => by
  cases b
  · exact iteF (hu H r)
  · exact iteT (ht H r)
def TAt (mv l : Addr) (H2 : Hp) (y : V) (m : Tri) : Prop := ∃ a, y = .ref a ∧ a ≠ mv ∧ a ≠ l ∧ H2 a = some (.tup ((triL m).map V.str))
/-- the moves so far, and the state that is drawn by -/
def DrI (H : Hp) (mv l : Addr) (ms : List Tri) (H2 : Hp) : Prop := Same H H2 ∧ stt H2 l ∧ (∃ ys, H2 mv = some (.lst ys) ∧ Paired (TAt mv l H2) ys ms) ∧ ∀ m ∈ ms, triB m = true
theorem DrI.but {H H2 H3 : Hp} {mv l : Addr} {ms : List Tri} (h : DrI H mv l ms H2) (n : mv ≠ l) (fl : H l = none) (b : But l H2 H3) (st : stt H3 l) : DrI H mv l ms H3 := by
  obtain ⟨s, _, ⟨ys, e, p⟩, t⟩ := h
  refine ⟨b.same fl s, st, ⟨ys, b _ _ e n, paired_imp ?_ p⟩, t⟩
  rintro y m ⟨a, e, n1, n2, q⟩
  exact ⟨a, e, n1, n2, b _ _ q n2⟩
theorem DrI.same {H H2 H3 : Hp} {mv l : Addr} {ms : List Tri} (h : DrI H mv l ms H2) (s' : Same H2 H3) : DrI H mv l ms H3 := by
  obtain ⟨s, st, ⟨ys, e, p⟩, t⟩ := h
  refine ⟨s.trans s', st.same s', ⟨ys, s' _ _ e, paired_imp ?_ p⟩, t⟩
  rintro y m ⟨a, e, n1, n2, q⟩
  exact ⟨a, e, n1, n2, s' _ _ q⟩
theorem DrI.put {H H2 : Hp} {mv l a : Addr} {ms : List Tri} {m : Tri} {ys : List V} (h : DrI H mv l ms H2) (n : mv ≠ l) (fm : H mv = none) (hy : H2 mv = some (.lst ys)) (ta : TAt mv l H2 (.ref a) m) (tb : triB m = true) : DrI H mv l (ms ++ [m]) (upd H2 mv (.lst (ys ++ [.ref a]))) := by
  obtain ⟨s, st, ⟨ys', e, p⟩, t⟩ := h
  rw [hy] at e
  cases e
  refine ⟨same_but' s fm, st.upd n, ⟨_, upd_same, paired_snoc (paired_imp ?_ p) ?_⟩, fun x hx => ?_⟩
  · rintro y m ⟨a, e, n1, n2, q⟩
    exact ⟨a, e, n1, n2, by rw [upd_ne n1]; exact q⟩
  · obtain ⟨b, e, n1, n2, q⟩ := ta
    exact ⟨b, e, n1, n2, by rw [upd_ne n1]; exact q⟩
  · rcases List.mem_append.mp hx with hx | hx
    · exact t x hx
    · obtain rfl : x = m := by simpa using hx
      exact tb
theorem MvAt.same {K : PySem.W.Frag} {H H' : Hp} {l : Addr} {ms : List Tri} (h : MvAt K H l ms) (s : Same H H') : MvAt K H' l ms := by
  obtain ⟨ys, e, p⟩ := h
  exact ⟨ys, s _ _ e, paired_imp (fun y m q => tri_same q s) p⟩
theorem MvAt.rep {K : PySem.W.Frag} {H : Hp} {l : Addr} {ms : List Tri} (h : MvAt K H l ms) : rL K (rTri K) H (.ref l) ms := by
  obtain ⟨ys, e, p⟩ := h
  exact ⟨l, ys, rfl, .of e, p⟩
theorem DrI.mv {K : PySem.W.Frag} {H H2 : Hp} {mv l : Addr} {ms : List Tri} (h : DrI H mv l ms H2) : MvAt K H2 mv ms := by
  obtain ⟨s, _, ⟨ys, e, p⟩, t⟩ := h
  exact ⟨ys, e, paired_imp (fun y m ⟨a, e, _, _, q⟩ => by subst e; exact sq_tri (.of q)) p⟩
section
variable {P : Program} {w : World} {K : PySem.W.Frag} {mg : Str → Option Value} {base : Heap}
theorem pass1 {X : Cx} : Passes (CX1 P w) X E0 := fun _ _ _ _ _ _ _ h => by
  obtain ⟨_, _, _, _, _, _, _, _, _, _, _, _, z⟩ := h
  exact z.elim
theorem scLaw : FnScope ["_law_script", "_law_state", "_law_moves", "_law_k", "_law_text", "_law_kept", "_law_told", "_law_odd"] ["_law_script"] (defScope sLaw) := ⟨rfl, rfl, rfl, by decide +kernel, rfl, by decide +kernel, by decide +kernel⟩
def spLaw (K : PySem.W.Frag) : Sp := fun vs H Q _ => ∃ (a : Addr) (ns : List Int), vs = [.ref a] ∧ SqL K H a (ns.map V.int) ∧ ns.length ≤ 63 ∧ ∀ H', Q (.bl true) H'
theorem ne_self {D : Type} [DecidableEq D] (d : D) : (if true = true then !decide (d = d) else decide (d = d)) = false := by simp
theorem eq_self' {D : Type} [DecidableEq D] (d : D) : (if false = true then !decide (d = d) else decide (d = d)) = true := by simp
set_option maxHeartbeats 6400000 in
theorem ok_law {f CT : Addr} {fd : FuncData} (F : Fun K "law" "law" sLaw f fd) (B : Bi mg) (cC : Cal P w K mg base 1 "_law_cell_at" ["_law_script", "_law_k"] (spCell K)) (cD : Cal P w K mg base 1 "_law_digit" ["_law_state", "_law_base"] spDigit) (cN : Cal P w K mg base 2 "_law_name" ["_law_state"] spLName)
    (cM : Cal P w K mg base 1 "moves_text" ["moves"] (spMText K)) (cR : CalF P w K mg base 2 "read_moves" ["text"] (spRead K CT)) (cF : Cal P w K mg base 3 "_law_found" ["_law_text"] (spFound K)) (cU : Cal P w K mg base 1 "_law_due" ["_law_text"] (spDue K)) (cS : Cal P w K mg base 2 "_law_spoiled" ["_law_state", "_law_text"] spSpoiled) :
    FnOk P w K mg base CX0 4 f fd ["_law_script"] (spLaw K) := by
  refine F.ok scLaw (fun vs H Q E h => ?_) (fun cdv A outer s H vs Q E hr h => ?_)
  · obtain ⟨a, ns, rfl, _⟩ := h
    rfl
  · obtain ⟨ls, ns, rfl, hls, h63, k⟩ := h
    have sz := sizeLine_eq
    have hr1 : Room 1 _ := hr.mono (by decide)
    have hr2 : Room 2 _ := hr.mono (by decide)
    refine' ⟨_, ?r0, ?kk⟩
    case' r0 => refine' pss_cons ?s1 ?r1
    case' r1 => refine' pss_cons ?s2 ?r2
    case' r2 => refine' pss_cons ?s3 ?r3
    case' r3 => refine' pss_cons ?s4 ?r4
    case' r4 => refine' pss_cons ?s5 ?r5
    case' r5 => refine' pss_cons ?s6 ?r6
    case' r6 => refine' pss_cons ?s7 ?r7
    case' r7 => refine' pss_cons ?s8 ?r8
    case' r8 => refine' pss_cons ?s9 ?r9
    case' r9 => refine' pss_cons ?s10 ?r10
    case' r10 => refine' pss_cons ?s11 ?r11
    case' r11 => refine' pss_cons ?s12 ?s13
    case s1 => exact ps_set (i := 1) scLaw.nd rfl (Or.inl rfl) (pe_lst (pa_cons (pe_fn cC hr1 (pa_cons (pv 0) (pa_cons pe_int pa_nil))) pa_nil))
    case s2 => exact ps_set (i := 2) scLaw.nd rfl (Or.inl rfl) (pe_lst pa_nil)
    case' s3 => refine' ps_for PassesOwn.never rfl ?i1 (pg_name (i := 3) scLaw.nd rfl (Or.inl rfl)) (pss_one ?l1)
    case i1 => exact pi_range1 (by rfl) B.range (pa_cons (pe_fn cD hr1 (pa_cons (pv 1) (pa_cons (pe_ix ix_list (pe_lst (pa_cons pe_int (pa_cons pe_int pa_nil))) (pe_fn cD hr1 (pa_cons (pv 1) (pa_cons pe_int pa_nil))) (fun _ _ => rfl)) pa_nil))) pa_nil)
    case' l1 => refine' ps_if ?l2 ?l3 ?l4
    case l2 => exact (pw_and (pt_cmpR (op_neL (cmp3 cmpS cmpS cmpS) (roomU hr 1)) (pv 2) (pe_lst pa_nil) (nomark _)) (pw_and1 (pt_cmpR op_eq (pe_fn cD hr1 (pa_cons (pv 1) (pa_cons pe_int pa_nil))) pe_int (nomark _)))).pt
    case l3 => exact pss_one (ps_expr (pe_bm PySem.F.plainAttrs_list PySem.F.slot_list_append PySem.F.type_list_append mt_append (pv 2) (pa_cons (pe_ix ix_list (pv 2) (pe_fn cD hr1 (pa_cons (pv 1) (pa_cons (pe_callB call_len_seq (by rfl) B.len PySem.boot_len (pa_cons (pv 2) pa_nil)) pa_nil))) (fun _ _ => rfl)) pa_nil)))
    case l4 => exact pss_one (ps_expr (pe_bm PySem.F.plainAttrs_list PySem.F.slot_list_append PySem.F.type_list_append mt_append (pv 2) (pa_cons (pe_tup (pa_cons (pe_fn cN hr2 (pa_cons (pv 1) pa_nil)) (pa_cons (pe_fn cN hr2 (pa_cons (pv 1) pa_nil)) (pa_cons (pe_fn cN hr2 (pa_cons (pv 1) pa_nil)) pa_nil)))) pa_nil)))
    case' s4 => refine' ps_set (i := 4) scLaw.nd rfl (Or.inl rfl) (pe_bm PySem.F.plainAttrs_str PySem.F.slot_str_join PySem.F.type_str_join mt_join pe_str (pa_cons ?c6 pa_nil))
    case' c6 => refine' pe_comp ["_law_move"] 1 [] ?d1 ?d2 ?d3 ?d4
    case d1 => exact pi_list (pv 2)
    case d2 => exact fun fp s H => pg_name (i := 0) (show (["_law_move"] : List Str).Nodup by decide +kernel) rfl (Or.inl rfl)
    case d3 => exact fun fp s H => pts_nil
    case d4 => exact fun fp s H => pe_bmK (K := K) PySem.F.plainAttrs_str PySem.F.slot_str_join PySem.F.type_str_join (mtK (K := K) rJoin mt_join) pe_str (pa_cons (pe_callTy (cListOf (K := K)) (by rfl) B.list PyProof.Rows.Boot.«list» (pa_cons (pv 0) pa_nil)) pa_nil)
    case s5 => exact ps_set (i := 5) scLaw.nd rfl (Or.inl rfl) (pe_callTy (cListOf (K := K)) (by rfl) B.list PyProof.Rows.Boot.«list» (pa_cons (pv 2) pa_nil))
    case s6 => exact ps_if (pw_or (pt_cmpR op_ne (pe_fn cM hr1 (pa_cons (pv 2) pa_nil)) (pv 4) (nomark _)) (pw_or (pt_cmpR (op_neL (cmp3 cmpS cmpS cmpS) (roomU hr 1)) (pv 2) (pv 5) (nomark _)) (pw_or1 (pt_cmpR (op_neO (cmp3 cmpS cmpS cmpS) (roomU hr 1)) (pe_fn cF hr (pa_cons (pv 4) pa_nil)) (pv 2) (nomark _))))).pt pss_never pss_nil
    case s7 => exact ps_set (i := 6) scLaw.nd rfl (Or.inl rfl) (pe_fq cR hr2 pass1 (pa_cons (pv 4) pa_nil))
    case s8 => exact ps_expr (pe_bm PySem.F.plainAttrs_list PySem.F.slot_list_append PySem.F.type_list_append mt_append (pv 6) (pa_cons pe_int pa_nil))
    case s9 => exact ps_asg pe_non (pg_sub (pv 6) pe_int set_list)
    case s10 => exact ps_if (pt_cmpR (op_neO (cmp3 cmpS cmpS cmpS) (roomU hr 1)) (pe_fn cF hr (pa_cons (pv 4) pa_nil)) (pv 2) (nomark _)) pss_never pss_nil
    case' s11 => refine' ps_for PassesOwn.never rfl ?j1 (pg_name (i := 3) scLaw.nd rfl (Or.inl rfl)) (pss_cons ?j2 (pss_one ?j3))
    case j1 => exact pi_range2 (by rfl) B.range (pa_cons pe_int (pa_cons (pe_callB (call_max2 rfl) (by rfl) B.max PyProof.Rows.Boot.«max» (pa_cons pe_int (pa_cons (pe_callB (call_min2 rfl) (by rfl) B.min PyProof.Rows.Boot.«min» (pa_cons pe_int (pa_cons (pe_callB call_len_seq (by rfl) B.len PySem.boot_len (pa_cons (pv 0) pa_nil)) pa_nil))) pa_nil))) pa_nil))
    case j2 => exact ps_set (i := 7) scLaw.nd rfl (Or.inl rfl) (pe_fn cS hr2 (pa_cons (pe_lst (pa_cons (pe_op op_add (pe_fn cC hr1 (pa_cons (pv 0) (pa_cons (pv 3) pa_nil))) (pe_op op_mul pe_int (pv 3))) pa_nil)) (pa_cons (pv 4) pa_nil)))
    case j3 => exact ps_if (pt_cmpR (op_neO (cmp3 cmpS cmpS cmpS) (roomU hr 1)) (pe_fn cF hr (pa_cons (pv 7) pa_nil)) (pe_fn cU hr1 (pa_cons (pv 7) pa_nil)) (nomark _)) pss_never pss_nil
    case' s12 => refine' ps_for PassesOwn.never rfl ?k1 (pg_name (i := 7) scLaw.nd rfl (Or.inl rfl)) (pss_one ?k2)
    case k1 => exact pi_list (pe_lst (pa_cons pe_non (pa_cons pe_int (pa_cons pe_bl (pa_cons (pv 2) (pa_cons (pe_tup (pa_cons pe_str (pa_cons pe_str (pa_cons pe_str pa_nil)))) pa_nil))))))
    case k2 => exact ps_if (pt_cmpR op_ne (pe_fn cF hr (pa_cons (pv 7) pa_nil)) pe_str (nomark _)) pss_never pss_nil
    case s13 => exact pss_one (ps_ret (pe_and (pe_cmpR (op_eqL (cmp3 cmpS cmpS cmpS) (roomU hr 1)) (pe_fn cF hr (pa_cons (pv 4) pa_nil)) (pv 2) (nomark _)) (pe_and (pe_cmpR (op_eqL (cmp3 cmpS cmpS cmpS) (roomU hr 1)) (pe_fn cF hr (pa_cons pe_str pa_nil)) (pe_lst pa_nil) (nomark _)) (pe_one (pe_cmpR op_eq (pe_fn cM hr1 (pa_cons (pe_lst pa_nil) pa_nil)) pe_str (nomark _))))))
    case' kk => skip
    -- the moves are drawn
    refine ⟨_, rfl, ls, ns, 0, rfl, by decide, hls, fun n0 => ⟨by show 1 ≤ sizeLine; decide, fun l hl => ?_⟩⟩
    have s1 := Same.new (o := .lst [.int n0]) hl
    have st1 : stt (upd H l (.lst [.int n0])) l := .inl ⟨n0, upd_same⟩
    generalize upd H l (.lst [.int n0]) = H1 at s1 st1 ⊢
    refine ⟨Nat.zero_le _, fun mv hmv => ?_⟩
    have ml : mv ≠ l := st1.ne hmv
    have fm : H mv = none := s1.free hmv
    have J0 : DrI H mv l [] (upd H1 mv (.lst [])) := ⟨s1.trans (Same.new hmv), st1.same (Same.new hmv), ⟨[], upd_same, .nil⟩, fun m hm => by cases hm⟩
    generalize upd H1 mv (.lst []) = H2 at J0 ⊢
    refine setG ?_
    dsimp only
    refine seqG (fun σ' H' => ∃ v3 ms, σ' = [some (.ref ls), some (.ref l), some (.ref mv), v3, none, none, none, none] ∧ DrI H mv l ms H' ∧ ms.length ≤ 60) ?_ (fun N hN => ?_)
    rotate_left 1
    · refine ⟨_, rfl, by show 2 ≤ sizeLine; decide, fun p hp => ?_⟩
      have J1 := J0.same (Same.new (o := .lst [.int 4, .int 61]) hp)
      have hp1 : upd H2 p (.lst [.int 4, .int 61]) p = some (.lst [.int 4, .int 61]) := upd_same
      have pl : p ≠ l := J0.2.1.ne hp
      generalize upd H2 p (.lst [.int 4, .int 61]) = H3 at J1 hp1 ⊢
      refine ⟨_, rfl, l, 2, rfl, by decide, by decide, J1.2.1, fun q H4 q0 q2 b4 st4 => ?_⟩
      obtain ⟨v, hv, nb, rfl, nb0, nb61⟩ := hitL (p := fun v => ∃ n : Int, v = V.int n ∧ 0 < n ∧ n ≤ 61) (xs := [.int 4, .int 61]) (n := 2) rfl q0 q2 (fun v hv => by
        simp only [List.mem_cons, List.mem_nil_iff, or_false] at hv
        rcases hv with rfl | rfl
        · exact ⟨4, rfl, by decide, by decide⟩
        · exact ⟨61, rfl, by decide, by decide⟩)
      have J4 := J1.but ml hl b4 st4
      refine ⟨p, _, _, _, rfl, rfl, .of (b4 _ _ hp1 pl), hv, l, nb, rfl, nb0, by omega, st4, fun many H5 m0 m1 b5 st5 => ⟨many, rfl, by omega, by omega, ?_⟩⟩
      have J5 := J4.but ml hl b5 st5
      refine for_range (lo := 0) (n := many.toNat) (fun i σ H6 => ∃ v3 ms, σ = [some (.ref ls), some (.ref l), some (.ref mv), v3, none, none, none, none] ∧ DrI H mv l ms H6 ∧ ms.length = i) ⟨none, [], rfl, J5, rfl⟩ ?_ ?_
      · rintro i σ H6 hi ⟨v3, ms, rfl, J6, ln⟩
        refine ifG (fun b H7 => DrI H mv l ms H7 ∧ (b = true → ms ≠ [])) ?_ ?_ (fun N hN => ?_)
        · rintro H7 ⟨J7, ne⟩
          have ne := ne rfl
          obtain ⟨_, st7, ⟨ys, hys, py⟩, tb⟩ := id J7
          have yl := Paired.length py
          have mp : 0 < ms.length := List.length_pos_iff.mpr ne
          refine ⟨_, rfl, .inl ⟨rfl, _, .of hys⟩, _, rfl, _, rfl, _, rfl, mv, _, rfl, .inl (.of hys), l, (ys.length : Int), rfl, by omega, by omega, st7, fun r H8 r0 r1 b8 st8 => ?_⟩
          have J8 := J7.but ml hl b8 st8
          have hys8 := b8 _ _ hys ml
          have rn : r.toNat < ys.length := by omega
          have e : atI ys r = some ys[r.toNat] := by rw [atI_nat r0 (by omega), List.getElem?_eq_getElem rn]
          obtain ⟨m, hm, a, ea, n1, n2, q⟩ := paired_at py r.toNat (List.getElem?_eq_getElem rn)
          rw [ea] at e
          refine ⟨mv, _, _, _, rfl, rfl, .of hys8, e, mv, _, _, rfl, rfl, hys8, by omega, ?_⟩
          exact ⟨_, _, rfl, J8.put ml fm hys8 ⟨a, rfl, n1, n2, b8 _ _ q n2⟩ (tb m (List.mem_of_getElem? hm)), by rw [List.length_append, ln]; rfl⟩
        · rintro H7 ⟨J7, _⟩
          obtain ⟨_, st7, ⟨ys, hys, py⟩, tb⟩ := id J7
          have yl := Paired.length py
          refine ⟨_, rfl, .inl ⟨rfl, _, .of hys⟩, _, rfl, l, rfl, st7, fun x H8 b8 st8 nx => ?_⟩
          have J8 := J7.but ml hl b8 st8
          refine ⟨_, rfl, l, rfl, st8, fun y H9 b9 st9 ny => ?_⟩
          have J9 := J8.but ml hl b9 st9
          refine ⟨_, rfl, l, rfl, st9, fun z H10 b10 st10 nz => ⟨by show 3 ≤ sizeLine; decide, fun tp htp => ?_⟩⟩
          have J10 := J9.but ml hl b10 st10
          have hys10 := b10 _ _ (b9 _ _ (b8 _ _ hys ml) ml) ml
          have s11 := Same.new (o := .tup [.str x, .str y, .str z]) htp
          refine ⟨mv, _, _, rfl, rfl, s11 _ _ hys10, by omega, ?_⟩
          refine ⟨_, _, rfl, (J10.same s11).put (m := (x, y, z)) ml fm (s11 _ _ hys10) ⟨tp, rfl, (ne_of_none hys10 htp).symm, st10.ne htp, upd_same⟩ ?_, by rw [List.length_append, ln]; rfl⟩
          unfold triB triL
          simp [nx, ny, nz]
        · obtain ⟨_, st6, ⟨ys, hys, py⟩, tb⟩ := id J6
          refine ⟨_, rfl, Nat.zero_le _, fun q hq => ?_⟩
          have s7 := Same.new (o := .lst []) hq
          refine ⟨ms, [], (J6.same s7).mv.rep, ⟨q, [], rfl, .of upd_same, .nil⟩, !decide (ms = []), rfl, ?_⟩
          refine ite2 (fun c => ?_) (fun c => ?_)
          · have c : ms ≠ [] := by simpa using c
            refine ⟨_, rfl, l, 4, rfl, by decide, by decide, st6.same s7, fun r H8 r0 r4 b8 st8 => ⟨rfl, _, rfl, hN _ _ ⟨(J6.same s7).but ml hl b8 st8, fun _ => c⟩⟩⟩
          · exact hN _ _ ⟨J6.same s7, fun e => by cases e⟩
      · rintro σ H6 ⟨v3, ms, rfl, J6, ln⟩
        exact hN _ _ ⟨v3, ms, rfl, J6, by omega⟩
    rintro σ' H3 ⟨v3, ms, rfl, J3, ml60⟩
    have M3 : MvAt K H3 mv ms := J3.mv
    have tb := J3.2.2.2
    have S3 := J3.1
    clear J3 J0 st1 s1 hl
    have tsum := txt_sum tb
    have tlen := txt_len tb
    have rdt := rd_txt tb
    refine seqG (fun σ' H' => σ' = [some (.ref ls), some (.ref l), some (.ref mv), v3, some (.str (txtS ms)), none, none, none] ∧ Same H3 H') ?_ (fun N hN => ?_)
    rotate_left 1
    · obtain ⟨ys, hys, py⟩ := M3
      refine ⟨rfl, _, rfl, mv, rfl, ⟨_, .of hys⟩, fun D hD => ?_⟩
      refine comp_list (own := 1) (fv := []) (xs := ys) rfl gok1 (fun i out H' => Same H3 H' ∧ H' D = some (.lst out) ∧ out = ((ms.take i).map triS).map V.str) ⟨Same.new hD, upd_same, by simp⟩ (fun i out H' _ ⟨sm, _, _⟩ => .of (sm _ _ hys)) (fun out H7 ⟨s7, hD7, eo⟩ => ?_) (fun i y out H' hy ⟨sm, hD', eo⟩ => ?_)
      · rw [Paired.length py, List.take_length] at eo
        subst eo
        exact ⟨"\n", D, ms.map triS, rfl, rfl, .of hD7, by rw [nl_len, List.length_map]; omega, hN _ _ ⟨rfl, s7⟩⟩
      · obtain ⟨m, hm, q⟩ := paired_at py i hy
        have tm := tb m (List.mem_of_getElem? hm)
        obtain ⟨a, rfl, sq⟩ := tri_sq (tri_same q sm)
        have ts := tri_sum tm
        refine ⟨_, rfl, rfl, fun Nx hN => yesT ?_⟩
        refine ⟨rfl, _, rfl, a, _, rfl, .inr sq, fun q hq => ?_⟩
        refine ⟨" ", q, triL m, rfl, rfl, .of upd_same, by rw [bl_len, show (triL m).length = 3 from rfl]; omega, out, Same.new hq _ _ hD', by rw [eo, List.length_map, List.length_map, List.length_take]; omega, hN _ _ ⟨same_but' (sm.trans (Same.new hq)) hD, upd_same, ?_⟩⟩
        rw [take_snoc hm, eo, List.map_append, List.map_append]
        rfl
    rintro σ' H4 ⟨rfl, s34⟩
    have M4 := M3.same s34
    have S4 := S3.trans s34
    clear M3 S3 s34
    generalize htx : txtS ms = tx at tlen rdt ⊢
    have tb5 : tx.length ≤ 50000 := by omega
    have tbO : ∀ y, some tx = some y → y.length ≤ 50000 := fun y e => by cases e; exact tb5
    have rdO' : rdO (some tx) = some ms := rdt
    -- what is found is what was written
    have fnd : ∀ (H0 H' : Hp) (r : V), FdAt K H0 H' r (rdO (some tx)) → ∃ a, r = .ref a ∧ MvAt K H' a ms := fun H0 H' r h => by
      rw [rdO'] at h
      obtain ⟨a, e, _, q⟩ := h
      exact ⟨a, e, q⟩
    obtain ⟨ys, hys, py⟩ := id M4
    refine ⟨_, rfl, mv, _, rfl, .inl (.of hys), fun kp hkp => ?_⟩
    have s5 := Same.new (o := .lst ys) hkp
    have hk5 : upd H4 kp (.lst ys) kp = some (.lst ys) := upd_same
    have M5 := M4.same s5
    have MK : MvAt K (upd H4 kp (.lst ys)) kp ms := ⟨ys, hk5, paired_imp (fun y m q => tri_same q s5) py⟩
    have S5 := S4.trans s5
    refine setG ?_
    dsimp only
    generalize upd H4 kp (.lst ys) = H5 at M5 MK S5 ⊢
    clear hk5 s5 hkp M4 S4 py hys ys
    refine seqG (fun σ' H' => σ' = [some (.ref ls), some (.ref l), some (.ref mv), v3, some (.str tx), some (.ref kp), none, none] ∧ Same H5 H') ?_ (fun N hN => ?_)
    rotate_left 1
    · obtain ⟨ys, hys, py⟩ := id M5
      refine ⟨_, rfl, mv, ys, ms, rfl, .of hys, py, tb, by omega, fun H6 s6 => ?_⟩
      rw [htx]
      refine ⟨_, rfl, rfl, false, congrArg V.bl (by simp), iteF ?_⟩
      refine ⟨_, rfl, _, rfl, ms, ms, (M5.same s6).rep, (MK.same s6).rep, false, congrArg V.bl (ne_self ms), iteF ?_⟩
      refine ⟨_, rfl, .str tx, some tx, rfl, rfl, tbO, fun r H7 s7 fd => ?_⟩
      obtain ⟨a, rfl, q⟩ := fnd _ _ _ fd
      exact ⟨_, rfl, .inl ⟨ms, ms, q.rep, ((M5.same s6).same s7).rep, false, congrArg V.bl (ne_self ms), iteF (hN _ _ ⟨rfl, s6.trans s7⟩)⟩⟩
    rintro σ' H6 ⟨rfl, s56⟩
    have M6 := M5.same s56
    have S6 := S5.trans s56
    clear M5 MK S5 s56
    -- what is told is changed
    refine ⟨_, rfl, .str tx, some tx, rfl, rfl, tbO, fun ms' em tl H7 s7 ftl mtl => ?_, fun e => by rw [rdO'] at e; cases e⟩
    rw [rdO'] at em
    cases em
    obtain ⟨zs, hzs, pz⟩ := mtl
    have zl := Paired.length pz
    refine ⟨_, rfl, .inl ⟨rfl, _, .of hzs⟩, tl, _, _, rfl, rfl, hzs, by omega, ?_⟩
    refine ⟨_, rfl, tl, _, _, 0, rfl, rfl, upd_same, ?_, ?_⟩
    · unfold ixN
      rw [if_pos (by decide), if_pos (by rw [List.length_append]; show (0 : Int) < ((zs.length + 1 : Nat) : Int); omega)]
      rfl
    have s8 := same_but' (o := .lst ((zs ++ [V.int 5]).set 0 .non)) (same_but' (o := .lst (zs ++ [V.int 5])) s7 ftl) ftl
    have M8 := M6.same s8
    have S8 := S6.trans s8
    generalize upd (upd H7 tl (.lst (zs ++ [V.int 5]))) tl (.lst ((zs ++ [V.int 5]).set 0 .non)) = H8 at s8 M8 S8 ⊢
    dsimp only
    clear s8 M6 S6 s7 ftl hzs pz
    refine seqG (fun σ' H' => σ' = [some (.ref ls), some (.ref l), some (.ref mv), v3, some (.str tx), some (.ref kp), some (.ref tl), none] ∧ Same H8 H') ?_ (fun N hN => ?_)
    rotate_left 1
    · refine ⟨_, rfl, .str tx, some tx, rfl, rfl, tbO, fun r H9 s9 fd => ?_⟩
      obtain ⟨a, rfl, q⟩ := fnd _ _ _ fd
      exact ⟨_, rfl, .inl ⟨ms, ms, q.rep, (M8.same s9).rep, false, congrArg V.bl (ne_self ms), iteF (hN _ _ ⟨rfl, s9⟩)⟩⟩
    rintro σ' H9 ⟨rfl, s89⟩
    have M9 := M8.same s89
    have S9 := S8.trans s89
    clear M8 S8 s89
    -- texts spoiled
    refine seqG (fun σ' H' => ∃ v3 v7, σ' = [some (.ref ls), some (.ref l), some (.ref mv), v3, some (.str tx), some (.ref kp), some (.ref tl), v7] ∧ Same H9 H') ?_ (fun N hN => ?_)
    rotate_left 1
    · refine ⟨_, rfl, ls, _, rfl, .inl (S9.seq hls), _, _, rfl, _, _, rfl, _, _, rfl, ?_, ?_⟩
      · rw [List.length_map]
        refine ⟨by decide, by decide, ?_, ?_⟩
        · split <;> split <;> omega
        · split <;> split <;> omega
      generalize ((if (if ((ns.map V.int).length : Int) < 42 then ((ns.map V.int).length : Int) else 42) > 2 then (if ((ns.map V.int).length : Int) < 42 then ((ns.map V.int).length : Int) else 42) else 2) - 1 : Int).toNat = nn
      refine for_range (lo := 1) (n := nn) (fun i σ H10 => ∃ v3 v7, σ = [some (.ref ls), some (.ref l), some (.ref mv), v3, some (.str tx), some (.ref kp), some (.ref tl), v7] ∧ Same H9 H10) ⟨v3, none, rfl, Same.refl H9⟩ ?_ ?_
      · rintro i σ H10 hi ⟨v3, v7, rfl, s10⟩
        have hls10 := (S9.trans s10).seq hls
        refine ⟨_, rfl, _, rfl, ls, ns, 1 + (i : Int), rfl, by omega, hls10, fun n => ?_⟩
        refine ⟨_, rfl, _, _, rfl, rfl, .inl ⟨by decide, by decide⟩, _, _, rfl, rfl, by show 1 ≤ sizeLine; decide, fun p hp => ?_⟩
        refine ⟨_, rfl, p, tx, rfl, by omega, .inl ⟨_, upd_same⟩, fun x H11 b11 st11 lx => ?_⟩
        have s11 : Same H10 H11 := b11.same hp (Same.new hp)
        have lxO : ∀ y, some x = some y → y.length ≤ 50000 := fun y e => by cases e; exact lx
        refine ⟨_, rfl, .str x, some x, rfl, rfl, lxO, fun r H12 s12 fd => ?_⟩
        refine ⟨_, rfl, x, rfl, lx, fun r2 H13 s13 fd2 => ?_⟩
        have fd : FdAt K H11 H12 r (rd x) := fd
        have nx := s10.trans (s11.trans (s12.trans s13))
        cases e : rd x with
        | none =>
          rw [e] at fd fd2
          cases (show r = .str "refused" from fd)
          cases (show r2 = .str "refused" from fd2)
          exact .inr ⟨rfl, false, congrArg V.bl (by simp), iteF ⟨_, _, rfl, nx⟩⟩
        | some ms' =>
          rw [e] at fd fd2
          obtain ⟨a, rfl, _, q⟩ := fd
          obtain ⟨a2, rfl, _, q2⟩ := fd2
          exact .inl ⟨ms', ms', (q.same s13).rep, q2.rep, false, congrArg V.bl (ne_self ms'), iteF ⟨_, _, rfl, nx⟩⟩
      · rintro σ H10 ⟨v3, v7, rfl, s10⟩
        exact hN _ _ ⟨v3, v7, rfl, s10⟩
    rintro σ' H10 ⟨v3, v7, rfl, s910⟩
    have M10 := M9.same s910
    clear M9 s910 S9
    refine seqG (fun σ' H' => ∃ v7, σ' = [some (.ref ls), some (.ref l), some (.ref mv), v3, some (.str tx), some (.ref kp), some (.ref tl), v7] ∧ Same H10 H') ?_ (fun N hN => ?_)
    rotate_left 1
    · refine ⟨_, rfl, by show 3 ≤ sizeLine; decide, fun t ht => ?_⟩
      have s11 := Same.new (o := .tup [.str "a", .str "b", .str "c"]) ht
      have ht11 : upd H10 t (.tup [.str "a", .str "b", .str "c"]) t = some (.tup [.str "a", .str "b", .str "c"]) := upd_same
      generalize upd H10 t (.tup [.str "a", .str "b", .str "c"]) = H11 at s11 ht11 ⊢
      refine ⟨by show 5 ≤ sizeLine; decide, fun q hq => ?_⟩
      have s12 := Same.new (o := .lst [.non, .int 7, .bl true, .ref mv, .ref t]) hq
      have hq12 : upd H11 q (.lst [.non, .int 7, .bl true, .ref mv, .ref t]) q = some (.lst [.non, .int 7, .bl true, .ref mv, .ref t]) := upd_same
      have ht12 := s12 _ _ ht11
      have S12 := s11.trans s12
      generalize upd H11 q (.lst [.non, .int 7, .bl true, .ref mv, .ref t]) = H12 at s12 hq12 ht12 S12 ⊢
      refine ⟨q, rfl, ⟨_, .of hq12⟩, for_list (K := K) (a := q) (xs := [.non, .int 7, .bl true, .ref mv, .ref t]) (fun i σ H13 => ∃ v7, σ = [some (.ref ls), some (.ref l), some (.ref mv), v3, some (.str tx), some (.ref kp), some (.ref tl), v7] ∧ Same H12 H13) ⟨v7, rfl, Same.refl H12⟩ (fun i σ H13 _ ⟨_, _, s13⟩ => .of (s13 _ _ hq12)) ?_ ?_⟩
      · rintro i y σ H13 hy ⟨v7, rfl, s13⟩
        have sv : StrV K H13 y none := by
          have hm := List.mem_of_getElem? hy
          obtain ⟨ys, hys, _⟩ := M10.same (S12.trans s13)
          simp only [List.mem_cons, List.mem_nil_iff, or_false] at hm
          rcases hm with rfl | rfl | rfl | rfl | rfl
          · exact ⟨_, .non, rfl⟩
          · exact ⟨_, .int 7, rfl⟩
          · exact ⟨_, .bl true, rfl⟩
          · exact ⟨_, .lst hys, rfl⟩
          · exact ⟨_, .tup (s13 _ _ ht12), rfl⟩
        refine ⟨_, rfl, y, none, rfl, sv, (fun y e => by cases e), fun r H14 s14 fd => ?_⟩
        cases (show r = .str "refused" from fd)
        exact ⟨rfl, false, congrArg V.bl (by simp), iteF ⟨_, rfl, s13.trans s14⟩⟩
      · rintro σ H13 ⟨v7, rfl, s13⟩
        exact hN _ _ ⟨v7, rfl, S12.trans s13⟩
    rintro σ' H11 ⟨v7, rfl, s1011⟩
    have M11 := M10.same s1011
    refine ⟨_, rfl, .str tx, some tx, rfl, rfl, tbO, fun r H12 s12 fd => ?_⟩
    obtain ⟨a, rfl, q⟩ := fnd _ _ _ fd
    refine ⟨_, rfl, ms, ms, q.rep, (M11.same s12).rep, true, congrArg V.bl (eq_self' ms), iteT ?_⟩
    refine ⟨.str "", some "", rfl, rfl, (fun y e => by cases e; rw [em_len]; decide), fun r H13 s13 fd => ?_⟩
    have fd : FdAt K H12 H13 r (rd "") := fd
    rw [rd_empty] at fd
    obtain ⟨a2, rfl, _, q2⟩ := fd
    refine ⟨Nat.zero_le _, fun p hp => ?_⟩
    have s14 := Same.new (o := .lst []) hp
    refine ⟨[], [], (q2.same s14).rep, ⟨p, [], rfl, .of upd_same, .nil⟩, true, congrArg V.bl (eq_self' _), iteT ?_⟩
    refine ⟨Nat.zero_le _, fun p2 hp2 => ?_⟩
    refine ⟨p2, [], [], rfl, .of upd_same, .nil, (fun m hm => by cases hm), by decide, fun H15 s15 => ⟨rfl, ?_⟩⟩
    rw [show txtS [] = "" by decide +kernel, deqS]
    exact k _
end
end Ev
set_option Elab.async false
set_option linter.all false
set_option maxRecDepth 100000
namespace Ev
open PySem L2
structure Fd (K : PySem.W.Frag) (mg : Str → Option Value) (x : Str) (st : Stmt) : Prop where
  ex : ∃ f fd, Fun K x x st f fd ∧ mg x = some (.ref f) ∧ PySem.W.keepIn K (.ref f) = true
theorem fd_mk {K : PySem.W.Frag} {h : Heap} {mg : Str → Option Value} {x : Str} {st : Stmt} (X : K.In h) (G : h.Ns mainGlobals mg) {f : Addr} {oc : Value} {od an : Option Addr} {osl : Array (Option Value)} {kV doc pm cdv ct : Value} (a : PySem.W.nsIn K mainGlobals x = some (some (.ref f)))
    (l : K.lookup f = some ⟨oc, od, .func (PySem.W.fnOf x x (defArgs st) (defBody st) (defScope st) .none kV doc pm an cdv ct), osl⟩) (c : PySem.W.codeIn K cdv x = true) (k : PySem.W.keepIn K (.ref f) = true) : Fd K mg x st := ⟨_, _, fun_mk l c k, PySem.W.mg_of X G a, k⟩
section
variable {P : Program} {w : World} {K : PySem.W.Frag} {mg : Str → Option Value} {base : Heap} {x : Str} {st : Stmt} {k : Nat} {ps : List Str} {sp : Sp}
theorem cal (d : Fd K mg x st) (ok : ∀ f fd, Fun K x x st f fd → FnOk P w K mg base CX0 k f fd ps sp)
    (h : ∀ (kV doc pm : Value) (an : Option Addr) (cdv ct : Value) (us : List Value), us.length = ps.length → bindArgs (PySem.W.fnOf x x (defArgs st) (defBody st) (defScope st) .none kV doc pm an cdv ct) ⟨us, []⟩ = pure (ps.zip us)) : Cal P w K mg base k x ps sp := by
  obtain ⟨f, fd, F, m, kp⟩ := d.ex
  exact ⟨f, fd, ok f fd F, m, kp, F.binds h⟩
theorem calF (d : Fd K mg x st) (ok : ∀ f fd, Fun K x x st f fd → FnOk P w K mg base (CX1 P w) k f fd ps sp)
    (h : ∀ (kV doc pm : Value) (an : Option Addr) (cdv ct : Value) (us : List Value), us.length = ps.length → bindArgs (PySem.W.fnOf x x (defArgs st) (defBody st) (defScope st) .none kV doc pm an cdv ct) ⟨us, []⟩ = pure (ps.zip us)) : CalF P w K mg base k x ps sp := by
  obtain ⟨f, fd, F, m, kp⟩ := d.ex
  exact ⟨f, fd, ok f fd F, m, kp, F.binds h⟩
end
theorem all_mk {l : PySem.W.OpenLaw} {w : World} {K : PySem.W.Frag} {h : Heap} {mg : Str → Option Value} {fa CT CE c0 c1 c2 c3 c4 c5 fl : Addr} {t8 : Tok} (X : K.In h) (G : h.Ns mainGlobals mg) (hfa : mg "law" = some (.ref fa))
    (f0 : Fd K mg "is_name" sName)
    (f1 : Fd K mg "words_of_rows" sWords)
    (f2 : Fd K mg "moves_text" sMText)
    (f3 : Fd K mg "read_moves" sRead)
    (f4 : Fd K mg "_law_cell_at" sCell)
    (f5 : Fd K mg "_law_digit" sDigit)
    (f6 : Fd K mg "_law_name" sLName)
    (f7 : Fd K mg "_law_found" sFound)
    (f8 : Fd K mg "_law_due" sDue)
    (f9 : Fd K mg "_law_spoiled" sSpoiled)
    {ocl kVl dcl pml cdl ctl : Value} {odl anl : Option Addr} {sll : Array (Option Value)}
    (al : PySem.W.nsIn K mainGlobals "law" = some (some (.ref fl))) (ll : K.lookup fl = some ⟨ocl, odl, .func (PySem.W.fnOf "law" "law" (defArgs sLaw) (defBody sLaw) (defScope sLaw) .none kVl dcl pml anl cdl ctl), sll⟩) (cl : PySem.W.codeIn K cdl "law" = true) (kl : PySem.W.keepIn K (.ref fl) = true)
    (m8 : PySem.W.nsIn K mainGlobals "MOST_LETTERS" = some (some (.int 8 t8)))
    (aCT : PySem.W.nsIn K mainGlobals "NoText" = some (some (.ref CT))) (aCE : PySem.W.nsIn K mainGlobals "EvenError" = some (some (.ref CE))) (a0 : PySem.W.nsIn K mainGlobals "NoGoods" = some (some (.ref c0))) (a1 : PySem.W.nsIn K mainGlobals "NoHand" = some (some (.ref c1))) (a2 : PySem.W.nsIn K mainGlobals "NoMove" = some (some (.ref c2))) (a3 : PySem.W.nsIn K mainGlobals "NoPiece" = some (some (.ref c3))) (a4 : PySem.W.nsIn K mainGlobals "NoStand" = some (some (.ref c4))) (a5 : PySem.W.nsIn K mainGlobals "NoWeb" = some (some (.ref c5)))
    (pex : PySem.W.excIn K CT [.type "ValueError", .type "Exception", .type "BaseException", .type "object"] "ValueError.__new__" = true)
    (ecl : (PySem.W.clsIn K CT).isSome = true) (ega : PySem.W.findIn K (.ref CT) "__getattribute__" = some (some (.builtin "BaseException.__getattribute__"))) (eha : PySem.W.findIn K (.ref CT) "__getattr__" = some none) (eca : PySem.W.findIn K (.ref CT) "__class__" = some (some (.builtin "object.__class__"))) (ihn : PySem.W.specialIn K (.builtin "object.__class__") "__get__" = some (some (.builtin "getset_descriptor.__get__"))) (itk : PySem.W.takesIn K (.builtin "object.__class__") = some true) (emo : PySem.W.mroIn K CT (.type "object") = some true) (emb : PySem.W.mroIn K CT (.type "BaseException") = some true)
    (kt : PySem.W.exmOne K (.ref CT) (.ref CT) = some true) (ke : PySem.W.kitOne K (.ref CT) (.ref CE) = some true) (kv : PySem.W.kitOne K (.ref CT) (.type "ValueError") = some true) (k6 : PySem.W.kitAny K (.ref CT) [.ref c0, .ref c1, .ref c2, .ref c3, .ref c4, .ref c5] = some false)
    (z0 : PySem.W.nsIn K mainGlobals "isinstance" = some none) (z1 : PySem.W.nsIn K mainGlobals "str" = some none) (z2 : PySem.W.nsIn K mainGlobals "len" = some none) (z3 : PySem.W.nsIn K mainGlobals "all" = some none) (z4 : PySem.W.nsIn K mainGlobals "tuple" = some none) (z5 : PySem.W.nsIn K mainGlobals "list" = some none) (z6 : PySem.W.nsIn K mainGlobals "range" = some none) (z7 : PySem.W.nsIn K mainGlobals "max" = some none) (z8 : PySem.W.nsIn K mainGlobals "min" = some none) (z9 : PySem.W.nsIn K mainGlobals "int" = some none) (z10 : PySem.W.nsIn K mainGlobals "ValueError" = some none) :
    ∃ fd : FuncData, (∀ (s : Shared) (v : Value), BindsTo s fd ⟨[v], []⟩ [("_law_script", v)]) ∧ ∀ base : Heap, K.In base → base.Ns mainGlobals mg → FnOk l.prog w K mg base CX0 4 fa fd ["_law_script"] (spLaw K) := by
  have e := hfa.symm.trans (PySem.W.mg_of X G al)
  cases e
  have B : Bi mg := ⟨PySem.W.mg_none_of X G z0, PySem.W.mg_none_of X G z1, PySem.W.mg_none_of X G z2, PySem.W.mg_none_of X G z3, PySem.W.mg_none_of X G z4, PySem.W.mg_none_of X G z5, PySem.W.mg_none_of X G z6, PySem.W.mg_none_of X G z7, PySem.W.mg_none_of X G z8, PySem.W.mg_none_of X G z9, PySem.W.mg_none_of X G z10⟩
  have N : Ref K mg "NoText" CT := ⟨PySem.W.mg_of X G aCT, pex⟩
  have RR : Refs K mg CT CE (fun i => [c0, c1, c2, c3, c4, c5].getD i 0) := ⟨N, PySem.W.mg_of X G aCE, PySem.W.mg_of X G a0, PySem.W.mg_of X G a1, PySem.W.mg_of X G a2, PySem.W.mg_of X G a3, PySem.W.mg_of X G a4, PySem.W.mg_of X G a5, ⟨ecl, ega, eha, eca, ihn, itk, emo, emb⟩, kt, ke, kv, k6⟩
  have FL := fun_mk (st := sLaw) ll cl kl
  refine ⟨PySem.W.fnOf "law" "law" (defArgs sLaw) (defBody sLaw) (defScope sLaw) .none kVl dcl pml anl cdl ctl, fun s v => .of_eq rfl, fun base _ _ => ?_⟩
  have cNm : Cal l.prog w K mg base 1 "is_name" ["thing"] (spNameA K) := cal f0 (fun _ _ F => ok_nameA F B (PySem.W.mg_of X G m8)) (fun _ _ _ _ _ _ us hl => match us, hl with | [_], _ => rfl)
  have cWs : CalF l.prog w K mg base 1 "words_of_rows" ["text"] (spWords K CT) := calF f1 (fun _ _ F => ok_words F B N) (fun _ _ _ _ _ _ us hl => match us, hl with | [_], _ => rfl)
  have cM : Cal l.prog w K mg base 1 "moves_text" ["moves"] (spMText K) := cal f2 (fun _ _ F => ok_mtext F) (fun _ _ _ _ _ _ us hl => match us, hl with | [_], _ => rfl)
  have cR : CalF l.prog w K mg base 2 "read_moves" ["text"] (spRead K CT) := calF f3 (fun _ _ F => ok_read F B N cNm cWs) (fun _ _ _ _ _ _ us hl => match us, hl with | [_], _ => rfl)
  have cC : Cal l.prog w K mg base 1 "_law_cell_at" ["_law_script", "_law_k"] (spCell K) := cal f4 (fun _ _ F => ok_cell F B) (fun _ _ _ _ _ _ us hl => match us, hl with | [_, _], _ => rfl)
  have cD : Cal l.prog w K mg base 1 "_law_digit" ["_law_state", "_law_base"] spDigit := cal f5 (fun _ _ F => ok_digit F B) (fun _ _ _ _ _ _ us hl => match us, hl with | [_, _], _ => rfl)
  have cN : Cal l.prog w K mg base 2 "_law_name" ["_law_state"] spLName := cal f6 (fun _ _ F => ok_lname F B cD) (fun _ _ _ _ _ _ us hl => match us, hl with | [_], _ => rfl)
  have cF : Cal l.prog w K mg base 3 "_law_found" ["_law_text"] (spFound K) := cal f7 (fun _ _ F => ok_found F B RR cR) (fun _ _ _ _ _ _ us hl => match us, hl with | [_], _ => rfl)
  have cU : Cal l.prog w K mg base 1 "_law_due" ["_law_text"] (spDue K) := cal f8 (fun _ _ F => ok_due F B) (fun _ _ _ _ _ _ us hl => match us, hl with | [_], _ => rfl)
  have cS : Cal l.prog w K mg base 2 "_law_spoiled" ["_law_state", "_law_text"] spSpoiled := cal f9 (fun _ _ F => ok_spoiled F B cD) (fun _ _ _ _ _ _ us hl => match us, hl with | [_, _], _ => rfl)
  exact ok_law FL B cC cD cN cM cR cF cU cS
theorem walk {l : PySem.W.OpenLaw} {q : Program} {loose : List Str} {XP : (Str → Option Value) → Heap → Prop} {YP : World → Heap → Prop} {d : DefRec} {K : Params → PySem.W.Frag} (hn : l.most = some 63) (hdf : d.params.defaults = [])
    (hY : ∀ (w : World) (h : Heap), YP w h → (K w.params).In h)
    (F : ∀ (w : World) (mg : Str → Option Value) (fa : Addr) (h : Heap), (K w.params).In h → h.Ns mainGlobals mg → mg d.name = some (.ref fa) →
      ∃ fd : FuncData, (∀ (s : Shared) (u : Value), BindsTo s fd ⟨[u], []⟩ [("_law_script", u)]) ∧ ∀ base : Heap, (K w.params).In base → base.Ns mainGlobals mg → FnOk l.prog w (K w.params) mg base CX0 4 fa fd ["_law_script"] (spLaw (K w.params))) :
    PySem.W.WalkO q loose XP YP l.row.toRowW d [] (fun f vs => PySem.call f vs) :=
  L2.walk_of (n := 63) (k := 4) (x := "_law_script") (CX := fun _ => CX0) (sp := fun w => spLaw (K w.params)) hn (by decide) hdf ⟨rfl, by decide, by decide⟩ hY F (fun _ _ a ns hl _ hS => ⟨a, ns, rfl, hS, hl, fun _ => rfl⟩) fun _ _ _ _ _ z => z
end Ev
set_option Elab.async false
set_option linter.all false
open PySem PySem.W PyProof.Rows
set_option maxRecDepth 100000 in
set_option maxHeartbeats 0 in
theorem PySem.Challenge.cw_evenpieces_k74_moves_as_texts_holds : PySem.Challenge.rw_evenpieces_k74_moves_as_texts.Holds := by
  w_on; o_law; k_head; (case hw => w_witness2)
  k_fill
  refine Ev.walk (l := PySem.Challenge.rw_evenpieces_k74_moves_as_texts) rfl rfl (fun w h Y => PySem.W.kIn_of Y) ?F
  case F =>
    intro w mg fa h KX G hmg
    refine' Ev.all_mk KX G hmg (Ev.fd_mk KX G ?f0a ?f0l ?f0c ?f0k) (Ev.fd_mk KX G ?f1a ?f1l ?f1c ?f1k) (Ev.fd_mk KX G ?f2a ?f2l ?f2c ?f2k) (Ev.fd_mk KX G ?f3a ?f3l ?f3c ?f3k) (Ev.fd_mk KX G ?f4a ?f4l ?f4c ?f4k) (Ev.fd_mk KX G ?f5a ?f5l ?f5c ?f5k) (Ev.fd_mk KX G ?f6a ?f6l ?f6c ?f6k) (Ev.fd_mk KX G ?f7a ?f7l ?f7c ?f7k) (Ev.fd_mk KX G ?f8a ?f8l ?f8c ?f8k) (Ev.fd_mk KX G ?f9a ?f9l ?f9c ?f9k) ?al ?ll ?cl ?kl ?m8 ?aCT ?aCE ?a0 ?a1 ?a2 ?a3 ?a4 ?a5 ?pex ?ecl ?ega ?eha ?eca ?ihn ?itk ?emo ?emb ?kt ?ke ?kv ?k6 ?z0 ?z1 ?z2 ?z3 ?z4 ?z5 ?z6 ?z7 ?z8 ?z9 ?z10
    (case aCT => k_is); (case aCE => k_is); (case a0 => k_is); (case a1 => k_is); (case a2 => k_is); (case a3 => k_is); (case a4 => k_is); (case a5 => k_is)
    (case f0a => k_is); (case f0l => k_is); (case f0c => k_is); (case f0k => k_is)
    (case f1a => k_is); (case f1l => k_is); (case f1c => k_is); (case f1k => k_is)
    (case f2a => k_is); (case f2l => k_is); (case f2c => k_is); (case f2k => k_is)
    (case f3a => k_is); (case f3l => k_is); (case f3c => k_is); (case f3k => k_is)
    (case f4a => k_is); (case f4l => k_is); (case f4c => k_is); (case f4k => k_is)
    (case f5a => k_is); (case f5l => k_is); (case f5c => k_is); (case f5k => k_is)
    (case f6a => k_is); (case f6l => k_is); (case f6c => k_is); (case f6k => k_is)
    (case f7a => k_is); (case f7l => k_is); (case f7c => k_is); (case f7k => k_is)
    (case f8a => k_is); (case f8l => k_is); (case f8c => k_is); (case f8k => k_is)
    (case f9a => k_is); (case f9l => k_is); (case f9c => k_is); (case f9k => k_is)
    (case al => k_is); (case ll => k_is); (case cl => k_is); (case kl => k_is); (case m8 => k_is); (case pex => k_exc); (case ecl => kernel_rfl); (case ega => k_is); (case eha => k_is); (case eca => k_is); (case ihn => k_is); (case itk => k_is); (case emo => k_is); (case emb => k_is); (case kt => kernel_rfl); (case ke => kernel_rfl); (case kv => kernel_rfl); (case k6 => kernel_rfl); (case z0 => k_is); (case z1 => k_is); (case z2 => k_is); (case z3 => k_is); (case z4 => k_is); (case z5 => k_is); (case z6 => k_is); (case z7 => k_is); (case z8 => k_is); (case z9 => k_is); (case z10 => k_is)

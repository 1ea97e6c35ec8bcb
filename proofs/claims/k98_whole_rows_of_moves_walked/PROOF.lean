import PyProof.Rows.All
import Wide.All
import OpenK.AllK
import Wide.FinOn
import Lean
import PyProof.EqAt
import PyProof.EqKinds
import PyProof.TupleCall
import PySem.Challenge.RW_evenpieces_k98_whole_rows_of_moves_walke
set_option Elab.async false
set_option linter.all false
set_option maxRecDepth 100000
namespace L2
open PySem PySem.Spec PyProof.Rows
abbrev Key := Sum Int Str
def keyIs : Key -> Value -> Bool
 | .inl k, v => Value.isInt k v
 | .inr x, v => Value.isStrOf x v
def keyH (w : World) : Key -> Int
 | .inl k => hashInt k
 | .inr x => hashStr w x
theorem keyIs_shape : ∀ {k : Key} {v : Value}, keyIs k v = true -> (∃ i t, k = Sum.inl i /\ v = Value.int i t) ∨ (∃ x t, k = Sum.inr x /\ v = Value.str x t)
 | .inl i, v, h => by
  obtain ⟨t, e⟩ := Value.isInt_shape (k := i) (v := v) h
  exact .inl ⟨i, t, rfl, e⟩
 | .inr x, v, h => by
  obtain ⟨t, e⟩ := Value.isStrOf_shape (x := x) (v := v) h
  exact .inr ⟨x, t, rfl, e⟩
theorem keyIs_int (i : Int) (t : Tok) : keyIs (.inl i) (.int i t) = true := by simp [keyIs, Value.isInt]
theorem keyIs_str (x : Str) (t : Tok) : keyIs (.inr x) (.str x t) = true := by simp [keyIs, Value.isStrOf]
theorem key_ll (a b : Int) : decide ((Sum.inl a : Key) = Sum.inl b) = (a == b) := by
 by_cases e : a = b
 ·subst e; simp
 ·have h : ¬ (Sum.inl a : Key) = Sum.inl b := fun q => e (Sum.inl.inj q)
  rw [decide_eq_false h]
  exact (beq_eq_false_iff_ne.mpr e).symm
theorem key_rr (a b : Str) : decide ((Sum.inr a : Key) = Sum.inr b) = decide (a = b) := by
 by_cases e : a = b
 ·subst e; simp
 ·have h : ¬ (Sum.inr a : Key) = Sum.inr b := fun q => e (Sum.inr.inj q)
  rw [decide_eq_false h, decide_eq_false e]
theorem key_lr (a : Int) (b : Str) : decide ((Sum.inl a : Key) = Sum.inr b) = false := decide_eq_false (fun q => nomatch q)
theorem key_rl (a : Str) (b : Int) : decide ((Sum.inr a : Key) = Sum.inl b) = false := decide_eq_false (fun q => nomatch q)
def mixKind (prog : Program) (w : World) : PySem.KeyKind prog w Key where
 is := keyIs
 hash := keyH w
 inj := fun v a b ha hb => by
  rcases keyIs_shape ha with ⟨i, t, rfl, rfl⟩ | ⟨x, t, rfl, rfl⟩
  ·rcases keyIs_shape hb with ⟨j, u, rfl, e⟩ | ⟨y, u, rfl, e⟩
   ·injection e with e1 _; rw [e1]
   ·exact nomatch e
  ·rcases keyIs_shape hb with ⟨j, u, rfl, e⟩ | ⟨y, u, rfl, e⟩
   ·exact nomatch e
   ·injection e with e1 _; rw [e1]
 byValue := fun k v h => by
  rcases keyIs_shape h with ⟨i, t, rfl, rfl⟩ | ⟨x, t, rfl, rfl⟩ <;> rfl
 pyHash := fun hv h => by
  rcases keyIs_shape hv with ⟨i, t, rfl, rfl⟩ | ⟨x, t, rfl, rfl⟩
  ·exact wpAny_pyHash_int h
  ·exact wpAny_pyHash_str h
 eqBool := fun hu hv h => by
  rcases keyIs_shape hu with ⟨i, t, rfl, rfl⟩ | ⟨x, t, rfl, rfl⟩
  ·rcases keyIs_shape hv with ⟨j, u, rfl, rfl⟩ | ⟨y, u, rfl, rfl⟩
   ·rw [key_ll] at h; exact wpAny_eqBool_int h
   ·rw [key_lr] at h; exact SeqAt.EqAt.int_str i t y u _ _ _ _ h
  ·rcases keyIs_shape hv with ⟨j, u, rfl, rfl⟩ | ⟨y, u, rfl, rfl⟩
   ·rw [key_rl] at h; exact SeqAt.EqAt.str_int x t j u _ _ _ _ h
   ·rw [key_rr] at h; exact wpAny_eqBool_str h
 «strs» := fun k x t v h => by
  rcases keyIs_shape h with ⟨i, u, rfl, e⟩ | ⟨y, u, rfl, e⟩
  ·exact nomatch e
  ·injection e with e1 _
   subst e1
   cases v <;> rfl
theorem mixKind_int (prog : Program) (w : World) (i : Int) (t : Tok) : (mixKind prog w).is (.inl i) (.int i t) = true := keyIs_int i t
theorem mixKind_str (prog : Program) (w : World) (x : Str) (t : Tok) : (mixKind prog w).is (.inr x) (.str x t) = true := keyIs_str x t
end L2
namespace L2
open PySem PySem.Spec PyProof.Rows
inductive V where
 | non | bl (b : Bool) | int (i : Int) | str (x : Str) | byt (b : Array UInt8) | flt (b : UInt64) | ref (a : Addr) | ty (n : String)
 deriving DecidableEq
def RelV : V -> Value -> Prop
 | .non, u => u = Value.none
 | .bl b, u => u = Value.bool b
 | .int i, u => ∃ t, u = Value.int i t
 | .str x, u => ∃ t, u = Value.str x t
 | .byt b, u => ∃ t, u = Value.bytes b t
 | .flt b, u => ∃ t, u = Value.float b t
 | .ref a, u => u = Value.ref a
 | .ty n, u => u = Value.type n
abbrev Vals : List V -> List Value -> Prop := Paired RelV
theorem Vals.length {xs : List V} {us : List Value} (r : Vals xs us) : xs.length = us.length := Paired.length r
theorem Vals.get : ∀ {xs : List V} {us : List Value} {i : Nat} {x : V}, Vals xs us -> xs[i]? = some x -> ∃ u, us[i]? = some u /\ RelV x u
 | _, _, _, _, .nil, e => by simp at e
 | _, _, 0, _, .cons r _, e => by simp at e; subst e; exact ⟨_, rfl, r⟩
 | _, _, i + 1, x, .cons _ t, e => by
  obtain ⟨u, h1, h2⟩ := Vals.get (i := i) (x := x) t (by simpa using e)
  exact ⟨u, by simpa using h1, h2⟩
theorem Vals.set {x : V} {u : Value} (r : RelV x u) : ∀ {xs : List V} {us : List Value} (i : Nat), Vals xs us -> Vals (xs.set i x) (us.set i u)
 | _, _, _, .nil => .nil
 | _, _, 0, .cons _ t => .cons r t
 | _, _, i + 1, .cons q t => .cons q (Vals.set r i t)
theorem Vals.append : ∀ {xs ys : List V} {us ws : List Value}, Vals xs us -> Vals ys ws -> Vals (xs ++ ys) (us ++ ws)
 | _, _, _, _, .nil, s => s
 | _, _, _, _, .cons r t, s => .cons r (Vals.append t s)
theorem Vals.take : ∀ {xs : List V} {us : List Value} (n : Nat), Vals xs us -> Vals (xs.take n) (us.take n)
 | _, _, 0, _ => .nil
 | _, _, _ + 1, .nil => .nil
 | _, _, n + 1, .cons r t => .cons r (Vals.take n t)
theorem Vals.drop : ∀ {xs : List V} {us : List Value} (n : Nat), Vals xs us -> Vals (xs.drop n) (us.drop n)
 | _, _, 0, r => r
 | _, _, _ + 1, .nil => .nil
 | _, _, n + 1, .cons _ t => Vals.drop n t
def RelO : Option V -> Option Value -> Prop
 | some v, some u => RelV v u
 | none, none => True
 | _, _ => False
def KV {κ : Type} : List (κ × V) -> List (κ × Value) -> Prop := Paired fun (p : κ × V) (q : κ × Value) => p.1 = q.1 /\ RelV p.2 q.2
def kV : Key -> V
 | .inl i => .int i
 | .inr x => .str x
inductive HO where
  | lst (xs : List V)
  | tup (xs : List V)
  | dK (kvs : List (Key × V)) | dT (kvs : List (List Key × V))
  | set (S : Int -> Bool) (n : Nat)
  | ins (C dx : Addr) (fs : List (Str × V))
  | own (x : Addr)
  | xd (fs : List (Str × V))
  | met (f x : Addr)
  | rng (lo hi : Int)
  | frz (o : Obj) (u : HO)
  | tbl (ps : Array Value)
  | ext (φ : Heap -> Prop)
abbrev Hp := Addr -> Option HO
def upd (H : Hp) (a : Addr) (o : HO) : Hp := fun b => if b = a then some o else H b
theorem upd_same {H : Hp} {a : Addr} {o : HO} : upd H a o a = some o := by unfold upd; rw [if_pos rfl]
theorem upd_ne {H : Hp} {a b : Addr} {o : HO} (h : b ≠ a) : upd H a o b = H b := by unfold upd; rw [if_neg h]
theorem upd_upd {H : Hp} {a : Addr} {o u : HO} : upd (upd H a o) a u = upd H a u := by
 funext b; unfold upd; split <;> rfl
theorem ne_of {H : Hp} {a b : Addr} {o u : HO} (h : H a = some o) (h' : H b = some u) (d : o ≠ u) : a ≠ b := by
 intro e; subst e; rw [h] at h'; exact d (Option.some.inj h')
theorem ne_of_none {H : Hp} {a b : Addr} {o : HO} (h : H a = some o) (h' : H b = none) : a ≠ b := by
 intro e; subst e; rw [h] at h'; cases h'
section
variable (P : Program) (w : World)
def ObjOk (H : Hp) (h : Heap) (a : Addr) : HO -> Prop
 | .lst xs => xs.length <= sizeLine /\ ∃ (its : List Value) (n : Nat), Vals xs its /\ h.get? a = some { cls := .type "list", data := .seq its.toArray n }
 | .tup xs => xs.length <= sizeLine /\ ∃ its : List Value, Vals xs its /\ IsTup h a its.toArray /\ ∃ o, h.get? a = some o /\ o.dict = none
 | .dK kvs => kvs.length <= sizeLine /\ (a == sysModules) = false /\ ∃ vs, KV kvs vs /\ h.DictOf (mixKind P w) a vs
 | .dT kvs => kvs.length <= sizeLine /\ (a == sysModules) = false /\ ∃ xs : List (List Key × Addr × Value),
   Paired (fun (p : List Key × V) (q : List Key × Addr × Value) => p.1 = q.1 /\ H q.2.1 = some (.tup (p.1.map kV)) /\ RelV p.2 q.2.2) kvs xs /\
   ∃ o es ep, h.get? a = some o /\ o.ExactDict /\ o.data = .dict es ep /\ es.toList = xs.map (entryOfKey (tupleKind (mixKind P w))) /\ (xs.map (·.1)).Nodup
 | .set S n => h.SetOf (intKind P w) a S n
 | .ins C dx fs => H dx = some (.own a) /\ fs.length <= 1000 /\ dx ≠ a /\ h.get? a = some (PySem.W.instObj C dx) /\
   ∃ mA, h.Ns1 dx mA /\ (∀ f, RelO (fs.lookup f) (mA f)) /\ PySem.Within mA (fs.map (·.1))
 | .own _ => ∃ o, h.get? a = some o
 | .xd fs => ∃ mA, h.Ns1 a mA /\ ∀ f, RelO (fs.lookup f) (mA f)
 | .rng lo hi => ∃ t u v, h.get? a = some { cls := .type "range", data := .fields #[.int lo t, .int hi u, .int 1 v] }
 | .frz o u => h.get? a = some o /\ ObjOk H h a u
 | .tbl ps => h.get? a = some { cls := .none, data := .fields ps }
 | .met f x => h.get? a = some (PySem.W.methodObj (.ref f) (.ref x))
 | .ext φ => φ h /\ (∃ o, h.get? a = some o) /\ ∀ h1 h2 : Heap, φ h1 -> (∀ o, h1.get? a = some o -> h2.get? a = some o) -> φ h2
def HOk (H : Hp) (h : Heap) : Prop := ∀ a o, H a = some o -> ObjOk P w H h a o
end
section
variable {P : Program} {w : World} {H H' : Hp} {h h' : Heap} {a : Addr} {o : HO}
theorem ObjOk.lt (x : ObjOk P w H h a o) : a < h.objs.size := by
 cases o with
 | lst xs => obtain ⟨_, _, _, _, e⟩ := x; exact Heap.lt_size e
 | tup xs => obtain ⟨_, _, _, p, _⟩ := x; exact p.lt
 | dK kvs => obtain ⟨_, _, _, _, o, _, _, e, _⟩ := x; exact Heap.lt_size e
 | dT kvs => obtain ⟨_, _, _, _, o, _, _, e, _⟩ := x; exact Heap.lt_size e
 | set S n => obtain ⟨o, _, _, _, e, _⟩ := x; exact Heap.lt_size e
 | ins C dx fs => obtain ⟨_, _, _, e, _⟩ := x; exact Heap.lt_size e
 | own y => obtain ⟨_, e⟩ := x; exact Heap.lt_size e
 | xd fs => obtain ⟨_, ⟨_, _, _, e, _⟩, _⟩ := x; exact Heap.lt_size e
 | rng lo hi => obtain ⟨_, _, _, e⟩ := x; exact Heap.lt_size e
 | frz ob u => obtain ⟨e, _⟩ := x; exact Heap.lt_size e
 | tbl ps => exact Heap.lt_size (show h.get? a = some _ from x)
 | met f y => exact Heap.lt_size (show h.get? a = some _ from x)
 | ext φ => obtain ⟨_, ⟨_, e⟩, _⟩ := x; exact Heap.lt_size e
theorem Paired.mapP {α β : Type} {F G : α -> β -> Prop} : ∀ {l₁ : List α} {l₂ : List β}, Paired F l₁ l₂ -> (∀ a b, F a b -> G a b) -> Paired G l₁ l₂
 | _, _, .nil, _ => .nil
 | _, _, .cons r t, f => .cons (f _ _ r) (Paired.mapP t f)
theorem ObjOk.stay (x : ObjOk P w H h a o) (k : ∀ b u, (b = a ∨ H b = some (.own a)) -> h.get? b = some u -> h'.get? b = some u)
  (ho : ∀ b, H b = some (.own a) -> H' b = some (.own a)) (ht : ∀ b xs, H b = some (.tup xs) -> H' b = some (.tup xs)) : ObjOk P w H' h' a o := by
 induction o with
 | lst xs => obtain ⟨z, its, n, r, e⟩ := x; exact ⟨z, its, n, r, k _ _ (.inl rfl) e⟩
 | tup xs => obtain ⟨z, its, r, ⟨ob, e, c⟩, o2, e2, c2⟩ := x; exact ⟨z, its, r, ⟨ob, k _ _ (.inl rfl) e, c⟩, o2, k _ _ (.inl rfl) e2, c2⟩
 | dK kvs => obtain ⟨z, y, vs, r, ob, es, ep, e, c⟩ := x; exact ⟨z, y, vs, r, ob, es, ep, k _ _ (.inl rfl) e, c⟩
 | dT kvs =>
  obtain ⟨z, y, xs, r, ob, es, ep, e, c⟩ := x
  exact ⟨z, y, xs, Paired.mapP r fun p q z => ⟨z.1, ht _ _ z.2.1, z.2.2⟩, ob, es, ep, k _ _ (.inl rfl) e, c⟩
 | set S n => obtain ⟨ob, es, ep, t, e, c⟩ := x; exact ⟨ob, es, ep, t, k _ _ (.inl rfl) e, c⟩
 | ins C dx fs =>
  obtain ⟨d, z, ne, e, mA, ⟨od, es, ep, e2, c⟩, r⟩ := x
  exact ⟨ho _ d, z, ne, k _ _ (.inl rfl) e, mA, ⟨od, es, ep, k _ _ (.inr d) e2, c⟩, r⟩
 | own y => obtain ⟨ob, e⟩ := x; exact ⟨ob, k _ _ (.inl rfl) e⟩
 | xd fs => obtain ⟨mA, ⟨od, es, ep, e, c⟩, r⟩ := x; exact ⟨mA, ⟨od, es, ep, k _ _ (.inl rfl) e, c⟩, r⟩
 | rng lo hi => obtain ⟨t, u, v, e⟩ := x; exact ⟨t, u, v, k _ _ (.inl rfl) e⟩
 | frz ob u ih => obtain ⟨e, q⟩ := x; exact ⟨k _ _ (.inl rfl) e, ih q⟩
 | tbl ps =>
  have e : h.get? a = some { cls := .none, data := .fields ps } := x
  show h'.get? a = some { cls := .none, data := .fields ps }
  exact k a _ (.inl rfl) e
 | met f y =>
  have e : h.get? a = some (PySem.W.methodObj (.ref f) (.ref y)) := x
  show h'.get? a = some (PySem.W.methodObj (.ref f) (.ref y))
  exact k a _ (.inl rfl) e
 | ext φ => obtain ⟨p, ⟨o, e⟩, st⟩ := x; exact ⟨st _ _ p fun o q => k _ _ (.inl rfl) q, ⟨o, k _ _ (.inl rfl) e⟩, st⟩
theorem HOk.lt (x : HOk P w H h) (e : H a = some o) : a < h.objs.size := (x a o e).lt
theorem HOk.fresh (x : HOk P w H h) (e : h.objs.size <= a) : H a = none := by
 cases q : H a with
 | none => rfl
 | some u => exact absurd (Nat.lt_of_lt_of_le (x.lt q) e) (Nat.lt_irrefl _)
theorem HOk.kept (x : HOk P w H h) (k : ∀ b u, h.get? b = some u -> h'.get? b = some u) : HOk P w H h' := fun a o e =>
 (x a o e).stay (fun b u _ q => k b u q) (fun _ q => q) fun _ _ q => q
theorem HOk.laid (x : HOk P w H h) (k : ∀ b u, h.get? b = some u -> h'.get? b = some u) (hp : h.objs.size <= a) (new : ObjOk P w (upd H a o) h' a o) : HOk P w (upd H a o) h' := fun b u e => by
 have hn := x.fresh hp
 by_cases hb : b = a
 ·subst hb; rw [upd_same] at e; cases e; exact new
 ·rw [upd_ne hb] at e
  exact (x b u e).stay (fun c v _ q => k c v q) (fun c q => by rw [upd_ne (ne_of_none q hn)]; exact q) fun c xs q => by rw [upd_ne (ne_of_none q hn)]; exact q
end
def Rd (H : Hp) (a : Addr) (u : HO) : Prop := H a = some u ∨ ∃ o, H a = some (.frz o u)
theorem Rd.ok {P : Program} {w : World} {H : Hp} {h : Heap} {a : Addr} {u : HO} (r : Rd H a u) (x : HOk P w H h) : ObjOk P w H h a u := by
 rcases r with r | ⟨o, r⟩
 ·exact x a u r
 ·obtain ⟨_, q⟩ := x a _ r
  exact q
def Mut : Option HO -> Prop
 | some (.lst _) => True
 | some (.dK _) => True
 | some (.dT _) => True
 | some (.set _ _) => True
 | some (.ins _ _ _) => True
 | some (.ext _) => True
 | _ => False
section
variable {P : Program} {w : World} {H : Hp} {h h' : Heap} {x e : Addr} {o' : HO}
theorem HOk.write (ok : HOk P w H h) (mu : Mut (H x)) (he : e = x ∨ H e = some (.own x)) (k : ∀ b u, b ≠ e -> h.get? b = some u -> h'.get? b = some u) (heo : ∃ u, h'.get? e = some u)
  (new : ObjOk P w (upd H x o') h' x o') : HOk P w (upd H x o') h' := fun b u q => by
 have nown : ∀ c y, H c = some (.own y) -> c ≠ x := fun c y r z => by subst z; rw [r] at mu; exact mu
 have ntup : ∀ c xs, H c = some (.tup xs) -> c ≠ x := fun c xs r z => by subst z; rw [r] at mu; exact mu
 by_cases hb : b = x
 ·subst hb; rw [upd_same] at q; cases q; exact new
 ·rw [upd_ne hb] at q
  by_cases hbe : b = e
  ·have q' : H b = some (.own x) := by
    rcases he with z | z
    ·exact absurd (hbe.trans z) hb
    ·rw [hbe]; exact z
   rw [q] at q'; cases q'
   obtain ⟨v, hv⟩ := heo
   exact ⟨v, by rw [hbe]; exact hv⟩
  ·refine (ok b u q).stay (fun c v hc r => k c v ?_ r) (fun c r => by rw [upd_ne (nown c b r)]; exact r) fun c xs r => by rw [upd_ne (ntup c xs r)]; exact r
   rcases hc with rfl | hc
   ·exact hbe
   ·rintro rfl
    rcases he with z | z
    ·exact nown c b hc z
    ·rw [hc] at z; cases z; exact hb rfl
end
structure Un (fs ex : List Addr) (H H' : Hp) (h h' : Heap) : Prop where
 keep : ∀ b o, h.get? b = some o -> H b = none -> b ∉ fs -> b ∉ ex -> h'.get? b = some o
 slot : ∀ b o, h.get? b = some o -> H b = none -> b ∈ fs -> b ∉ ex -> ∃ sl, h'.get? b = some { o with slots := sl }
 free : ∀ b o, h.get? b = some o -> H b = none -> b ∉ ex -> H' b = none
 there : ∀ b o, h.get? b = some o -> b ∉ ex -> ∃ o', h'.get? b = some o'
 tups : ∀ b xs, H b = some (.tup xs) -> H' b = some (.tup xs)
 frzs : ∀ b o u, H b = some (.frz o u) -> H' b = some (.frz o u)
 tbls : ∀ b ps, H b = some (.tbl ps) -> ∃ more, H' b = some (.tbl (ps ++ more))
section
variable {fs fs' ex ex' : List Addr} {H H1 H2 : Hp} {h h1 h2 h' : Heap} {a x e : Addr} {o : HO}
theorem Un.any (u : Un fs ex H H1 h h1) {b : Addr} {ob : Obj} (q : h.get? b = some ob) (n : H b = none) (hx : b ∉ ex) : ∃ sl, h1.get? b = some { ob with slots := sl } := by
 by_cases hb : b ∈ fs
 ·exact u.slot b ob q n hb hx
 ·exact ⟨ob.slots, u.keep b ob q n hb hx⟩
theorem Un.kept (k : ∀ b u, h.get? b = some u -> h'.get? b = some u) : Un fs ex H H h h' :=
 ⟨fun b ob q _ _ _ => k b ob q, fun b ob q _ _ _ => ⟨ob.slots, k b ob q⟩, fun _ _ _ n _ => n, fun b ob q _ => ⟨ob, k b ob q⟩, fun _ _ q => q, fun _ _ _ q => q, fun _ ps q => ⟨#[], by rw [q]; simp⟩⟩
theorem Un.refl : Un fs ex H H h h := Un.kept fun _ _ q => q
theorem Un.laid (k : ∀ b u, h.get? b = some u -> h'.get? b = some u) (hp : h.objs.size <= a) (hn : H a = none) : Un fs ex H (upd H a o) h h' where
 keep := fun b u q _ _ _ => k b u q
 slot := fun b u q _ _ _ => ⟨u.slots, k b u q⟩
 free := fun b u q n _ => by rw [upd_ne (Nat.ne_of_lt (Nat.lt_of_lt_of_le (Heap.lt_size q) hp))]; exact n
 there := fun b u q _ => ⟨u, k b u q⟩
 tups := fun b xs q => by rw [upd_ne (ne_of_none q hn)]; exact q
 frzs := fun b u xs q => by rw [upd_ne (ne_of_none q hn)]; exact q
 tbls := fun b ps q => ⟨#[], by rw [upd_ne (ne_of_none q hn), q]; simp⟩
theorem Un.write (mu : Mut (H x)) (he : e = x ∨ H e = some (.own x)) (k : ∀ b u, b ≠ e -> h.get? b = some u -> h'.get? b = some u) (heo : ∃ u, h'.get? e = some u) : Un fs ex H (upd H x o) h h' := by
 have hx : ∀ b, H b = none -> b ≠ x := fun b n z => by subst z; rw [n] at mu; exact mu
 have hb : ∀ b, H b = none -> b ≠ e := fun b n z => by
  subst z
  rcases he with r | r
  ·exact hx b n r
  ·rw [n] at r; cases r
 have hm : ∀ b u, H b = some u -> ¬ Mut (some u) -> b ≠ x := fun b u q nm z => by subst z; rw [q] at mu; exact nm mu
 refine ⟨fun b u q n _ _ => k b u (hb b n) q, fun b u q n _ _ => ⟨u.slots, k b u (hb b n) q⟩, fun b u q n _ => by rw [upd_ne (hx b n)]; exact n, fun b u q _ => ?_,
  fun b xs q => by rw [upd_ne (hm b _ q fun z => z)]; exact q, fun b u xs q => by rw [upd_ne (hm b _ q fun z => z)]; exact q, fun b ps q => ⟨#[], by rw [upd_ne (hm b _ q fun z => z), q]; simp⟩⟩
 by_cases hbe : b = e
 ·subst hbe; exact heo
 ·exact ⟨u, k b u hbe q⟩
end
def trk (h : Heap) (H : Hp) : List Addr := (List.range h.objs.size).filter fun a => (H a).isSome
def hidT (h : Heap) (H : Hp) : Heap := PySem.W.hideAll h (trk h H)
theorem hidT_size (h : Heap) (H : Hp) : (hidT h H).objs.size = h.objs.size := PySem.W.hideAll_size _ _
theorem hidT_get {h : Heap} {H : Hp} {b : Addr} {o : Obj} (e : h.get? b = some o) (n : H b = none) : (hidT h H).get? b = some o :=
 PySem.W.hideAll_get _ e fun hm => by
  have q : (H b).isSome = true := (List.mem_filter.mp hm).2
  rw [n] at q; simp at q
theorem of_hidT {h : Heap} {H : Hp} {b : Addr} {o : Obj} (e : (hidT h H).get? b = some o) : h.get? b = some o /\ H b = none := by
 have e' : h.get? b = some o := PySem.W.of_hideAll (trk h H) e
 refine ⟨e', ?_⟩
 cases q : H b with
 | none => rfl
 | some x =>
  have hm : b ∈ trk h H := List.mem_filter.mpr ⟨List.mem_range.mpr (Heap.lt_size e'), by simp [q]⟩
  have z : (hidT h H).get? b = none := PySem.W.hideAll_none (trk h H) hm
  rw [z] at e; cases e
def allNews (g h : Heap) (L : Addr) : List (Addr × Obj) := (List.range h.objs.size).filterMap fun a => if a = L ∨ (g.get? a).isSome = true then none else (h.get? a).map fun o => (a, o)
def rest (g h : Heap) (L d : Addr) : List (Addr × Obj) := (allNews g h L).filter fun p => decide (p.1 ≠ d)
end L2
namespace L2
open PySem PySem.Spec PyProof.Rows
structure Mod (K : PySem.W.Frag) (mg : Str -> Option Value) (base : Heap) : Prop where
 kin : K.In base
 glob : base.Ns mainGlobals mg
 blt : ∃ mb, base.Ns builtinsNs mb /\ ∀ x : Str, x ≠ "__name__" -> mb x = bootBuiltins x
 nolimit : base.NoLimit
structure Cx where
 prog : Program
 w : World
 K : PySem.W.Frag
 mg : Str -> Option Value
 base : Heap
 A : Around
 N : List Str
 s₀ : Shared
 H₀ : Hp
 env : Env
 outer : List Env
 stack : List Env
 ex : List Addr
 fn : Str -> Bool
 calm : Bool
 pn : List (Addr × Obj)
 xe : Value -> Shared -> Prop
def frs (l : List Env) : List Addr := l.filterMap (·.frame)
abbrev Cx.fs (X : Cx) : List Addr := frs X.outer
def Vis (sc : Scope) (x : Str) : Prop := sc.names.lookup x = some .local ∨ sc.names.lookup x = some .cell ∨ sc.names.lookup x = some .free
def Loc (sc : Scope) (x : Str) : Prop := sc.names.lookup x = some .local ∨ sc.names.lookup x = some .cell
def Look (env : Env) (h : Heap) (m : Str -> Option Value) (x : Str) (u : Value) : Prop :=
 (env.kindOf x = some .local /\ m x = some u) ∨ ((env.kindOf x = some .cell ∨ env.kindOf x = some .free) /\ ∃ c, env.cells.lookup x = some c /\ h.IsCell c (some u))
structure Cx.Ok (X : Cx) : Prop where
 mod : Mod X.K X.mg X.base
 kind : X.env.scope.kind = .function
 glob : X.env.globals = mainGlobals
 blt : X.env.builtins = builtinsNs
 above : X.s₀.heap.objs.size <= X.env.locals
 inj : ∀ x y c, X.env.cells.lookup x = some c -> X.env.cells.lookup y = some c -> x = y
 has : ∀ x, (X.env.kindOf x = some .cell ∨ X.env.kindOf x = some .free) -> ∃ c, X.env.cells.lookup x = some c
 cab : ∀ x c, X.fn x = true -> X.env.cells.lookup x = some c -> X.s₀.heap.objs.size <= c
 hd : X.calm = true -> X.A.handled = none
 frames : X.A.frames = some X.stack
 stk : X.stack = X.outer ∨ (X.stack = X.env :: X.outer /\ X.env.frame = some X.env.locals)
 exf : ∀ b ∈ X.ex, b ≠ X.env.locals /\ ∀ x c, X.env.cells.lookup x = some c -> c ≠ b
 bs : ∀ b o, X.base.get? b = some o -> X.s₀.heap.get? b = some o /\ X.H₀ b = none
 bsz : X.base.objs.size <= X.s₀.heap.objs.size
 noex : ∀ b o, X.base.get? b = some o -> b ∉ X.ex
 exfs : ∀ b ∈ X.ex, b ∉ X.fs
 funs : X.s₀.heap.FunFrames X.base X.outer
 frf : ∀ b ∈ X.fs, X.H₀ b = none
structure Inv (X : Cx) (pins : List (Addr × Obj)) (σ : List (Option V)) (H : Hp) (s : Shared) : Prop where
 ok : X.Ok
 os : s.os = X.s₀.os
 bare : AllBare s.gens
 base : Un X.fs X.ex X.H₀ H X.s₀.heap s.heap
 loc : ∃ m, s.heap.Ns X.env.locals m /\ ∀ (i : Nat) (x : Str) (v : V), X.N[i]? = some x -> σ[i]? = some (some v) -> Vis X.env.scope x -> ∃ u, RelV v u /\ Look X.env s.heap m x u
 cell : ∀ x c, X.env.cells.lookup x = some c -> ∃ v, s.heap.IsCell c v
 free : H X.env.locals = none
 freeC : ∀ x c, X.env.cells.lookup x = some c -> H c = none
 pin : ∀ p ∈ X.pn ++ pins, s.heap.get? p.1 = some p.2 /\ H p.1 = none /\ p.1 ≠ X.env.locals /\ p.1 ∉ X.fs /\ ∀ v, p.2.data ≠ .cell v
 hok : HOk X.prog X.w H s.heap
 len : σ.length = X.N.length
section
variable {X : Cx} {pins : List (Addr × Obj)} {σ : List (Option V)} {H H' : Hp} {s : Shared} {h' : Heap}
theorem Cx.Ok.nofr (ok : X.Ok) {b : Addr} {o : Obj} (e : X.base.get? b = some o) : b ∉ X.fs := fun hb => by
 have := (ok.funs.mem hb).1
 rw [e] at this; cases this
theorem Inv.bs (I : Inv X pins σ H s) : ∀ b o, X.base.get? b = some o -> s.heap.get? b = some o /\ H b = none := fun b o e =>
 ⟨I.base.keep b o (I.ok.bs b o e).1 (I.ok.bs b o e).2 (I.ok.nofr e) (I.ok.noex b o e), I.base.free b o (I.ok.bs b o e).1 (I.ok.bs b o e).2 (I.ok.noex b o e)⟩
theorem Inv.bk (I : Inv X pins σ H s) : ∀ b o, X.base.get? b = some o -> s.heap.get? b = some o := fun b o e => (I.bs b o e).1
theorem Inv.mod (I : Inv X pins σ H s) : Mod X.K X.mg X.base := I.ok.mod
theorem Inv.kIn (I : Inv X pins σ H s) : X.K.In s.heap := I.ok.mod.kin.keeps I.bk
theorem Inv.lt (I : Inv X pins σ H s) : X.env.locals < s.heap.objs.size := let ⟨_, hn, _⟩ := I.loc; hn.lt
theorem Inv.sz (I : Inv X pins σ H s) : X.s₀.heap.objs.size <= s.heap.objs.size := Nat.le_trans I.ok.above (Nat.le_of_lt I.lt)
theorem Inv.nofs (I : Inv X pins σ H s) {a : Addr} (h : s.heap.objs.size <= a) : a ∉ X.fs := fun hb => by
 obtain ⟨_, o, ho, _⟩ := I.ok.funs.mem hb
 exact absurd (Nat.lt_of_lt_of_le (Heap.lt_size ho) (Nat.le_trans I.sz h)) (Nat.lt_irrefl _)
theorem Inv.cne (I : Inv X pins σ H s) : ∀ x c, X.env.cells.lookup x = some c -> c ≠ X.env.locals := fun x c e z => by
 obtain ⟨v, o, ho, hd⟩ := I.cell x c e
 obtain ⟨m, ⟨o', es, ep, ho', hd', _⟩, _⟩ := I.loc
 rw [z, ho'] at ho; cases ho; rw [hd'] at hd; cases hd
theorem Inv.funs (I : Inv X pins σ H s) : s.heap.FunFrames X.base X.outer := by
 have all : ∀ (l : List Env), (∀ b ∈ frs l, b ∈ X.fs) -> X.s₀.heap.FunFrames X.base l -> s.heap.FunFrames X.base l := by
  intro l
  induction l with
  | nil => intro _ _; trivial
  | cons env r ih =>
   intro hs hl
   obtain ⟨hk, ⟨L, o, hf, hn, ho, hd⟩, hr⟩ := hl
   have hL : L ∈ X.fs := hs L (by unfold frs; rw [List.filterMap_cons, hf]; exact List.mem_cons_self)
   obtain ⟨sl, e⟩ := I.base.slot L o ho (I.ok.frf L hL) hL fun z => I.ok.exfs L z hL
   exact ⟨hk, ⟨L, _, hf, hn, e, hd⟩, ih (fun b hb => hs b (by unfold frs; rw [List.filterMap_cons, hf]; exact List.mem_cons_of_mem _ hb)) hr⟩
 exact all X.outer (fun _ hb => hb) I.ok.funs
theorem Inv.stack (I : Inv X pins σ H s) : s.heap.FunFrames X.base X.stack := by
 rcases I.ok.stk with e | ⟨e, hf⟩
 ·rw [e]; exact I.funs
 ·rw [e]
  obtain ⟨m, hn, _⟩ := I.loc
  refine .cons (by rw [I.ok.kind]; decide) hf hn ?_ I.funs
  exact Heap.get?_none_of_le (Nat.le_trans I.ok.bsz I.ok.above)
theorem Inv.stkSub (I : Inv X pins σ H s) : ∀ b ∈ frs X.stack, b ∈ X.env.locals :: X.fs := fun b hb => by
 rcases I.ok.stk with e | ⟨e, hf⟩
 ·rw [e] at hb; exact List.mem_cons_of_mem _ hb
 ·rw [e] at hb
  unfold frs at hb
  rw [List.filterMap_cons, hf] at hb
  exact hb
theorem Inv.stkFree (I : Inv X pins σ H s) : ∀ b ∈ frs X.stack, H b = none := fun b hb => by
 rcases List.mem_cons.mp (I.stkSub b hb) with e | hb
 ·rw [e]; exact I.free
 ·obtain ⟨_, o, ho, _⟩ := I.ok.funs.mem hb
  exact I.base.free b o ho (I.ok.frf b hb) fun z => I.ok.exfs b z hb
theorem Inv.step {g' : Array GenState} {t' : Nat} {d' : Drawn} {ch : List Addr} (I : Inv X pins σ H s)
  (hch : ∀ b ∈ ch, (b ∈ X.ex ∨ X.s₀.heap.objs.size <= b) /\ b ≠ X.env.locals /\ (∀ x c, X.env.cells.lookup x = some c -> c ≠ b) /\ ∀ p ∈ X.pn ++ pins, p.1 ≠ b)
  (keep : ∀ b o, b ≠ X.env.locals -> b ∉ X.fs -> b ∉ ch -> s.heap.get? b = some o -> H b = none -> h'.get? b = some o)
  (slot : ∀ b o, b ≠ X.env.locals -> b ∈ X.fs -> b ∉ ch -> s.heap.get? b = some o -> H b = none -> ∃ sl, h'.get? b = some { o with slots := sl }) (free : ∀ b o, b ∉ ch -> s.heap.get? b = some o -> H b = none -> H' b = none)
  (there : ∀ b o, b ∉ ch -> s.heap.get? b = some o -> ∃ o', h'.get? b = some o')
  (tups : ∀ b xs, H b = some (.tup xs) -> H' b = some (.tup xs)) (frzs : ∀ b o u, H b = some (.frz o u) -> H' b = some (.frz o u)) (tbls : ∀ b ps, H b = some (.tbl ps) -> ∃ more, H' b = some (.tbl (ps ++ more)))
  (ns : ∀ m, s.heap.Ns X.env.locals m -> h'.Ns X.env.locals m) (hok : HOk X.prog X.w H' h') (hg : AllBare g') :
  Inv X pins σ H' { s with heap := h', gens := g', drawn := d', toks := t' } := by
 have neL : ∀ b o, X.s₀.heap.get? b = some o -> b ≠ X.env.locals := fun b o e => Nat.ne_of_lt (Nat.lt_of_lt_of_le (Heap.lt_size e) I.ok.above)
 have neC : ∀ b o, X.s₀.heap.get? b = some o -> b ∉ X.ex -> b ∉ ch := fun b o e hx hb => by
  rcases (hch b hb).1 with z | z
  ·exact hx z
  ·exact absurd (Nat.lt_of_lt_of_le (Heap.lt_size e) z) (Nat.lt_irrefl _)
 have cellK : ∀ x c, X.env.cells.lookup x = some c -> ∀ v, s.heap.IsCell c v -> h'.IsCell c v := fun x c e v ⟨o, ho, hd⟩ => by
  have nch : c ∉ ch := fun z => (hch c z).2.2.1 x c e rfl
  by_cases hc : c ∈ X.fs
  ·obtain ⟨sl, q⟩ := slot c o (I.cne x c e) hc nch ho (I.freeC x c e)
   exact ⟨_, q, hd⟩
  ·exact ⟨o, keep c o (I.cne x c e) hc nch ho (I.freeC x c e), hd⟩
 refine ⟨I.ok, I.os, hg, ⟨fun b o e n hb hx => ?_, fun b o e n hb hx => ?_, fun b o e n hx => ?_, fun b o e hx => ?_, fun b xs e => tups b xs (I.base.tups b xs e), fun b o xs e => frzs b o xs (I.base.frzs b o xs e), fun b ps e => ?_⟩, ?_, fun x c e => ?_, ?_, fun x c e => ?_, fun p hp => ?_, hok, I.len⟩
 ·exact keep b o (neL b o e) hb (neC b o e hx) (I.base.keep b o e n hb hx) (I.base.free b o e n hx)
 ·obtain ⟨sl, e1⟩ := I.base.slot b o e n hb hx
  obtain ⟨sl', e2⟩ := slot b _ (neL b o e) hb (neC b o e hx) e1 (I.base.free b o e n hx)
  exact ⟨sl', e2⟩
 ·obtain ⟨o', e1⟩ := I.base.there b o e hx
  exact free b o' (neC b o e hx) e1 (I.base.free b o e n hx)
 ·obtain ⟨o', e1⟩ := I.base.there b o e hx
  exact there b o' (neC b o e hx) e1
 ·obtain ⟨m1, e1⟩ := I.base.tbls b ps e
  obtain ⟨m2, e2⟩ := tbls b _ e1
  exact ⟨m1 ++ m2, by rw [e2, Array.append_assoc]⟩
 ·obtain ⟨m, hn, hl⟩ := I.loc
  refine ⟨m, ns m hn, fun i x v e1 e2 e3 => ?_⟩
  obtain ⟨u, r, l⟩ := hl i x v e1 e2 e3
  refine ⟨u, r, ?_⟩
  rcases l with l | ⟨k, c, e, z⟩
  ·exact .inl l
  ·exact .inr ⟨k, c, e, cellK x c e _ z⟩
 ·obtain ⟨v, z⟩ := I.cell x c e
  exact ⟨v, cellK x c e v z⟩
 ·obtain ⟨m, ⟨o, _, _, ho, _⟩, _⟩ := I.loc
  exact free _ o (fun z => (hch _ z).2.1 rfl) ho I.free
 ·obtain ⟨v, o, ho, hd⟩ := I.cell x c e
  exact free c o (fun z => (hch c z).2.2.1 x c e rfl) ho (I.freeC x c e)
 ·obtain ⟨e, n, ne, nf, d⟩ := I.pin p hp
  have nch : p.1 ∉ ch := fun z => (hch p.1 z).2.2.2 p hp rfl
  exact ⟨keep p.1 p.2 ne nf nch e n, free p.1 p.2 nch e n, ne, nf, d⟩
theorem Inv.un {t' : Nat} (I : Inv X pins σ H s) (u : Un X.fs [] H H' s.heap h') (hok : HOk X.prog X.w H' h') : Inv X pins σ H' { s with heap := h', toks := t' } := by
 obtain ⟨m, ⟨o, es, ep, ho, r⟩, _⟩ := id I.loc
 obtain ⟨sl, hL⟩ := u.any ho I.free (by simp)
 exact I.step (g' := s.gens) (d' := s.drawn) (ch := []) (fun _ z => nomatch z) (fun b o _ hb _ e n => u.keep b o e n hb (by simp)) (fun b o _ hb _ e n => u.slot b o e n hb (by simp)) (fun b o _ e n => u.free b o e n (by simp)) (fun b o _ e => u.there b o e (by simp)) u.tups u.frzs u.tbls (fun m' hm => by
  obtain ⟨o', es', ep', ho', r'⟩ := hm
  rw [ho] at ho'; cases ho'
  exact ⟨_, es', ep', hL, r'⟩) hok I.bare
theorem Inv.call {g' : Array GenState} {t' : Nat} {d' : Drawn} {ch : List Addr} (I : Inv X pins σ H s) (u : Un (frs X.stack) ch H H' s.heap h') (hok : HOk X.prog X.w H' h') (hg : AllBare g')
  (hch : ∀ b ∈ ch, (b ∈ X.ex ∨ X.s₀.heap.objs.size <= b) /\ b ≠ X.env.locals /\ (∀ x c, X.env.cells.lookup x = some c -> c ≠ b) /\ ∀ p ∈ X.pn ++ pins, p.1 ≠ b) :
  Inv X pins σ H' { s with heap := h', gens := g', drawn := d', toks := t' } := by
 obtain ⟨m, ⟨o, es, ep, ho, r⟩, _⟩ := id I.loc
 obtain ⟨sl, hL⟩ := u.any ho I.free fun z => (hch _ z).2.1 rfl
 exact I.step (ch := ch) hch (fun b o hL hb hc e n => u.keep b o e n (fun z => (List.mem_cons.mp (I.stkSub b z)).elim hL hb) hc) (fun b o _ _ hc e n => u.any e n hc) (fun b o hc e n => u.free b o e n hc) (fun b o hc e => u.there b o e hc) u.tups u.frzs u.tbls (fun m' hm => by
  obtain ⟨o', es', ep', ho', r'⟩ := hm
  rw [ho] at ho'; cases ho'
  exact ⟨_, es', ep', hL, r'⟩) hok hg
theorem Inv.turned {t' : Nat} {it : Addr} (I : Inv X pins σ H s) (k : ∀ b o, b ≠ it -> s.heap.get? b = some o -> h'.get? b = some o) (hn : H it = none) (hL : it ≠ X.env.locals)
  (h1 : it ∈ X.ex ∨ X.s₀.heap.objs.size <= it) (h2 : ∀ x c, X.env.cells.lookup x = some c -> c ≠ it) (h3 : ∀ p ∈ X.pn ++ pins, p.1 ≠ it) : Inv X pins σ H { s with heap := h', toks := t' } := by
 have nit : ∀ b u, H b = some u -> b ≠ it := fun b u e z => by rw [z, hn] at e; cases e
 refine I.step (g' := s.gens) (d' := s.drawn) (ch := [it]) (fun b hb => ?_) (fun b o _ _ hc e _ => k b o (fun z => hc (by simp [z])) e) (fun b o _ _ hc e _ => ⟨o.slots, k b o (fun z => hc (by simp [z])) e⟩) (fun _ _ _ _ n => n)
  (fun b o hc e => ⟨o, k b o (fun z => hc (by simp [z])) e⟩) (fun _ _ e => e) (fun _ _ _ e => e) (fun b ps e => ⟨#[], by rw [e]; simp⟩) (fun m hm => ?_) (fun b u e => ?_) I.bare
 ·have e : b = it := by simpa using hb
  subst e
  exact ⟨h1, hL, h2, h3⟩
 ·obtain ⟨o, es, ep, ho, r⟩ := hm
  exact ⟨o, es, ep, k _ o (Ne.symm hL) ho, r⟩
 ·refine (I.hok b u e).stay (fun c v hc q => k c v ?_ q) (fun _ q => q) fun _ _ q => q
  rcases hc with z | z
  ·rw [z]; exact nit b u e
  ·exact nit c _ z
theorem Inv.tok (I : Inv X pins σ H s) (t : Nat) : Inv X pins σ H { s with toks := t } := I.un (h' := s.heap) (t' := t) Un.refl I.hok
theorem Inv.kept {t' : Nat} (I : Inv X pins σ H s) (k : ∀ b u, s.heap.get? b = some u -> h'.get? b = some u) : Inv X pins σ H { s with heap := h', toks := t' } := I.un (Un.kept k) (I.hok.kept k)
theorem Inv.laid {a : Addr} {o : HO} {t' : Nat} (I : Inv X pins σ H s) (k : ∀ b u, s.heap.get? b = some u -> h'.get? b = some u) (hp : s.heap.objs.size <= a) (new : ObjOk X.prog X.w (upd H a o) h' a o) :
  Inv X pins σ (upd H a o) { s with heap := h', toks := t' } := I.un (Un.laid k hp (I.hok.fresh hp)) (I.hok.laid k hp new)
theorem Inv.write {x e : Addr} {o : HO} {t' : Nat} (I : Inv X pins σ H s) (mu : Mut (H x)) (he : e = x ∨ H e = some (.own x)) (k : ∀ b u, b ≠ e -> s.heap.get? b = some u -> h'.get? b = some u) (heo : ∃ u, h'.get? e = some u)
  (new : ObjOk X.prog X.w (upd H x o) h' x o) : Inv X pins σ (upd H x o) { s with heap := h', toks := t' } := I.un (Un.write mu he k heo) (I.hok.write mu he k heo new)
theorem Inv.pins_of {pins' : List (Addr × Obj)} (I : Inv X pins σ H s) (h : ∀ p ∈ pins', s.heap.get? p.1 = some p.2 /\ H p.1 = none /\ p.1 ≠ X.env.locals /\ p.1 ∉ X.fs /\ ∀ v, p.2.data ≠ .cell v) : Inv X pins' σ H s :=
 ⟨I.ok, I.os, I.bare, I.base, I.loc, I.cell, I.free, I.freeC, fun p hp => (List.mem_append.mp hp).elim (fun z => I.pin p (List.mem_append_left _ z)) (h p), I.hok, I.len⟩
theorem nodup_ix {N : List Str} (hN : N.Nodup) {i j : Nat} {x : Str} (a : N[i]? = some x) (b : N[j]? = some x) : i = j := by
 obtain ⟨h1, e1⟩ := List.getElem?_eq_some_iff.mp a
 obtain ⟨h2, e2⟩ := List.getElem?_eq_some_iff.mp b
 exact (List.getElem_inj hN).mp (e1.trans e2.symm)
theorem store_ok2 {M : Model} {A : Around} {E : Value -> Shared -> Prop} {i : Nat} {x : Str} {v : V} {u : Value} {Q : Unit -> Shared -> Prop} (I : Inv X pins σ H s) (hN : X.N.Nodup) (hi : X.N[i]? = some x) (hx : Loc X.env.scope x) (r : RelV v u)
  (h : ∀ s', Inv X pins (σ.set i (some v)) H s' -> (∃ a, Heap.SameBut a s.heap s'.heap /\ (a = X.env.locals ∨ X.env.cells.lookup x = some a)) -> Q () s') (hf : X.fn x = true ∨ X.env.scope.names.lookup x = some .local := by first | exact .inl rfl | exact .inr rfl | assumption) : wpAny M A (storeName X.env x u) Q E s := by
 obtain ⟨m, hn, hl⟩ := id I.loc
 have hcls : (X.env.scope.kind == .class || (X.env.scope.kind == .module && X.env.locals != X.env.globals)) = false := by rw [I.ok.kind]; rfl
 have hiσ : i < σ.length := by rw [I.len]; exact (List.getElem?_eq_some_iff.mp hi).1
 have cne := I.cne
 have tracked : ∀ {a : Addr} {h' : Heap}, (∃ o, s.heap.get? a = some o /\ H a = none) -> Heap.SameBut a s.heap h' -> HOk X.prog X.w H h' := fun {a h'} ha hs b ob e => by
  obtain ⟨_, _, hfree⟩ := ha
  refine (I.hok b ob e).stay (fun c w' hc q => (hs.2 c ?_).trans q) (fun _ q => q) fun _ _ q => q
  rintro rfl
  rcases hc with rfl | hc
  ·rw [hfree] at e; cases e
  ·rw [hfree] at hc; cases hc
 rcases hx with hk | hk
 ·refine wpAny_storeName_local hk hn (fun h' hn' hs => ?_) hcls
  obtain ⟨oL, _, _, hoL, _⟩ := id hn
  refine h _ ⟨I.ok, I.os, I.bare, ⟨fun b o e n hb hx => ?_, fun b o e n hb hx => ?_, I.base.free, fun b o e hx => ?_, I.base.tups, I.base.frzs, I.base.tbls⟩, ⟨_, hn', fun j y v' e1 e2 e3 => ?_⟩, fun y c e => ?_, I.free, I.freeC, fun p hp => ?_, tracked ⟨oL, hoL, I.free⟩ hs, by simpa using I.len⟩ ⟨_, hs, .inl rfl⟩
  ·exact (hs.2 b (Nat.ne_of_lt (Nat.lt_of_lt_of_le (Heap.lt_size e) I.ok.above))).trans (I.base.keep b o e n hb hx)
  ·obtain ⟨sl, e1⟩ := I.base.slot b o e n hb hx
   exact ⟨sl, (hs.2 b (Nat.ne_of_lt (Nat.lt_of_lt_of_le (Heap.lt_size e) I.ok.above))).trans e1⟩
  ·obtain ⟨o', e1⟩ := I.base.there b o e hx
   exact ⟨o', (hs.2 b (Nat.ne_of_lt (Nat.lt_of_lt_of_le (Heap.lt_size e) I.ok.above))).trans e1⟩
  ·by_cases hj : j = i
   ·subst hj
    rw [hi] at e1; cases e1
    rw [List.getElem?_set_self hiσ] at e2
    cases e2
    exact ⟨u, r, .inl ⟨hk, by simp⟩⟩
   ·rw [List.getElem?_set_ne (Ne.symm hj)] at e2
    obtain ⟨u', r', q⟩ := hl j y v' e1 e2 e3
    refine ⟨u', r', ?_⟩
    rcases q with ⟨k, e⟩ | ⟨k, c, e, z⟩
    ·refine .inl ⟨k, ?_⟩
     have : y ≠ x := fun e => hj (nodup_ix hN e1 (e ▸ hi))
     simp [this, e]
    ·exact .inr ⟨k, c, e, z.sameBut hs (cne y c e)⟩
  ·obtain ⟨w', z⟩ := I.cell y c e
   exact ⟨w', z.sameBut hs (cne y c e)⟩
  ·obtain ⟨e, n, ne, nf, d⟩ := I.pin p hp
   exact ⟨(hs.2 p.1 ne).trans e, n, ne, nf, d⟩
 ·have hfn : X.fn x = true := by
   rcases hf with z | z
   ·exact z
   ·rw [z] at hk; cases hk
  obtain ⟨c, hc⟩ := I.ok.has x (.inl hk)
  obtain ⟨w', z⟩ := I.cell x c hc
  refine wpAny_storeName_cell I.ok.kind hk hc z (fun h' hc' hs => ?_)
  obtain ⟨oc, hoc, hocd⟩ := id z
  refine h { s with heap := h' } ⟨I.ok, I.os, I.bare, ⟨fun b o e n hb hx => ?_, fun b o e n hb hx => ?_, I.base.free, fun b o e hx => ?_, I.base.tups, I.base.frzs, I.base.tbls⟩, ⟨m, hn.sameBut hs (Ne.symm (cne x c hc)), fun j y v' e1 e2 e3 => ?_⟩, fun y c' e => ?_, I.free, I.freeC, fun p hp => ?_, tracked ⟨oc, hoc, I.freeC x c hc⟩ hs, by simpa using I.len⟩ ⟨c, hs, .inr hc⟩
  ·exact (hs.2 b (Nat.ne_of_lt (Nat.lt_of_lt_of_le (Heap.lt_size e) (I.ok.cab x c hfn hc)))).trans (I.base.keep b o e n hb hx)
  ·obtain ⟨sl, e1⟩ := I.base.slot b o e n hb hx
   exact ⟨sl, (hs.2 b (Nat.ne_of_lt (Nat.lt_of_lt_of_le (Heap.lt_size e) (I.ok.cab x c hfn hc)))).trans e1⟩
  ·obtain ⟨o', e1⟩ := I.base.there b o e hx
   exact ⟨o', (hs.2 b (Nat.ne_of_lt (Nat.lt_of_lt_of_le (Heap.lt_size e) (I.ok.cab x c hfn hc)))).trans e1⟩
  ·by_cases hj : j = i
   ·subst hj
    rw [hi] at e1; cases e1
    rw [List.getElem?_set_self hiσ] at e2
    cases e2
    exact ⟨u, r, .inr ⟨.inl hk, c, hc, hc'⟩⟩
   ·rw [List.getElem?_set_ne (Ne.symm hj)] at e2
    obtain ⟨u', r', q⟩ := hl j y v' e1 e2 e3
    refine ⟨u', r', ?_⟩
    rcases q with q | ⟨k, c', e, z'⟩
    ·exact .inl q
    ·refine .inr ⟨k, c', e, z'.sameBut hs ?_⟩
     rintro rfl
     exact hj (nodup_ix hN e1 (I.ok.inj _ _ _ e hc ▸ hi))
  ·by_cases hcc : c' = c
   ·subst hcc; exact ⟨_, hc'⟩
   ·obtain ⟨w2, z2⟩ := I.cell y c' e
    exact ⟨w2, z2.sameBut hs hcc⟩
  ·obtain ⟨e, n, ne, nf, d⟩ := I.pin p hp
   refine ⟨(hs.2 p.1 ?_).trans e, n, ne, nf, d⟩
   intro q
   rw [q, hoc] at e
   have q' : oc = p.2 := Option.some.inj e
   exact d w' (by rw [<- q']; exact hocd)
theorem store_ok {M : Model} {A : Around} {E : Value -> Shared -> Prop} {i : Nat} {x : Str} {v : V} {u : Value} {Q : Unit -> Shared -> Prop} (I : Inv X pins σ H s) (hN : X.N.Nodup) (hi : X.N[i]? = some x) (hx : Loc X.env.scope x) (r : RelV v u)
  (h : ∀ s', Inv X pins (σ.set i (some v)) H s' -> Q () s') (hf : X.fn x = true ∨ X.env.scope.names.lookup x = some .local := by first | exact .inl rfl | exact .inr rfl | assumption) : wpAny M A (storeName X.env x u) Q E s :=
 store_ok2 I hN hi hx r (fun s' I' _ => h s' I') hf
theorem Inv.call' {s' : Shared} {ch : List Addr} (I : Inv X pins σ H s) (ho : s'.os = s.os) (u : Un (frs X.stack) ch H H' s.heap s'.heap) (hok : HOk X.prog X.w H' s'.heap) (hg : AllBare s'.gens)
  (hch : ∀ b ∈ ch, (b ∈ X.ex ∨ X.s₀.heap.objs.size <= b) /\ b ≠ X.env.locals /\ (∀ x c, X.env.cells.lookup x = some c -> c ≠ b) /\ ∀ p ∈ X.pn ++ pins, p.1 ≠ b) : Inv X pins σ H' s' := by
 obtain ⟨h', g', d', t', o'⟩ := s'
 have e : o' = s.os := ho
 subst e
 exact I.call (g' := g') (t' := t') (d' := d') u hok hg hch
end
abbrev XK := Value -> Option Addr -> Hp -> Prop
abbrev St := List (Option V)
abbrev VK := V -> Hp -> Prop
abbrev TE := St -> Hp -> VK -> Prop
abbrev TT := St -> Hp -> (Bool -> Hp -> Prop) -> Prop
abbrev TA := St -> Hp -> (List V -> Hp -> Prop) -> Prop
structure Ends where
 nx : St -> Hp -> Prop
 rt : VK
 bk : St -> Hp -> Prop := fun _ _ => False
 ct : St -> Hp -> Prop := fun _ _ => False
abbrev TS := Ends -> St -> Hp -> Prop
def EP (X : Cx) (pins : List (Addr × Obj)) (σ : St) (Q : VK) (u : Value) (s' : Shared) : Prop := ∃ v H', Inv X pins σ H' s' /\ RelV v u /\ Q v H'
def TP (X : Cx) (pins : List (Addr × Obj)) (σ : St) (Q : Bool -> Hp -> Prop) (b : Bool) (s' : Shared) : Prop := ∃ H', Inv X pins σ H' s' /\ Q b H'
def AP (X : Cx) (pins : List (Addr × Obj)) (σ : St) (Q : List V -> Hp -> Prop) (us : List Value) (s' : Shared) : Prop := ∃ vs H', Inv X pins σ H' s' /\ Vals vs us /\ Q vs H'
def SP (X : Cx) (pins : List (Addr × Obj)) (D : Ends) (f : Flow) (s' : Shared) : Prop :=
 match f with
 | .next => ∃ σ' H', Inv X pins σ' H' s' /\ D.nx σ' H'
 | .brk => ∃ σ' H', Inv X pins σ' H' s' /\ D.bk σ' H'
 | .cont => ∃ σ' H', Inv X pins σ' H' s' /\ D.ct σ' H'
 | .ret u => ∃ v σ' H', Inv X pins σ' H' s' /\ RelV v u /\ D.rt v H'
def PE (X : Cx) (e : Expr) (t : TE) : Prop :=
 ∀ (pins : List (Addr × Obj)) (s : Shared) (σ : St) (H : Hp) (Q : VK), Inv X pins σ H s -> t σ H Q -> wpAny (model X.prog X.w) X.A (eval e X.env) (EP X pins σ Q) X.xe s
def PT (X : Cx) (e : Expr) (t : TT) : Prop :=
 ∀ (pins : List (Addr × Obj)) (s : Shared) (σ : St) (H : Hp) (Q : Bool -> Hp -> Prop), Inv X pins σ H s -> t σ H Q -> wpAny (model X.prog X.w) X.A (isTrue e X.env (eval e X.env)) (TP X pins σ Q) X.xe s
def PW (X : Cx) (e : Expr) (t : TT) : Prop :=
 ∀ (whole : Sem Value) (pins : List (Addr × Obj)) (s : Shared) (σ : St) (H : Hp) (Q : Bool -> Hp -> Prop), Inv X pins σ H s -> t σ H Q -> wpAny (model X.prog X.w) X.A (isTrue e X.env whole) (TP X pins σ Q) X.xe s
theorem PW.pt {X : Cx} {e : Expr} {t : TT} (h : PW X e t) : PT X e t := h _
def PA (X : Cx) (es : List Expr) (t : TA) : Prop :=
 ∀ (pos : Pos) (pins : List (Addr × Obj)) (s : Shared) (σ : St) (H : Hp) (Q : List V -> Hp -> Prop), Inv X pins σ H s -> t σ H Q -> wpAny (model X.prog X.w) X.A (spliced (backTo pos (starEach es X.env))) (AP X pins σ Q) X.xe s
def PS (X : Cx) (st : Stmt) (t : TS) : Prop :=
 ∀ (pins : List (Addr × Obj)) (s : Shared) (σ : St) (H : Hp) (D : Ends), Inv X pins σ H s -> t D σ H -> wpAny (model X.prog X.w) X.A (exec st X.env) (SP X pins D) X.xe s
def PSs (X : Cx) (st : List Stmt) (t : TS) : Prop :=
 ∀ (pins : List (Addr × Obj)) (s : Shared) (σ : St) (H : Hp) (D : Ends), Inv X pins σ H s -> t D σ H -> wpAny (model X.prog X.w) X.A (execs st X.env) (SP X pins D) X.xe s
theorem thn {α : Type} {t : Sem α} {Q Q' : α -> Shared -> Prop} {M : Model} {A : Around} {E : Value -> Shared -> Prop} {s : Shared} (h : wpAny M A t Q E s) (hQ : ∀ a s, Q a s -> Q' a s) : wpAny M A t Q' E s := wpAny_mono h hQ fun _ _ x => x
end L2
namespace L2
open PySem PySem.Spec PyProof.Rows
section
variable {X : Cx}
def tVar (i : Nat) : TE := fun σ H Q => ∃ v, σ[i]? = some (some v) /\ Q v H
def tC (v : V) : TE := fun _ H Q => Q v H
theorem pe_var {i : Nat} {x : Str} {pos : Pos} (hN : X.N[i]? = some x) (hv : Vis X.env.scope x) (hd : (x == ("__debug__" : Str)) = false := by decide) (hcd : (x == ("__classdict__" : Str)) = false := by decide) : PE X (.Name x pos) (tVar i) := by
 intro pins s σ H Q I h
 obtain ⟨v, e, h⟩ := h
 obtain ⟨m, hn, hl⟩ := I.loc
 obtain ⟨u, r, l⟩ := hl i x v hN e hv
 have fin : EP X pins σ Q u s := ⟨v, H, I, r, h⟩
 rcases l with ⟨hk, hm⟩ | ⟨hk, c, hc, hcell⟩
 ·exact wpAny_Name (wpAny_loadName_local I.ok.kind hk hn hm fin) hd
 ·rcases hk with hk | hk
  ·exact wpAny_Name (wpAny_loadName_cell I.ok.kind hk hc hcell fin) hd
  ·exact wpAny_Name (wpAny_loadName_free I.ok.kind hk hc hcell fin hcd) hd
theorem pe_int {i j pos} : PE X (.Constant (.int i) j pos) (tC (.int i)) := fun _ _ _ H _ I h => wpAny_Constant_int ⟨.int i, H, I.tok _, ⟨_, rfl⟩, h⟩
theorem pe_bl {b j pos} : PE X (.Constant (.bool b) j pos) (tC (.bl b)) := fun _ _ _ H _ I h => Constant_bool ⟨.bl b, H, I, rfl, h⟩
theorem pe_non {j pos} : PE X (.Constant .none j pos) (tC .non) := fun _ _ _ H _ I h => Constant_none ⟨.non, H, I, rfl, h⟩
theorem pe_str {x j pos} : PE X (.Constant (.str x) j pos) (tC (.str x)) := fun _ _ _ H _ I h => Calls.Constant_str ⟨.str x, H, I.tok _, ⟨_, rfl⟩, h⟩
def Gl (X : Cx) (x : Str) : Prop := X.env.kindOf x = some .globalImplicit
theorem ld_glob {E : Value -> Shared -> Prop} {pins : List (Addr × Obj)} {s : Shared} {σ : St} {H : Hp} {x : Str} {u : Value} {pos : Pos} {Q : Value -> Shared -> Prop} (I : Inv X pins σ H s) (hg : Gl X x) (hm : X.mg x = some u) (h : Q u s)
  (hd : (x == ("__debug__" : Str)) = false := by decide) : wpAny (model X.prog X.w) X.A (eval (.Name x pos) X.env) Q E s :=
 Calls.Name_function_global I.ok.kind hg (Calls.loadGlobal_global (by rw [I.ok.glob]; exact I.mod.glob.keeps I.bk) hm h) hd
theorem ld_blt {E : Value -> Shared -> Prop} {pins : List (Addr × Obj)} {s : Shared} {σ : St} {H : Hp} {x : Str} {u : Value} {pos : Pos} {Q : Value -> Shared -> Prop} (I : Inv X pins σ H s) (hg : Gl X x) (hm : X.mg x = none) (hv : bootBuiltins x = some u) (h : Q u s)
  (hn : x ≠ "__name__" := by decide) (hd : (x == ("__debug__" : Str)) = false := by decide) : wpAny (model X.prog X.w) X.A (eval (.Name x pos) X.env) Q E s := by
 obtain ⟨mb, h1, h2⟩ := I.mod.blt
 exact Calls.Name_function_global I.ok.kind hg (Calls.loadGlobal_builtin (by rw [I.ok.glob]; exact I.mod.glob.keeps I.bk) hm (by rw [I.ok.blt]; exact h1.keeps I.bk) ((h2 x hn).trans hv) h) hd
theorem pe_glob {x : Str} {v : V} {u : Value} {pos : Pos} (hg : Gl X x) (hm : X.mg x = some u) (r : RelV v u) (hd : (x == ("__debug__" : Str)) = false := by decide) : PE X (.Name x pos) (tC v) :=
 fun _ _ _ H _ I h => ld_glob I hg hm ⟨v, H, I, r, h⟩ hd
theorem pe_bltn {x : Str} {v : V} {u : Value} {pos : Pos} (hg : Gl X x) (hm : X.mg x = none) (hv : bootBuiltins x = some u) (r : RelV v u) (hn : x ≠ "__name__" := by decide) (hd : (x == ("__debug__" : Str)) = false := by decide) : PE X (.Name x pos) (tC v) :=
 fun _ _ _ H _ I h => ld_blt I hg hm hv ⟨v, H, I, r, h⟩ hn hd
def t2I (ta tb : TE) (k : Int -> Int -> Hp -> Prop) : St -> Hp -> Prop := fun σ H => ta σ H fun x H1 => tb σ H1 fun y H2 => ∃ i j, x = .int i /\ y = .int j /\ k i j H2
def tAdd (ta tb : TE) : TE := fun σ H Q => t2I ta tb (fun i j H2 => Q (.int (i + j)) H2) σ H
def tSub (ta tb : TE) : TE := fun σ H Q => t2I ta tb (fun i j H2 => Q (.int (i - j)) H2) σ H
def tMul (ta tb : TE) : TE := fun σ H Q => t2I ta tb (fun i j H2 => (-(2 ^ 64) < i /\ i < 2 ^ 64) /\ Q (.int (i * j)) H2) σ H
variable {a b : Expr} {ta tb : TE} {pos : Pos}
def PC (X : Cx) (op : CmpOp) (a b : Expr) (t : TE) : Prop :=
 ∀ (pins : List (Addr × Obj)) (s : Shared) (σ : St) (H : Hp) (Q : VK), Inv X pins σ H s -> t σ H Q ->
  wpAny (model X.prog X.w) X.A (eval a X.env) (fun v s₁ => wpAny (model X.prog X.w) X.A (eval b X.env) (fun u s₂ => wpAny (model X.prog X.w) X.A (compareOp op v u) (EP X pins σ Q) X.xe s₂) X.xe s₁) X.xe s
theorem nobehind (b : Expr) {op : CmpOp} (h : op ≠ .In) (h2 : op ≠ .NotIn) : behindInMarks op b = false := by
 have e1 : (op == CmpOp.In) = false := by cases op <;> first | rfl | exact absurd rfl h
 have e2 : (op == CmpOp.NotIn) = false := by cases op <;> first | rfl | exact absurd rfl h2
 cases b <;> simp [behindInMarks, e1, e2]
def tCmp (p : Int -> Int -> Bool) (ta tb : TE) : TE := fun σ H Q => t2I ta tb (fun i j H2 => Q (.bl (p i j)) H2) σ H
abbrev tLt : TE -> TE -> TE := tCmp fun i j => decide (i < j)
abbrev tLe : TE -> TE -> TE := tCmp fun i j => decide (i <= j)
abbrev tGt : TE -> TE -> TE := tCmp fun i j => decide (j < i)
abbrev tGe : TE -> TE -> TE := tCmp fun i j => decide (j <= i)
abbrev tEqI : TE -> TE -> TE := tCmp fun i j => decide (i = j)
abbrev tNeI : TE -> TE -> TE := tCmp fun i j => !decide (i = j)
def tIsN (ta : TE) : TE := fun σ H Q => ta σ H fun x H1 => Q (.bl (decide (x = .non))) H1
def tNotN (ta : TE) : TE := fun σ H Q => ta σ H fun x H1 => Q (.bl (!decide (x = .non))) H1
theorem RelV.none_iff {x : V} {v : Value} (r : RelV x v) : (v == Value.none) = decide (x = .non) := by
 cases x with
 | non => cases r; rfl
 | bl _ => cases r; rfl
 | int _ => obtain ⟨t, rfl⟩ := r; rfl
 | str _ => obtain ⟨t, rfl⟩ := r; rfl
 | byt _ => obtain ⟨t, rfl⟩ := r; rfl
 | flt _ => obtain ⟨t, rfl⟩ := r; rfl
 | ref _ => cases r; rfl
 | ty _ => cases r; rfl
theorem pc_isN {j pos'} (ha : PE X a ta) : PC X .Is a (.Constant .none j pos') (tIsN ta) := by
 intro pins s σ H Q I h
 refine thn (ha pins s σ H _ I h) fun v s1 ⟨x, H1, I1, r1, q1⟩ => ?_
 exact Constant_none (is_none_gen ⟨.bl _, H1, I1, by rw [r1.none_iff]; rfl, q1⟩)
theorem pc_notN {j pos'} (ha : PE X a ta) : PC X .IsNot a (.Constant .none j pos') (tNotN ta) := by
 intro pins s σ H Q I h
 refine thn (ha pins s σ H _ I h) fun v s1 ⟨x, H1, I1, r1, q1⟩ => ?_
 exact Constant_none (isnot_none_gen ⟨.bl _, H1, I1, by rw [r1.none_iff]; rfl, q1⟩)
def tB (t : TE) : TT := fun σ H Q => t σ H fun x H1 => ∃ c, x = .bl c /\ Q c H1
theorem pe_cmp {op : CmpOp} {t : TE} (h : PC X op a b t) (h1 : behindInMarks op b = false := by first | exact nobehind _ (by decide) (by decide) | rfl) : PE X (.Compare a [op] [b] pos) t := fun pins s σ H Q I hw => wpAny_Compare1 (h pins s σ H Q I hw) h1
theorem pt_cmp {op : CmpOp} {t : TE} (h : PC X op a b t) (h1 : behindInMarks op b = false := by first | exact nobehind _ (by decide) (by decide) | rfl) : PT X (.Compare a [op] [b] pos) (tB t) := by
 intro pins s σ H Q I hw
 refine wpAny_isTrue_Compare1 (thn (h pins s σ H _ I hw) fun v s1 h1 => thn h1 fun u s2 h2 => thn h2 fun c s3 ⟨x, H1, I1, r1, q1⟩ => ?_) h1
 obtain ⟨d, rfl, q⟩ := q1
 cases r1
 exact wpAny_truthy_bool ⟨H1, I1, q⟩
theorem pt_val {e : Expr} {t : TE} (h : PE X e t) (he : ∀ whole, isTrue e X.env whole = (do let v <- whole; standAt e.pos; holding [v] (truthy v)) := by intro _; rfl) : PT X e (tB t) := by
 intro pins s σ H Q I hw
 refine isTrue_plain (thn (h pins s σ H _ I hw) fun v s1 ⟨x, H1, I1, r1, q1⟩ => ?_) (he _)
 obtain ⟨d, rfl, q⟩ := q1
 cases r1
 exact wpAny_truthy_bool ⟨H1, I1, q⟩
variable {tA tB' : TT} {rest : List Expr}
def tAnd (t u : TT) : TT := fun σ H Q => t σ H fun c H1 => if c = true then u σ H1 Q else Q false H1
def tOr (t u : TT) : TT := fun σ H Q => t σ H fun c H1 => if c = true then Q true H1 else u σ H1 Q
def tNot (t : TT) : TT := fun σ H Q => t σ H fun c H1 => Q (!c) H1
theorem pw_and1 (ha : PT X a tA) : PW X (.BoolOp .And [a] pos) tA := by
 intro wh pins s σ H Q I h
 refine isTrue_and (thn (ha pins s σ H Q I h) fun c s1 e => ?_)
 cases c with
 | true => exact isTrue_and_nil e
 | false => exact e
theorem pw_or1 (ha : PT X a tA) : PW X (.BoolOp .Or [a] pos) tA := by
 intro wh pins s σ H Q I h
 refine isTrue_or (thn (ha pins s σ H Q I h) fun c s1 e => ?_)
 cases c with
 | false => exact isTrue_or_nil e
 | true => exact e
theorem pw_and (ha : PT X a tA) (hb : PW X (.BoolOp .And (b :: rest) pos) tB') : PW X (.BoolOp .And (a :: b :: rest) pos) (tAnd tA tB') := by
 intro wh pins s σ H Q I h
 refine isTrue_and (thn (ha pins s σ H _ I h) fun c s1 ⟨H1, I1, q1⟩ => ?_)
 cases c with
 | true => exact hb wh pins s1 σ H1 Q I1 q1
 | false => exact ⟨H1, I1, q1⟩
theorem pw_or (ha : PT X a tA) (hb : PW X (.BoolOp .Or (b :: rest) pos) tB') : PW X (.BoolOp .Or (a :: b :: rest) pos) (tOr tA tB') := by
 intro wh pins s σ H Q I h
 refine isTrue_or (thn (ha pins s σ H _ I h) fun c s1 ⟨H1, I1, q1⟩ => ?_)
 cases c with
 | true => exact ⟨H1, I1, q1⟩
 | false => exact hb wh pins s1 σ H1 Q I1 q1
theorem pt_not (ha : PT X a tA) : PT X (.UnaryOp .Not a pos) (tNot tA) := by
 intro pins s σ H Q I h
 exact isTrue_not (ha pins s σ H (fun c H1 => Q (!c) H1) I h)
def tAndV (ta tb : TE) : TE := fun σ H Q => ta σ H fun x H1 => ∃ c, x = .bl c /\ if c = true then tb σ H1 Q else Q (.bl false) H1
def tOrV (ta tb : TE) : TE := fun σ H Q => ta σ H fun x H1 => ∃ c, x = .bl c /\ if c = true then Q (.bl true) H1 else tb σ H1 Q
def tNotV (ta : TE) : TE := fun σ H Q => ta σ H fun x H1 => ∃ c, x = .bl c /\ Q (.bl (!c)) H1
theorem pe_one {op} {t : TE} (h : PE X a t) : PE X (.BoolOp op [a] pos) t := fun pins s σ H Q I hw => BoolOp_one (h pins s σ H Q I hw)
theorem pe_and (ha : PE X a ta) (hb : PE X (.BoolOp .And (b :: rest) pos) tb) : PE X (.BoolOp .And (a :: b :: rest) pos) (tAndV ta tb) := by
 intro pins s σ H Q I h
 refine BoolOp_and (thn (ha pins s σ H _ I h) fun v s1 ⟨x, H1, I1, r1, q1⟩ => ?_)
 obtain ⟨c, rfl, q1⟩ := q1
 cases r1
 refine wpAny_truthy_bool ?_
 cases c with
 | true => exact hb pins s1 σ H1 Q I1 q1
 | false => exact ⟨.bl false, H1, I1, rfl, q1⟩
theorem pe_or (ha : PE X a ta) (hb : PE X (.BoolOp .Or (b :: rest) pos) tb) : PE X (.BoolOp .Or (a :: b :: rest) pos) (tOrV ta tb) := by
 intro pins s σ H Q I h
 refine BoolOp_or (thn (ha pins s σ H _ I h) fun v s1 ⟨x, H1, I1, r1, q1⟩ => ?_)
 obtain ⟨c, rfl, q1⟩ := q1
 cases r1
 refine wpAny_truthy_bool ?_
 cases c with
 | false => exact hb pins s1 σ H1 Q I1 q1
 | true => exact ⟨.bl true, H1, I1, rfl, q1⟩
theorem pe_not (ha : PE X a ta) : PE X (.UnaryOp .Not a pos) (tNotV ta) := by
 intro pins s σ H Q I h
 refine UnaryOp_ (thn (ha pins s σ H _ I h) fun v s1 ⟨x, H1, I1, r1, q1⟩ => ?_)
 obtain ⟨c, rfl, q1⟩ := q1
 cases r1
 exact not_of (wpAny_truthy_bool ⟨.bl (!c), H1, I1, rfl, q1⟩)
def tIf (t : TT) (ta tb : TE) : TE := fun σ H Q => t σ H fun c H1 => if c = true then ta σ H1 Q else tb σ H1 Q
theorem pe_ifExp {c : Expr} (hc : PT X c tA) (ha : PE X a ta) (hb : PE X b tb) : PE X (.IfExp c a b pos) (tIf tA ta tb) := by
 intro pins s σ H Q I h
 refine wpAny_IfExp (thn (hc pins s σ H _ I h) fun d s1 ⟨H1, I1, q1⟩ => ?_)
 cases d with
 | true => exact ha pins s1 σ H1 Q I1 q1
 | false => exact hb pins s1 σ H1 Q I1 q1
end
end L2
namespace L2
open PySem PySem.Spec PyProof.Rows
def SqL (K : PySem.W.Frag) (H : Hp) (a : Addr) (xs : List V) : Prop :=
 Rd H a (.lst xs) ∨
  ∃ (o : Obj) (its : Array Value) (n : Nat), K.lookup a = some o /\ o.cls = .type "list" /\ o.dict = none /\ o.data = .seq its n /\ its.size <= sizeLine /\ Vals xs its.toList
def SqT (K : PySem.W.Frag) (H : Hp) (a : Addr) (xs : List V) : Prop :=
 Rd H a (.tup xs) ∨
  ∃ (o : Obj) (its : Array Value) (n : Nat), K.lookup a = some o /\ o.cls = .type "tuple" /\ o.data = .seq its n /\ its.size <= sizeLine /\ Vals xs its.toList
def absV : Value -> Option V
 | .none => some .non
 | .bool b => some (.bl b)
 | .int i _ => some (.int i)
 | .str x _ => some (.str x)
 | .bytes b _ => some (.byt b)
 | .float b _ => some (.flt b)
 | .ref a => some (.ref a)
 | .type n => some (.ty n)
 | _ => none
theorem RelV.abs {x : V} {u : Value} (r : RelV x u) : absV u = some x := by
 cases x with
 | non => cases r; rfl
 | bl _ => cases r; rfl
 | int _ => obtain ⟨t, rfl⟩ := r; rfl
 | str _ => obtain ⟨t, rfl⟩ := r; rfl
 | byt _ => obtain ⟨t, rfl⟩ := r; rfl
 | flt _ => obtain ⟨t, rfl⟩ := r; rfl
 | ref _ => cases r; rfl
 | ty _ => cases r; rfl
theorem RelV.inj {x y : V} {u : Value} (r : RelV x u) (q : RelV y u) : x = y := Option.some.inj (r.abs.symm.trans q.abs)
theorem Vals.inj : ∀ {xs ys : List V} {us : List Value}, Vals xs us -> Vals ys us -> xs = ys
 | _, _, _, .nil, .nil => rfl
 | _, _, _, .cons r t, .cons r' t' => by rw [r.inj r', Vals.inj t t']
section
variable {X : Cx} {pins : List (Addr × Obj)} {σ : St} {H : Hp} {s : Shared} {a : Addr} {xs ys : List V}
theorem SqL.of {K : PySem.W.Frag} (h : H a = some (.lst xs)) : SqL K H a xs := .inl (.inl h)
theorem SqT.of {K : PySem.W.Frag} (h : H a = some (.tup xs)) : SqT K H a xs := .inl (.inl h)
theorem Inv.list (I : Inv X pins σ H s) (h : SqL X.K H a xs) : ∃ its : List Value, Vals xs its /\ PlainL s.heap a its.toArray /\ xs.length <= sizeLine := by
 rcases h with h | ⟨o, its, n, hk, hc, hd, hs, hz, r⟩
 ·obtain ⟨z, its, n, r, e⟩ := h.ok I.hok
  exact ⟨its, r, ⟨_, n, e, rfl, rfl, rfl⟩, z⟩
 ·refine ⟨its.toList, r, ⟨o, n, I.kIn a o hk, hc, hd, by simpa using hs⟩, ?_⟩
  have e := r.length
  simp only [Array.length_toList] at e
  omega
theorem Inv.tuple (I : Inv X pins σ H s) (h : SqT X.K H a xs) : ∃ its : List Value, Vals xs its /\ IsTup s.heap a its.toArray /\ xs.length <= sizeLine := by
 rcases h with h | ⟨o, its, n, hk, hc, hs, hz, r⟩
 ·obtain ⟨z, its, r, p, _⟩ := h.ok I.hok
  exact ⟨its, r, p, z⟩
 ·refine ⟨its.toList, r, ⟨o, I.kIn a o hk, hc, n, by simpa using hs⟩, ?_⟩
  have e := r.length
  simp only [Array.length_toList] at e
  omega
theorem Inv.list_inj (I : Inv X pins σ H s) (h : SqL X.K H a xs) (h' : SqL X.K H a ys) : xs = ys := by
 obtain ⟨its, r, ⟨o, n, e, _, _, d⟩, _⟩ := I.list h
 obtain ⟨its', r', ⟨o', n', e', _, _, d'⟩, _⟩ := I.list h'
 rw [e] at e'; cases e'
 rw [d] at d'
 injection d' with d1 _
 have : its = its' := by simpa using congrArg Array.toList d1
 subst this
 exact r.inj r'
theorem Inv.tuple_inj (I : Inv X pins σ H s) (h : SqT X.K H a xs) (h' : SqT X.K H a ys) : xs = ys := by
 obtain ⟨its, r, ⟨o, e, _, n, d⟩, _⟩ := I.tuple h
 obtain ⟨its', r', ⟨o', e', _, n', d'⟩, _⟩ := I.tuple h'
 rw [e] at e'; cases e'
 rw [d] at d'
 injection d' with d1 _
 have : its = its' := by simpa using congrArg Array.toList d1
 subst this
 exact r.inj r'
end
abbrev Cx.wish (X : Cx) (E : Value -> Shared -> Prop) : Cx := { X with xe := E }
abbrev Cx.nox (X : Cx) : Cx := X.wish fun _ _ => False
theorem Cx.Ok.wish {X : Cx} (ok : X.Ok) (E : Value -> Shared -> Prop) : (X.wish E).Ok :=
 ⟨ok.mod, ok.kind, ok.glob, ok.blt, ok.above, ok.inj, ok.has, ok.cab, ok.hd, ok.frames, ok.stk, ok.exf, ok.bs, ok.bsz, ok.noex, ok.exfs, ok.funs, ok.frf⟩
theorem Cx.Ok.unwish {X : Cx} {E : Value -> Shared -> Prop} (ok : (X.wish E).Ok) : X.Ok :=
 ⟨ok.mod, ok.kind, ok.glob, ok.blt, ok.above, ok.inj, ok.has, ok.cab, ok.hd, ok.frames, ok.stk, ok.exf, ok.bs, ok.bsz, ok.noex, ok.exfs, ok.funs, ok.frf⟩
section
variable {X : Cx} {pins : List (Addr × Obj)} {σ : St} {H : Hp} {s : Shared} {E : Value -> Shared -> Prop}
theorem Inv.wish (I : Inv X pins σ H s) (E : Value -> Shared -> Prop) : Inv (X.wish E) pins σ H s := ⟨I.ok.wish E, I.os, I.bare, I.base, I.loc, I.cell, I.free, I.freeC, I.pin, I.hok, I.len⟩
theorem Inv.unwish (I : Inv (X.wish E) pins σ H s) : Inv X pins σ H s := ⟨I.ok.unwish, I.os, I.bare, I.base, I.loc, I.cell, I.free, I.freeC, I.pin, I.hok, I.len⟩
theorem SP.unwish {D : Ends} {f : Flow} {s' : Shared} (h : SP (X.wish E) pins D f s') : SP X pins D f s' := by
 cases f with
 | next => obtain ⟨σ', H', I, q⟩ := h; exact ⟨σ', H', I.unwish, q⟩
 | brk => obtain ⟨σ', H', I, q⟩ := h; exact ⟨σ', H', I.unwish, q⟩
 | cont => obtain ⟨σ', H', I, q⟩ := h; exact ⟨σ', H', I.unwish, q⟩
 | ret u => obtain ⟨v, σ', H', I, r, q⟩ := h; exact ⟨v, σ', H', I.unwish, r, q⟩
theorem PSs.nox {st : List Stmt} {t : TS} (h : PSs X.nox st t) : PSs X st t := fun pins s σ H D I hw =>
 wpAny_mono (h pins s σ H D (I.wish _) hw) (fun _ _ q => q.unwish) fun _ _ z => False.elim z
end
section
variable {X : Cx} {st : Stmt} {rest : List Stmt} {t u : TS} {e : Expr} {te : TE} {pos : Pos}
def tNext : TS := fun D σ H => D.nx σ H
def tSeq (t u : TS) : TS := fun D σ H => t { D with nx := u D } σ H
theorem pss_nil : PSs X [] tNext := fun _ _ σ H _ I h => wpAny_execs_nil ⟨σ, H, I, h⟩
theorem pss_cons (h1 : PS X st t) (h2 : PSs X rest u) : PSs X (st :: rest) (tSeq t u) := by
 intro pins s σ H D I h
 refine wpAny_execs_cons (thn (h1 pins s σ H { D with nx := u D } I h) fun f s1 q => ?_)
 cases f with
 | next =>
  obtain ⟨σ', H', I', q⟩ := q
  exact h2 pins s1 σ' H' D I' q
 | ret v => exact q
 | brk => exact q
 | cont => exact q
theorem pss_one (h1 : PS X st t) : PSs X [st] t := by
 intro pins s σ H D I h
 refine wpAny_execs_cons (thn (h1 pins s σ H D I h) fun f s1 q => ?_)
 cases f with
 | next => exact wpAny_execs_nil q
 | ret v => exact q
 | brk => exact q
 | cont => exact q
def tBreak : TS := fun D σ H => D.bk σ H
def tCont : TS := fun D σ H => D.ct σ H
theorem Inv.quiet {pins : List (Addr × Obj)} {σ : St} {H : Hp} {s : Shared} (I : Inv X pins σ H s) : interactive X.env = false := by simp [interactive, I.ok.kind]
def tDrop (te : TE) : TS := fun D σ H => te σ H fun _ H1 => D.nx σ H1
theorem ps_expr (he : PE X e te) (hs : swapsWith e none pos.line X.env = pure false := by rfl) : PS X (.Expr e pos) (tDrop te) := by
 intro pins s σ H D I h
 exact wpAny_Expr_any (thn (he pins s σ H _ I h) fun v s1 ⟨x, H1, I1, r1, q1⟩ => ⟨σ, H1, I1, q1⟩) I.quiet hs
def tRet (te : TE) : TS := fun D σ H => te σ H D.rt
theorem ps_ret (he : PE X e te) : PS X (.Return (some e) pos) (tRet te) := by
 intro pins s σ H D I h
 exact wpAny_Return_some (thn (he pins s σ H _ I h) fun v s1 ⟨x, H1, I1, r1, q1⟩ => ⟨x, σ, H1, I1, r1, q1⟩)
def tRetN : TS := fun D _ H => D.rt .non H
def tIfS (c : TT) (t u : TS) : TS := fun D σ H => c σ H fun b H1 => if b = true then t D σ H1 else u D σ H1
theorem ps_if {c : Expr} {a b : List Stmt} {tc : TT} (hc : PT X c tc) (ha : PSs X a t) (hb : PSs X b u) : PS X (.If c a b pos) (tIfS tc t u) := by
 intro pins s σ H D I h
 refine wpAny_If (thn (hc pins s σ H _ I h) fun d s1 ⟨H1, I1, q1⟩ => ?_)
 cases d with
 | true => exact ha pins s1 σ H1 D I1 q1
 | false => exact hb pins s1 σ H1 D I1 q1
def tNever : TS := fun _ _ _ => False
theorem pss_never {sts : List Stmt} : PSs X sts tNever := fun _ _ _ _ _ _ h => h.elim
end
abbrev TG := V -> St -> Hp -> (St -> Hp -> Prop) -> Prop
abbrev TGs := List V -> St -> Hp -> (St -> Hp -> Prop) -> Prop
def PG (X : Cx) (target : Expr) (t : TG) : Prop :=
 ∀ (pins : List (Addr × Obj)) (s : Shared) (σ : St) (H : Hp) (v : V) (u : Value) (Q : St -> Hp -> Prop), Inv X pins σ H s -> RelV v u -> t v σ H Q ->
  wpAny (model X.prog X.w) X.A (assign target X.env u) (fun _ s' => ∃ σ' H', Inv X pins σ' H' s' /\ Q σ' H') X.xe s
def PGs (X : Cx) (ts : List Expr) (t : TGs) : Prop :=
 ∀ (pins : List (Addr × Obj)) (s : Shared) (σ : St) (H : Hp) (vs : List V) (us : List Value) (Q : St -> Hp -> Prop), Inv X pins σ H s -> Vals vs us -> t vs σ H Q ->
  wpAny (model X.prog X.w) X.A (assignInOrder ((assignEach ts X.env).map (·.2)) us) (fun _ s' => ∃ σ' H', Inv X pins σ' H' s' /\ Q σ' H') X.xe s
abbrev TSet := V -> V -> V -> Hp -> (Hp -> Prop) -> Prop
def PSet (X : Cx) (t : TSet) : Prop :=
 ∀ (pins : List (Addr × Obj)) (s : Shared) (σ : St) (H : Hp) (o i v : V) (ov iv u : Value) (Q : Hp -> Prop), Inv X pins σ H s -> RelV o ov -> RelV i iv -> RelV v u -> t o i v H Q ->
  wpAny (model X.prog X.w) X.A (setItem ov iv u) (fun _ s' => ∃ H', Inv X pins σ H' s' /\ Q H') X.xe s
abbrev TIp := V -> V -> Hp -> VK -> Prop
def PIp (X : Cx) (op : Operator) (t : TIp) : Prop :=
 ∀ (pins : List (Addr × Obj)) (s : Shared) (σ : St) (H : Hp) (x y : V) (v u : Value) (Q : VK), Inv X pins σ H s -> RelV x v -> RelV y u -> t x y H Q ->
  wpAny (model X.prog X.w) X.A (inplaceOp op v u) (EP X pins σ Q) X.xe s
section
variable {X : Cx} {pos : Pos}
def gName (i : Nat) : TG := fun v σ H Q => Q (σ.set i (some v)) H
theorem pg_name {i : Nat} {x : Str} (hN : X.N.Nodup) (hi : X.N[i]? = some x) (hx : Loc X.env.scope x) (hf : X.fn x = true ∨ X.env.scope.names.lookup x = some .local := by first | exact .inl rfl | exact .inr rfl | assumption) : PG X (.Name x pos) (gName i) := by
 intro pins s σ H v u Q I r h
 exact wpAny_assign_Name (store_ok I hN hi hx r (fun s' I' => ⟨_, H, I', h⟩) hf)
def gNil : TGs := fun vs σ H Q => vs = [] /\ Q σ H
def gCons (t : TG) (u : TGs) : TGs := fun vs σ H Q => ∃ v r, vs = v :: r /\ t v σ H fun σ' H' => u r σ' H' Q
theorem pgs_nil : PGs X [] gNil := by
 intro pins s σ H vs us Q I r h
 obtain ⟨e, h⟩ := h
 subst e
 cases r
 exact assignInOrder_nil ⟨σ, H, I, h⟩
theorem pgs_cons {e : Expr} {es : List Expr} {t : TG} {u : TGs} (h1 : PG X e t) (h2 : PGs X es u)
  (hs : (assignEach (e :: es) X.env).map (·.2) = assign e X.env :: (assignEach es X.env).map (·.2) := by rfl) : PGs X (e :: es) (gCons t u) := by
 intro pins s σ H vs us Q I r h
 obtain ⟨v, vr, e1, h⟩ := h
 subst e1
 cases r with
 | cons r rr =>
  rw [hs]
  refine assignInOrder_cons (thn (h1 pins s σ H _ _ _ I r h) fun _ s1 ⟨σ1, H1, I1, q1⟩ => ?_)
  exact h2 pins s1 σ1 H1 _ _ Q I1 rr q1
def gTup (K : PySem.W.Frag) (n : Nat) (t : TGs) : TG := fun v σ H Q => ∃ a xs, v = .ref a /\ SqT K H a xs /\ xs.length = n /\ t xs σ H Q
theorem pg_tup {es : List Expr} {k : Nat} {t : TGs} {n : Nat} (hc : X.calm = true) (h : PGs X es t)
  (hn : (assignEach es X.env).length = n := by rfl) (hst : (assignEach es X.env).findIdx? (·.1) = none := by rfl) : PG X (.Tuple es k pos) (gTup X.K n t) := by
 intro pins s σ H v u Q I r hw
 obtain ⟨a, xs, e1, hq, hl, hw⟩ := hw
 subst e1
 cases r
 obtain ⟨its, rv, ht, hz⟩ := I.tuple hq
 refine assign_Tuple_tuple (I.ok.hd hc) ht (by simp [hn, <- hl, rv.length]) hst fun h' hx => ?_
 have I1 : Inv X pins σ H { s with heap := h' } := I.kept (t' := s.toks) fun b o e => hx b o (Nat.ne_of_lt (Heap.lt_size e)) e
 exact h pins _ σ H xs _ Q I1 (by simpa using rv) hw
def gSub (to ti : TE) (t : TSet) : TG := fun v σ H Q => to σ H fun o H1 => ti σ H1 fun i H2 => t o i v H2 fun H3 => Q σ H3
theorem pg_sub {o i : Expr} {to ti : TE} {t : TSet} (ho : PE X o to) (hi : PE X i ti) (hs : PSet X t)
  (ha : ∀ v, assign (.Subscript o i pos) X.env v = (do
   let ov <- holding [v] (eval o X.env)
   let iv <- holding [v, ov] (eval i X.env)
   standAt pos
   holding [v, ov, iv] (setItem ov iv v)
   release [v, ov, iv] []) := by intro _; rfl) : PG X (.Subscript o i pos) (gSub to ti t) := by
 intro pins s σ H v u Q I r h
 rw [ha]
 refine wpAny_bind (wpAny_holding (thn (ho pins s σ H _ I h) fun ov s1 ⟨x, H1, I1, r1, q1⟩ => ?_))
 refine wpAny_bind (wpAny_holding (thn (hi pins s1 σ H1 _ I1 q1) fun iv s2 ⟨y, H2, I2, r2, q2⟩ => ?_))
 refine wpAny_bind (wpAny_standAt (wpAny_bind (wpAny_holding (thn (hs pins s2 σ H2 x y v ov iv u _ I2 r1 r2 r q2) fun _ s3 ⟨H3, I3, q3⟩ => ?_))))
 exact wpAny_release ⟨σ, H3, I3, q3⟩
def tAsg (te : TE) (g : TG) : TS := fun D σ H => te σ H fun x H1 => g x σ H1 D.nx
theorem ps_asg {tg e : Expr} {te : TE} {g : TG} (he : PE X e te) (hg : PG X tg g) (hs : swapsWithSole [tg] e pos.line X.env = pure false := by rfl) (hw : swappedStores [tg] e X.env = pure none := by rfl)
  (h1 : (assignEach [tg] X.env).map (·.2) = [assign tg X.env] := by rfl) : PS X (.Assign [tg] e pos) (tAsg te g) := by
 intro pins s σ H D I h
 refine wpAny_Assign_stores (thn (he pins s σ H _ I h) fun v s1 ⟨x, H1, I1, r1, q1⟩ => ?_) hs hw
 rw [h1]
 exact thn (hg pins s1 σ H1 x v _ I1 r1 q1) fun _ s2 q => q
theorem ps_set {i : Nat} {x : Str} {e : Expr} {te : TE} {pos' : Pos} (hN : X.N.Nodup) (hi : X.N[i]? = some x) (hx : Loc X.env.scope x) (he : PE X e te) (hs : swapsWith e (some (.Name x pos')) pos.line X.env = pure false := by rfl) (hf : X.fn x = true ∨ X.env.scope.names.lookup x = some .local := by first | exact .inl rfl | exact .inr rfl | assumption) :
  PS X (.Assign [.Name x pos'] e pos) (tAsg te (gName i)) := by
 intro pins s σ H D I h
 refine wpAny_Assign_Name (thn (he pins s σ H _ I h) fun v s1 ⟨y, H1, I1, r1, q1⟩ => ?_) hs
 exact store_ok I1 hN hi hx r1 (fun s2 I2 => ⟨_, H1, I2, q1⟩) hf
def tPar (i j : Nat) (ta : TA) : TS := fun D σ H => ta σ H fun vs H1 => ∃ v w, vs = [v, w] /\ D.nx ((σ.set i (some v)).set j (some w)) H1
def tAug (i : Nat) (te : TE) (ti : TIp) : TS := fun D σ H => ∃ x, σ[i]? = some (some x) /\ te σ H fun y H1 => ti x y H1 fun z H2 => D.nx (σ.set i (some z)) H2
def tAugS (to ti te : TE) (tget : V -> V -> Hp -> VK -> Prop) (tip : TIp) (tset : TSet) : TS := fun D σ H => to σ H fun o H1 => ti σ H1 fun i H2 => tget o i H2 fun x H3 => te σ H3 fun y H4 => tip x y H4 fun z H5 => tset o i z H5 fun H6 => D.nx σ H6
def PGet (X : Cx) (t : V -> V -> Hp -> VK -> Prop) : Prop :=
 ∀ (pins : List (Addr × Obj)) (s : Shared) (σ : St) (H : Hp) (o i : V) (ov iv : Value) (Q : VK), Inv X pins σ H s -> RelV o ov -> RelV i iv -> t o i H Q ->
  wpAny (model X.prog X.w) X.A (getItem ov iv) (EP X pins σ Q) X.xe s
def ipI (f : Int -> Int -> Int) : TIp := fun x y H Q => ∃ i j, x = .int i /\ y = .int j /\ Q (.int (f i j)) H
end
section
variable {X : Cx} {pos : Pos}
def tWhile (c : TT) (tb : TS) : TS := fun D σ H => ∃ W : Nat -> St -> Hp -> Prop, (∃ m, W m σ H) /\ ∀ m σ H, W m σ H ->
 c σ H fun b H1 => if b = true then ∃ N : St -> Hp -> Prop, (∀ σ' H', N σ' H' -> ∃ m', m' < m /\ W m' σ' H') /\ tb { D with nx := N, ct := N, bk := D.nx } σ H1 else D.nx σ H1
end
structure It where
 go : Nat -> Hp -> Prop
 yld : Nat -> Hp -> V -> Hp -> Prop
 stop : Nat -> Hp -> Prop
def FpOk (X : Cx) (pins : List (Addr × Obj)) (H : Hp) (b : Addr) : Prop :=
 H b = none /\ b ≠ X.env.locals /\ b ∉ X.fs /\ (b ∈ X.ex ∨ X.s₀.heap.objs.size <= b) /\ (∀ x c, X.env.cells.lookup x = some c -> c ≠ b) /\ ∀ p ∈ X.pn ++ pins, p.1 ≠ b
theorem Inv.fpOk {X : Cx} {pins : List (Addr × Obj)} {σ : St} {H H' : Hp} {s : Shared} {b : Addr} (I : Inv X pins σ H s) (hb : s.heap.objs.size <= b) (hn : H' b = none) : FpOk X pins H' b := by
 refine ⟨hn, Nat.ne_of_gt (Nat.lt_of_lt_of_le I.lt hb), I.nofs hb, .inr (Nat.le_trans I.sz hb), fun x c e z => ?_, fun p hp z => ?_⟩
 ·obtain ⟨v, q⟩ := I.cell x c e
  exact absurd (Nat.lt_of_lt_of_le q.lt (by rw [z]; exact hb)) (Nat.lt_irrefl _)
 ·exact absurd (Nat.lt_of_lt_of_le (Heap.lt_size (I.pin p hp).1) (by rw [z]; exact hb)) (Nat.lt_irrefl _)
structure Turn (P : Program) (w : World) (K : PySem.W.Frag) (tg : Expr) (J : It) (fp : List Addr) (it : Addr) (tn : Nat -> Heap -> Prop) : Prop where
 mem : it ∈ fp
 obj : ∀ i h, tn i h -> ∀ b ∈ fp, ∃ o, h.get? b = some o /\ ∀ v, o.data ≠ .cell v
 keep : ∀ i h h', tn i h -> (∀ b ∈ fp, ∀ o, h.get? b = some o -> h'.get? b = some o) -> tn i h'
 item : ∀ (X : Cx), X.prog = P -> X.w = w -> X.K = K -> X.calm = true -> ∀ (i : Nat) (pins : List (Addr × Obj)) (s : Shared) (σ : St) (H : Hp) (E : Value -> Shared -> Prop), Inv X pins σ H s -> (∀ b ∈ fp, FpOk X pins H b) -> tn i s.heap -> J.go i H ->
  wpAny (model P w) X.A (pyNext (.ref it)) (fun r s1 => ∃ u, r = some u /\
   wpAny (model P w) X.A (letOwnedTupleGo tg (.ref it) u) (fun _ s2 => ∃ x H', Inv X pins σ H' s2 /\ RelV x u /\ J.yld i H x H' /\ tn (i + 1) s2.heap /\ ∀ b ∈ fp, H' b = none) E s1) E s
 done : ∀ (X : Cx), X.prog = P -> X.w = w -> X.K = K -> X.calm = true -> ∀ (i : Nat) (pins : List (Addr × Obj)) (s : Shared) (σ : St) (H : Hp) (E : Value -> Shared -> Prop), Inv X pins σ H s -> (∀ b ∈ fp, FpOk X pins H b) -> tn i s.heap -> J.stop i H ->
  wpAny (model P w) X.A (pyNext (.ref it)) (fun r s1 => r = none /\ Inv X pins σ H s1) E s
 self : ∀ (A : Around) (i : Nat) (s : Shared) (Q : Value -> Shared -> Prop) (E : Value -> Shared -> Prop), tn i s.heap -> Q (.ref it) s -> wpAny (model P w) A (pyIter (.ref it)) Q E s
abbrev TI := St -> Hp -> (It -> Hp -> Prop) -> Prop
def PIE (X : Cx) (pins : List (Addr × Obj)) (σ : St) (tg : Expr) (R : It -> Hp -> Prop) (itv : Value) (s2 : Shared) : Prop :=
 ∃ (it : Addr) (fp : List Addr) (tn : Nat -> Heap -> Prop) (J : It) (H' : Hp), itv = .ref it /\ Inv X pins σ H' s2 /\ Turn X.prog X.w X.K tg J fp it tn /\ tn 0 s2.heap /\ (∀ b ∈ fp, FpOk X pins H' b) /\ R J H'
def PI (X : Cx) (tg iter : Expr) (wi : TI) : Prop :=
 ∀ (pins : List (Addr × Obj)) (s : Shared) (σ : St) (H : Hp) (R : It -> Hp -> Prop), Inv X pins σ H s -> wi σ H R ->
  wpAny (model X.prog X.w) X.A (eval iter X.env) (fun v s1 => wpAny (model X.prog X.w) X.A (pyIter v) (PIE X pins σ tg R) X.xe s1) X.xe s
theorem go_of {M : Model} {A : Around} {E : Value -> Shared -> Prop} {s : Shared} {tg : Expr} {it : Addr} {u : Value} {o : Obj} {n : String} {vs : Array Value} {Q : Unit -> Shared -> Prop} (ho : s.heap.get? it = some o) (hc : o.cls = .type n) (hd : o.data = .fields vs)
  (hn : ["enumerate", "zip", "dict_itemiterator", "dict_reverseitemiterator", "odict_iterator", "itertools.zip_longest", "itertools.pairwise"].contains n = false) (hQ : Q () s) : wpAny M A (letOwnedTupleGo tg (.ref it) u) Q E s := by
 unfold letOwnedTupleGo
 cases tg <;> first
  | exact wpAny_pure hQ
  | (cases u <;> first
    | exact wpAny_pure hQ
    | (refine wpAny_bind (wpAny_load ho ?_)
       rw [hc, hd]
       show wpAny M A (if (["enumerate", "zip", "dict_itemiterator", "dict_reverseitemiterator", "odict_iterator", "itertools.zip_longest", "itertools.pairwise"].contains n && vs[0]? == some (rawInt _)) = true then _ else _) Q E s
       rw [if_neg (by intro h; rw [hn, Bool.false_and] at h; cases h)]
       exact wpAny_pure hQ))
def Itl (K : PySem.W.Frag) (a : Addr) : It :=
 ⟨fun i H => ∃ xs x, SqL K H a xs /\ xs[i]? = some x, fun i H x H' => H' = H /\ ∀ xs, SqL K H a xs -> xs[i]? = some x, fun i H => ∃ xs, SqL K H a xs /\ xs.length <= i⟩
def Itt (K : PySem.W.Frag) (a : Addr) : It :=
 ⟨fun i H => ∃ xs x, SqT K H a xs /\ xs[i]? = some x, fun i H x H' => H' = H /\ ∀ xs, SqT K H a xs -> xs[i]? = some x, fun i H => ∃ xs, SqT K H a xs /\ xs.length <= i⟩
def Itr (lo : Int) (n : Nat) : It := ⟨fun i _ => i < n, fun i H x H' => H' = H /\ x = .int (lo + i), fun i _ => n <= i⟩
theorem turn_list {P : Program} {w : World} {K : PySem.W.Frag} {tg : Expr} (a it : Addr) : Turn P w K tg (Itl K a) [it] it (fun i h => h.IsListIter it a i) where
 mem := by simp
 obj := fun i h st b hb => by
  have e : b = it := by simpa using hb
  subst e
  obtain ⟨o, e, c, d⟩ := st
  exact ⟨o, e, fun v z => by rw [d] at z; cases z⟩
 keep := fun i h h' st k => st.at fun o e => k it (by simp) o e
 item := by
  intro X hP hw hK hc i pins s σ H E I hf st hg
  subst hP hw hK
  obtain ⟨xs, x, hq, hx⟩ := hg
  obtain ⟨its, rv, p, hz⟩ := I.list hq
  obtain ⟨u, hu, ru⟩ := rv.get hx
  obtain ⟨f0, f1, f2, f3, f4, f5⟩ := hf it (by simp)
  refine wpAny_pyNext_list_item st p.isList (x := u) (by simpa using hu) fun h' st' sb => ?_
  have I1 : Inv X pins σ H { s with heap := h' } := I.turned (t' := s.toks) (fun b o hb e => (sb.2 b hb).trans e) f0 f1 f3 f4 f5
  obtain ⟨o, e, c, d⟩ := id st'
  exact ⟨u, rfl, go_of (s := { s with heap := h' }) e c d (by decide) ⟨x, H, I1, ru, ⟨rfl, fun ys hy => by rw [I.list_inj hy hq]; exact hx⟩, st', fun b hb => (hf b hb).1⟩⟩
 done := by
  intro X hP hw hK hc i pins s σ H E I hf st hg
  subst hP hw hK
  obtain ⟨xs, hq, hx⟩ := hg
  obtain ⟨its, rv, p, hz⟩ := I.list hq
  obtain ⟨f0, f1, f2, f3, f4, f5⟩ := hf it (by simp)
  have hl := rv.length
  exact wpAny_pyNext_list_end (I.ok.hd hc) st p.isList (by simp; omega) fun h' eb => ⟨rfl, I.turned (t' := s.toks) (fun b o hb e => eb b o hb e) f0 f1 f3 f4 f5⟩
 self := fun _ _ _ _ _ st h => wpAny_pyIter_listiter st h
theorem turn_tuple {P : Program} {w : World} {K : PySem.W.Frag} {tg : Expr} (a it : Addr) : Turn P w K tg (Itt K a) [it] it (fun i h => h.IsTupleIter it a i) where
 mem := by simp
 obj := fun i h st b hb => by
  have e : b = it := by simpa using hb
  subst e
  obtain ⟨o, e, c, d⟩ := st
  exact ⟨o, e, fun v z => by rw [d] at z; cases z⟩
 keep := fun i h h' st k => st.at fun o e => k it (by simp) o e
 item := by
  intro X hP hw hK hc i pins s σ H E I hf st hg
  subst hP hw hK
  obtain ⟨xs, x, hq, hx⟩ := hg
  obtain ⟨its, rv, p, hz⟩ := I.tuple hq
  obtain ⟨u, hu, ru⟩ := rv.get hx
  obtain ⟨f0, f1, f2, f3, f4, f5⟩ := hf it (by simp)
  refine wpAny_pyNext_tuple_item st (show s.heap.IsTuple a its.toArray from p) (x := u) (by simpa using hu) fun h' st' sb => ?_
  have I1 : Inv X pins σ H { s with heap := h' } := I.turned (t' := s.toks) (fun b o hb e => (sb.2 b hb).trans e) f0 f1 f3 f4 f5
  obtain ⟨o, e, c, d⟩ := id st'
  exact ⟨u, rfl, go_of (s := { s with heap := h' }) e c d (by decide) ⟨x, H, I1, ru, ⟨rfl, fun ys hy => by rw [I.tuple_inj hy hq]; exact hx⟩, st', fun b hb => (hf b hb).1⟩⟩
 done := by
  intro X hP hw hK hc i pins s σ H E I hf st hg
  subst hP hw hK
  obtain ⟨xs, hq, hx⟩ := hg
  obtain ⟨its, rv, p, hz⟩ := I.tuple hq
  obtain ⟨f0, f1, f2, f3, f4, f5⟩ := hf it (by simp)
  have hl := rv.length
  exact wpAny_pyNext_tuple_end (I.ok.hd hc) st (show s.heap.IsTuple a its.toArray from p) (by simp; omega) fun h' eb => ⟨rfl, I.turned (t' := s.toks) (fun b o hb e => eb b o hb e) f0 f1 f3 f4 f5⟩
 self := fun _ _ _ _ _ st h => wpAny_pyIter_tupleiter st h
theorem turn_range {P : Program} {w : World} {K : PySem.W.Frag} {tg : Expr} (it : Addr) (lo : Int) (n : Nat) : Turn P w K tg (Itr lo n) [it] it (fun i h => IsRangeIter h it (lo + (i : Nat) * 1) ((n : Int) - (i : Nat)) 1) where
 mem := by simp
 obj := fun i h st b hb => by
  have e : b = it := by simpa using hb
  subst e
  exact ⟨_, st, fun v z => by
   have z' : Data.fields _ = Data.cell v := z
   cases z'⟩
 keep := fun i h h' st k => k it (by simp) _ st
 item := by
  intro X hP hw hK hc i pins s σ H E I hf st hg
  subst hP hw hK
  obtain ⟨f0, f1, f2, f3, f4, f5⟩ := hf it (by simp)
  have W := Walks.range (prog := X.prog) (w := X.w) (I.ok.hd hc) it lo 1 n
  refine W.item i s _ _ hg st fun v h' tk hv st' kk => ?_
  obtain ⟨t, rfl⟩ := hv
  have I1 : Inv X pins σ H { s with heap := h', toks := tk } := I.turned (fun b o hb e => kk b o (by simpa using hb) e) f0 f1 f3 f4 f5
  refine ⟨_, rfl, go_of (s := { s with heap := h', toks := tk }) (n := "range_iterator") st' rfl rfl (by decide) ⟨.int (lo + i), H, I1, ⟨t, ?_⟩, ⟨rfl, rfl⟩, st', fun b hb => (hf b hb).1⟩⟩
  rw [Int.mul_one]
 done := by
  intro X hP hw hK hc i pins s σ H E I hf st hg
  subst hP hw hK
  obtain ⟨f0, f1, f2, f3, f4, f5⟩ := hf it (by simp)
  exact wpAny_pyNext_range_end (I.ok.hd hc) st (by have : n <= i := hg; omega) fun h' eb => ⟨rfl, I.turned (t' := s.toks) (fun b o hb e => eb b o hb e) f0 f1 f3 f4 f5⟩
 self := fun _ _ _ _ _ st h => wpAny_pyIter_rangeiter st h
end L2
namespace L2
open PySem PySem.Spec PyProof.Rows
section
variable {X : Cx} {tg : Expr}
def iList (K : PySem.W.Frag) (tl : TE) : TI := fun σ H R => tl σ H fun x H1 => ∃ a, x = .ref a /\ (∃ xs, SqL K H1 a xs) /\ R (Itl K a) H1
def iTup (K : PySem.W.Frag) (tl : TE) : TI := fun σ H R => tl σ H fun x H1 => ∃ a, x = .ref a /\ (∃ xs, SqT K H1 a xs) /\ R (Itt K a) H1
theorem pi_list {l : Expr} {tl : TE} (hl : PE X l tl) : PI X tg l (iList X.K tl) := by
 intro pins s σ H R I h
 refine thn (hl pins s σ H _ I h) fun v s1 ⟨x, H1, I1, r1, q1⟩ => ?_
 obtain ⟨a, e, ⟨xs, hq⟩, q⟩ := q1
 subst e
 cases r1
 obtain ⟨its, rv, p, hz⟩ := I1.list hq
 refine wpAny_pyIter_list p.isList ?_
 refine ⟨s1.heap.objs.size, [s1.heap.objs.size], _, _, H1, rfl, I1.kept (t' := s1.toks) fun b o e => Heap.get?_push_of_some _ e, turn_list a _, ⟨_, Heap.get?_push_size _ rfl, rfl, rfl⟩, fun b hb => ?_, q⟩
 have e : b = s1.heap.objs.size := by simpa using hb
 subst e
 exact I1.fpOk (Nat.le_refl _) (I1.hok.fresh (Nat.le_refl _))
theorem pi_tup {l : Expr} {tl : TE} (hl : PE X l tl) : PI X tg l (iTup X.K tl) := by
 intro pins s σ H R I h
 refine thn (hl pins s σ H _ I h) fun v s1 ⟨x, H1, I1, r1, q1⟩ => ?_
 obtain ⟨a, e, ⟨xs, hq⟩, q⟩ := q1
 subst e
 cases r1
 obtain ⟨its, rv, p, hz⟩ := I1.tuple hq
 refine wpAny_pyIter_tuple (show s1.heap.IsTuple a its.toArray from p) ?_
 refine ⟨s1.heap.objs.size, [s1.heap.objs.size], _, _, H1, rfl, I1.kept (t' := s1.toks) fun b o e => Heap.get?_push_of_some _ e, turn_tuple a _, ⟨_, Heap.get?_push_size _ rfl, rfl, rfl⟩, fun b hb => ?_, q⟩
 have e : b = s1.heap.objs.size := by simpa using hb
 subst e
 exact I1.fpOk (Nat.le_refl _) (I1.hok.fresh (Nat.le_refl _))
theorem range_it {pins : List (Addr × Obj)} {σ : St} {H : Hp} {s : Shared} {R : It -> Hp -> Prop} {E : Value -> Shared -> Prop} {lo hi : Int} {t u v : Tok} {tk : Nat} (I : Inv X pins σ H s) (h1 : -(2 ^ 62) <= lo) (h2 : lo < 2 ^ 62) (h3 : -(2 ^ 62) <= hi) (h4 : hi < 2 ^ 62)
  (q : R (Itr lo (hi - lo).toNat) H) : wpAny (model X.prog X.w) X.A (pyIter (.ref s.heap.objs.size)) (PIE X pins σ tg R) E { s with heap := s.heap.push { cls := .type "range", data := .fields #[.int lo t, .int hi u, .int 1 v] }, toks := tk } := by
 refine wpAny_pyIter_range (IsRange.new ..) (small_one h1 h2 h3 h4) ?_
 have I1 : Inv X pins σ H { s with heap := s.heap.push { cls := .type "range", data := .fields #[.int lo t, .int hi u, .int 1 v] }, toks := tk } := I.kept fun b o e => Heap.get?_push_of_some _ e
 refine ⟨(s.heap.push { cls := .type "range", data := .fields #[.int lo t, .int hi u, .int 1 v] }).objs.size, [(s.heap.push { cls := .type "range", data := .fields #[.int lo t, .int hi u, .int 1 v] }).objs.size], _, _, H, rfl,
  I1.kept (t' := tk) fun b o e => Heap.get?_push_of_some _ e, turn_range _ lo (hi - lo).toNat, ?_, fun b hb => ?_, q⟩
 ·have e1 : lo + ((0 : Nat) : Int) * 1 = lo := by simp
  have e2 : (((hi - lo).toNat : Nat) : Int) - ((0 : Nat) : Int) = Builtin.Range.rangeSize lo hi 1 := by rw [rangeSize_one]; split <;> omega
  show IsRangeIter _ _ (lo + ((0 : Nat) : Int) * 1) ((((hi - lo).toNat : Nat) : Int) - ((0 : Nat) : Int)) 1
  rw [e1, e2]
  exact Heap.get?_push_size _ rfl
 ·have e : b = (s.heap.push { cls := .type "range", data := .fields #[.int lo t, .int hi u, .int 1 v] }).objs.size := by simpa using hb
  subst e
  exact I1.fpOk (Nat.le_refl _) (I1.hok.fresh (Nat.le_refl _))
def iRng1 (ta : TA) : TI := fun σ H R => ta σ H fun vs H1 => ∃ j : Int, vs = [.int j] /\ -(2 ^ 62) <= j /\ j < 2 ^ 62 /\ R (Itr 0 j.toNat) H1
def iRng2 (ta : TA) : TI := fun σ H R => ta σ H fun vs H1 => ∃ i j : Int, vs = [.int i, .int j] /\ (-(2 ^ 62) <= i /\ i < 2 ^ 62 /\ -(2 ^ 62) <= j /\ j < 2 ^ 62) /\ R (Itr i (j - i).toNat) H1
theorem pi_range1 {a : Expr} {ta : TA} {p pos : Pos} (hg : Gl X "range") (hm : X.mg "range" = none) (ha : PA X [a] ta) (hs : starEach [a] X.env = [(false, eval a X.env)] := by rfl) : PI X tg (.Call (.Name "range" p) [a] [] pos) (iRng1 ta) := by
 intro pins s σ H R I h
 refine Call_ (ld_blt I hg hm boot_range (PyProof.Rows.callWith_type1 (thn (ha pos pins s σ H _ I h) fun us s1 ⟨vs, H1, I1, r1, q1⟩ => ?_) hs rfl))
 obtain ⟨j, e, q1, q2, q⟩ := q1
 subst e
 cases r1 with
 | cons r rr =>
  cases rr
  obtain ⟨t, rfl⟩ := r
  exact call_range_1 (range_it I1 (by omega) (by omega) q1 q2 (by simpa using q))
theorem pi_range2 {a b : Expr} {ta : TA} {p pos : Pos} (hg : Gl X "range") (hm : X.mg "range" = none) (ha : PA X [a, b] ta) (hs : starEach [a, b] X.env = [(false, eval a X.env), (false, eval b X.env)] := by rfl) (hs2 : starEach [b] X.env = [(false, eval b X.env)] := by rfl) :
  PI X tg (.Call (.Name "range" p) [a, b] [] pos) (iRng2 ta) := by
 intro pins s σ H R I h
 refine Call_ (ld_blt I hg hm boot_range (PyProof.Rows.callWith_type1 (thn (ha pos pins s σ H _ I h) fun us s1 ⟨vs, H1, I1, r1, q1⟩ => ?_) (by rw [hs, hs2]) (by rw [hs2]; rfl)))
 obtain ⟨i, j, e, ⟨q1, q2, q3, q4⟩, q⟩ := q1
 subst e
 cases r1 with
 | cons r rr =>
  cases rr with
  | cons r' rr =>
   cases rr
   obtain ⟨t, rfl⟩ := r
   obtain ⟨t', rfl⟩ := r'
   exact call_range_2 (range_it I1 q1 q2 q3 q4 q)
def tFor (wi : TI) (g : TG) (tb : TS) : TS := fun D σ H => wi σ H fun J H1 => ∃ W : Nat -> Nat -> St -> Hp -> Prop, (∃ m, W 0 m σ H1) /\ ∀ i m σ H, W i m σ H ->
 (J.stop i H /\ D.nx σ H) ∨ (J.go i H /\ ∃ N : St -> Hp -> Prop, (∀ σ' H', N σ' H' -> ∃ m', m' < m /\ W (i + 1) m' σ' H') /\ ∀ x H', J.yld i H x H' -> g x σ H' fun σ2 H2 => tb { D with nx := N, ct := N, bk := D.nx } σ2 H2)
def pinsAt (fp : List Addr) (h : Heap) : List (Addr × Obj) := fp.filterMap fun b => (h.get? b).map fun o => (b, o)
theorem mem_pinsAt {fp : List Addr} {h : Heap} {b : Addr} {o : Obj} (hb : b ∈ fp) (e : h.get? b = some o) : (b, o) ∈ pinsAt fp h := List.mem_filterMap.mpr ⟨b, hb, by rw [e]; rfl⟩
theorem of_pinsAt {fp : List Addr} {h : Heap} {p : Addr × Obj} (hp : p ∈ pinsAt fp h) : p.1 ∈ fp /\ h.get? p.1 = some p.2 := by
 obtain ⟨b, hb, e⟩ := List.mem_filterMap.mp hp
 cases q : h.get? b with
 | none => rw [q] at e; cases e
 | some o =>
  rw [q] at e
  have e' : (b, o) = p := Option.some.inj e
  subst e'
  exact ⟨hb, q⟩
theorem Inv.pinned {pins : List (Addr × Obj)} {σ : St} {H : Hp} {s : Shared} {fp : List Addr} (I : Inv X pins σ H s) (hf : ∀ b ∈ fp, FpOk X pins H b) (ho : ∀ b ∈ fp, ∃ o, s.heap.get? b = some o /\ ∀ v, o.data ≠ .cell v) : Inv X (pins ++ pinsAt fp s.heap) σ H s :=
 I.pins_of fun p hp => (List.mem_append.mp hp).elim (fun z => I.pin p (List.mem_append_right _ z)) fun z => by
  obtain ⟨hb, e⟩ := of_pinsAt z
  obtain ⟨f0, f1, f2, _⟩ := hf p.1 hb
  obtain ⟨o, e', d⟩ := ho p.1 hb
  rw [e] at e'; cases e'
  exact ⟨e, f0, f1, f2, d⟩
theorem Inv.unpinned {pins pl : List (Addr × Obj)} {σ : St} {H : Hp} {s : Shared} (I : Inv X (pins ++ pl) σ H s) : Inv X pins σ H s := I.pins_of fun p hp => I.pin p (List.mem_append_right _ (List.mem_append_left _ hp))
theorem ps_for {iter : Expr} {body : List Stmt} {wi : TI} {g : TG} {tb : TS} {pos : Pos} (hp : PassesOwn (model X.prog X.w) X.A X.env X.xe) (hc : X.calm = true) (hi : PI X tg iter wi) (hg : PG X tg g) (hb : PSs X body tb)
  (hs : ∀ x, foldedSetIterable iter X.env x = pure x := by intro _; rfl) : PS X (.For tg iter body [] pos) (tFor wi g tb) := by
 intro pins s σ H D I h
 refine wpAny_For (thn (hi pins s σ H _ I h) fun v s1 h1 => thn h1 fun itv s2 h2 => ?_) hs
 obtain ⟨it, fp, tn, J, H2, e, I2, T, st2, f2, W, ⟨m0, w0⟩, turn⟩ := h2
 subst e
 have stat : ∀ {H' : Hp}, (∀ b ∈ fp, H' b = none) -> ∀ b ∈ fp, FpOk X pins H' b := fun hn b hb => ⟨hn b hb, (f2 b hb).2⟩
 refine codeAny_forLoop_any (fun n s' => ∃ i σ' H', Inv X pins σ' H' s' /\ tn i s'.heap /\ (∀ b ∈ fp, H' b = none) /\ W i n σ' H') ?_ m0 ⟨0, σ, H2, I2, st2, fun b hb => (f2 b hb).1, w0⟩
 rintro n s3 ⟨i, σ3, H3, I3, st3, fr3, w3⟩
 rcases turn i n σ3 H3 w3 with ⟨stop, qn⟩ | ⟨go, N, hN, step⟩
 ·refine wpAny_passesOwn hp (thn (T.done X rfl rfl rfl hc i pins s3 σ3 H3 X.xe I3 (stat fr3) st3 stop) fun r s4 ⟨hr, I4⟩ => ?_)
  subst hr
  exact wpAny_execs_nil ⟨σ3, H3, I4, qn⟩
 ·refine wpAny_passesOwn hp (thn (T.item X rfl rfl rfl hc i pins s3 σ3 H3 X.xe I3 (stat fr3) st3 go) fun r s4 ⟨u, hr, h4⟩ => ?_)
  subst hr
  refine wpAny_passesOwn hp (thn h4 fun _ s5 ⟨x, H5, I5, r5, y5, st5, fr5⟩ => ?_)
  have I5' := I5.pinned (stat fr5) (T.obj _ _ st5)
  refine wpAny_passesOwn hp (thn (hg _ s5 σ3 H5 x u _ I5' r5 (step x H5 y5)) fun _ s6 ⟨σ6, H6, I6, q6⟩ => ?_)
  refine wpAny_passesOwn hp (thn (hb _ s6 σ6 H6 _ I6 q6) fun f s7 q7 => ?_)
  have again : ∀ {σ7 : St} {H7 : Hp}, Inv X (pins ++ pinsAt fp s5.heap) σ7 H7 s7 -> N σ7 H7 -> ∃ m, m < n /\ ∃ i σ' H', Inv X pins σ' H' s7 /\ tn i s7.heap /\ (∀ b ∈ fp, H' b = none) /\ W i m σ' H' := fun {σ7 H7} I7 n7 => by
   obtain ⟨m', hm, w7⟩ := hN σ7 H7 n7
   refine ⟨m', hm, i + 1, σ7, H7, I7.unpinned, T.keep _ _ _ st5 fun b hb o e => (I7.pin (b, o) (List.mem_append_right _ (List.mem_append_right _ (mem_pinsAt hb e)))).1, fun b hb => ?_, w7⟩
   obtain ⟨o, e, d⟩ := T.obj _ _ st5 b hb
   exact (I7.pin (b, o) (List.mem_append_right _ (List.mem_append_right _ (mem_pinsAt hb e)))).2.1
  cases f with
  | next => obtain ⟨σ7, H7, I7, n7⟩ := q7; exact again I7 n7
  | cont => obtain ⟨σ7, H7, I7, n7⟩ := q7; exact again I7 n7
  | brk => obtain ⟨σ7, H7, I7, q7⟩ := q7; exact ⟨σ7, H7, I7.unpinned, q7⟩
  | ret v => obtain ⟨x7, σ7, H7, I7, r7, q7⟩ := q7; exact ⟨x7, σ7, H7, I7.unpinned, r7, q7⟩
end
theorem for_list {K : PySem.W.Frag} {a : Addr} {xs : List V} {g : TG} {tb : TS} {D : Ends} {σ : St} {H : Hp} (Pv : Nat -> St -> Hp -> Prop) (h0 : Pv 0 σ H) (hl : ∀ i σ H, i <= xs.length -> Pv i σ H -> SqL K H a xs)
  (hs : ∀ i x σ H, xs[i]? = some x -> Pv i σ H -> g x σ H fun σ2 H2 => tb { D with nx := Pv (i + 1), ct := Pv (i + 1), bk := D.nx } σ2 H2) (hd : ∀ σ H, Pv xs.length σ H -> D.nx σ H) :
  ∃ W : Nat -> Nat -> St -> Hp -> Prop, (∃ m, W 0 m σ H) /\ ∀ i m σ H, W i m σ H ->
   ((Itl K a).stop i H /\ D.nx σ H) ∨ ((Itl K a).go i H /\ ∃ N : St -> Hp -> Prop, (∀ σ' H', N σ' H' -> ∃ m', m' < m /\ W (i + 1) m' σ' H') /\ ∀ x H', (Itl K a).yld i H x H' -> g x σ H' fun σ2 H2 => tb { D with nx := N, ct := N, bk := D.nx } σ2 H2) := by
 refine ⟨fun i m σ H => m = xs.length - i /\ i <= xs.length /\ Pv i σ H, ⟨xs.length, by simp, Nat.zero_le _, h0⟩, ?_⟩
 rintro i m σ H ⟨rfl, hi, p⟩
 have q := hl i σ H hi p
 by_cases hlt : i < xs.length
 ·refine .inr ⟨⟨xs, xs[i], q, by simp [hlt]⟩, Pv (i + 1), fun σ' H' p' => ⟨xs.length - (i + 1), by omega, rfl, hlt, p'⟩, fun x H' y => ?_⟩
  obtain ⟨e, y⟩ := y
  subst e
  exact hs i x σ _ (y xs q) p
 ·have e : i = xs.length := by omega
  subst e
  exact .inl ⟨⟨xs, q, Nat.le_refl _⟩, hd σ H p⟩
theorem for_range {lo : Int} {n : Nat} {g : TG} {tb : TS} {D : Ends} {σ : St} {H : Hp} (Pv : Nat -> St -> Hp -> Prop) (h0 : Pv 0 σ H)
  (hs : ∀ i σ H, i < n -> Pv i σ H -> g (.int (lo + i)) σ H fun σ2 H2 => tb { D with nx := Pv (i + 1), ct := Pv (i + 1), bk := D.nx } σ2 H2) (hd : ∀ σ H, Pv n σ H -> D.nx σ H) :
  ∃ W : Nat -> Nat -> St -> Hp -> Prop, (∃ m, W 0 m σ H) /\ ∀ i m σ H, W i m σ H ->
   ((Itr lo n).stop i H /\ D.nx σ H) ∨ ((Itr lo n).go i H /\ ∃ N : St -> Hp -> Prop, (∀ σ' H', N σ' H' -> ∃ m', m' < m /\ W (i + 1) m' σ' H') /\ ∀ x H', (Itr lo n).yld i H x H' -> g x σ H' fun σ2 H2 => tb { D with nx := N, ct := N, bk := D.nx } σ2 H2) := by
 refine ⟨fun i m σ H => m = n - i /\ i <= n /\ Pv i σ H, ⟨n, by simp, Nat.zero_le _, h0⟩, ?_⟩
 rintro i m σ H ⟨rfl, hi, p⟩
 by_cases hlt : i < n
 ·refine .inr ⟨hlt, Pv (i + 1), fun σ' H' p' => ⟨n - (i + 1), by omega, rfl, hlt, p'⟩, fun x H' y => ?_⟩
  obtain ⟨e, y⟩ := y
  subst e y
  exact hs i σ _ hlt p
 ·have e : i = n := by omega
  subst e
  exact .inl ⟨Nat.le_refl _, hd σ H p⟩
end L2
namespace L2
open PySem PySem.Spec PyProof.Rows
abbrev R2 := V -> V -> Hp -> VK -> Prop
def OpR (X : Cx) (f : Value -> Value -> Sem Value) (r : R2) : Prop :=
 ∀ (pins : List (Addr × Obj)) (s : Shared) (σ : St) (H : Hp) (x y : V) (v u : Value) (Q : VK), Inv X pins σ H s -> RelV x v -> RelV y u -> r x y H Q ->
  wpAny (model X.prog X.w) X.A (f v u) (EP X pins σ Q) X.xe s
def UnR (X : Cx) (f : Value -> Sem Value) (r : V -> Hp -> VK -> Prop) : Prop :=
 ∀ (pins : List (Addr × Obj)) (s : Shared) (σ : St) (H : Hp) (x : V) (v : Value) (Q : VK), Inv X pins σ H s -> RelV x v -> r x H Q ->
  wpAny (model X.prog X.w) X.A (f v) (EP X pins σ Q) X.xe s
def CallR (X : Cx) (f : Value) (r : List V -> Hp -> VK -> Prop) : Prop :=
 ∀ (pins : List (Addr × Obj)) (s : Shared) (σ : St) (H : Hp) (xs : List V) (us : List Value) (Q : VK), Inv X pins σ H s -> Vals xs us -> r xs H Q ->
  wpAny (model X.prog X.w) X.A (call f us) (EP X pins σ Q) X.xe s
def TruR (X : Cx) (r : V -> Hp -> (Bool -> Hp -> Prop) -> Prop) : Prop :=
 ∀ (pins : List (Addr × Obj)) (s : Shared) (σ : St) (H : Hp) (x : V) (v : Value) (Q : Bool -> Hp -> Prop), Inv X pins σ H s -> RelV x v -> r x H Q ->
  wpAny (model X.prog X.w) X.A (truthy v) (TP X pins σ Q) X.xe s
def tOp (r : R2) (ta tb : TE) : TE := fun σ H Q => ta σ H fun x H1 => tb σ H1 fun y H2 => r x y H2 Q
def tUn (r : V -> Hp -> VK -> Prop) (ta : TE) : TE := fun σ H Q => ta σ H fun x H1 => r x H1 Q
def rI (C : Int -> Int -> Prop) (g : Int -> Int -> V) : R2 := fun x y H Q => ∃ i j, x = .int i /\ y = .int j /\ C i j /\ Q (g i j) H
def rI0 (g : Int -> Int -> V) : R2 := fun x y H Q => ∃ i j, x = .int i /\ y = .int j /\ Q (g i j) H
def rU (g : Int -> V) : V -> Hp -> VK -> Prop := fun x H Q => ∃ i, x = .int i /\ Q (g i) H
section
variable {X : Cx} {a b c : Expr} {ta tb tc : TE} {pos : Pos}
theorem binT (ha : PE X a ta) (hb : PE X b tb) {pins : List (Addr × Obj)} {s : Shared} {σ : St} {H : Hp} {R : V -> V -> Hp -> Prop} (I : Inv X pins σ H s)
  (h : ta σ H fun x H1 => tb σ H1 fun y H2 => R x y H2) {Q : Value -> Shared -> Prop} {f : Value -> Value -> Sem Value}
  (hf : ∀ v u s2 x y H2, Inv X pins σ H2 s2 -> RelV x v -> RelV y u -> R x y H2 -> wpAny (model X.prog X.w) X.A (f v u) Q X.xe s2) :
  wpAny (model X.prog X.w) X.A (eval a X.env) (fun v s₁ => wpAny (model X.prog X.w) X.A (eval b X.env) (fun u s₂ => wpAny (model X.prog X.w) X.A (f v u) Q X.xe s₂) X.xe s₁) X.xe s := by
 refine thn (ha pins s σ H _ I h) fun v s1 ⟨x, H1, I1, r1, q1⟩ => ?_
 refine thn (hb pins s1 σ H1 _ I1 q1) fun u s2 ⟨y, H2, I2, r2, q2⟩ => ?_
 exact hf v u s2 x y H2 I2 r1 r2 q2
theorem pe_op {op : Operator} {r : R2} (ho : OpR X (binaryOp op) r) (ha : PE X a ta) (hb : PE X b tb) : PE X (.BinOp a op b pos) (tOp r ta tb) := by
 intro pins s σ H Q I h
 exact wpAny_BinOp (binT ha hb I h fun v u s2 x y H2 I2 rx ry q => ho pins s2 σ H2 x y v u Q I2 rx ry q)
theorem pe_un {op : UnaryOp} {r : V -> Hp -> VK -> Prop} (ho : UnR X (unaryOp op) r) (ha : PE X a ta) : PE X (.UnaryOp op a pos) (tUn r ta) := by
 intro pins s σ H Q I h
 exact UnaryOp_ (thn (ha pins s σ H _ I h) fun v s1 ⟨x, H1, I1, r1, q1⟩ => ho pins s1 σ H1 x v Q I1 r1 q1)
theorem opI {f : Value -> Value -> Sem Value} {C : Int -> Int -> Prop} {g : Int -> Int -> Int}
  (rule : ∀ (i j : Int) (t u : Tok) (s : Shared) (Q : Value -> Shared -> Prop) (E : Value -> Shared -> Prop), C i j -> Q (.int (g i j) s.toks) { s with toks := s.toks + 1 } -> wpAny (model X.prog X.w) X.A (f (.int i t) (.int j u)) Q E s) :
  OpR X f (rI C fun i j => .int (g i j)) := by
 intro pins s σ H x y v u Q I rx ry h
 obtain ⟨i, j, rfl, rfl, hc, q⟩ := h
 obtain ⟨t, rfl⟩ := rx
 obtain ⟨t', rfl⟩ := ry
 exact rule i j t t' s _ _ hc ⟨.int (g i j), H, I.tok _, ⟨_, rfl⟩, q⟩
theorem opI0 {f : Value -> Value -> Sem Value} {g : Int -> Int -> Int}
  (rule : ∀ (i j : Int) (t u : Tok) (s : Shared) (Q : Value -> Shared -> Prop) (E : Value -> Shared -> Prop), Q (.int (g i j) s.toks) { s with toks := s.toks + 1 } -> wpAny (model X.prog X.w) X.A (f (.int i t) (.int j u)) Q E s) :
  OpR X f (rI0 fun i j => .int (g i j)) := by
 intro pins s σ H x y v u Q I rx ry h
 obtain ⟨i, j, rfl, rfl, q⟩ := h
 obtain ⟨t, rfl⟩ := rx
 obtain ⟨t', rfl⟩ := ry
 exact rule i j t t' s _ _ ⟨.int (g i j), H, I.tok _, ⟨_, rfl⟩, q⟩
theorem opB0 {f : Value -> Value -> Sem Value} {g : Int -> Int -> Bool}
  (rule : ∀ (i j : Int) (t u : Tok) (s : Shared) (Q : Value -> Shared -> Prop) (E : Value -> Shared -> Prop), Q (.bool (g i j)) s -> wpAny (model X.prog X.w) X.A (f (.int i t) (.int j u)) Q E s) :
  OpR X f (rI0 fun i j => .bl (g i j)) := by
 intro pins s σ H x y v u Q I rx ry h
 obtain ⟨i, j, rfl, rfl, q⟩ := h
 obtain ⟨t, rfl⟩ := rx
 obtain ⟨t', rfl⟩ := ry
 exact rule i j t t' s _ _ ⟨.bl (g i j), H, I, rfl, q⟩
def CDiv (i j : Int) : Prop := 0 < j /\ j < 1073741824
def CDivN (i j : Int) : Prop := j ≠ 0 /\ j.natAbs < 1073741824
def CPow (i j : Int) : Prop := 0 <= j /\ j <= 1000000 /\ i.natAbs < 2 ^ 64
def CMul (i j : Int) : Prop := (-(2 ^ 64) < i /\ i < 2 ^ 64) ∨ (-(2 ^ 64) < j /\ j < 2 ^ 64)
theorem CMul.ok {i j : Int} (h : CMul i j) : IntMulOk i j := by
 rcases h with ⟨h1, h2⟩ | ⟨h1, h2⟩
 ·exact .of_left (intBits_le_64 h1 h2)
 ·exact .of_right (intBits_le_64 h1 h2)
theorem op_add : OpR X (binaryOp .Add) (rI0 fun i j => .int (i + j)) := opI0 fun _ _ _ _ _ _ _ q => add_int q
theorem op_sub : OpR X (binaryOp .Sub) (rI0 fun i j => .int (i - j)) := opI0 fun _ _ _ _ _ _ _ q => sub_int q
theorem op_mul : OpR X (binaryOp .Mult) (rI CMul fun i j => .int (i * j)) := opI fun _ _ _ _ _ _ _ hc q => mul_int q hc.ok
theorem op_fdiv : OpR X (binaryOp .FloorDiv) (rI CDiv fun i j => .int (i / j)) := opI fun i j _ _ _ _ _ hc q => by
 have h1 : (0 : Int) < j := hc.1
 have h2 : j < 1073741824 := hc.2
 exact floordiv_int (by omega) (by rw [Int.fdiv_eq_ediv_of_nonneg i (by omega)]; exact q) (.inl (PyProof.noPylong_small (by omega)))
theorem op_mod : OpR X (binaryOp .Mod) (rI (fun _ j => 0 < j) fun i j => .int (i % j)) := opI fun i j _ _ _ _ _ hc q => by
 have h1 : (0 : Int) < j := hc
 exact mod_int' (by omega) (by rw [Int.fmod_eq_emod_of_nonneg i (by omega)]; exact q)
theorem op_pow : OpR X (binaryOp .Pow) (rI CPow fun i j => .int (i ^ j.toNat)) := opI fun _ _ _ _ _ _ _ hc q => pow_int_small hc.1 hc.2.1 hc.2.2 q
theorem unI {f : Value -> Sem Value} {g : Int -> Int}
  (rule : ∀ (i : Int) (t : Tok) (s : Shared) (Q : Value -> Shared -> Prop) (E : Value -> Shared -> Prop), Q (.int (g i) s.toks) { s with toks := s.toks + 1 } -> wpAny (model X.prog X.w) X.A (f (.int i t)) Q E s) :
  UnR X f (rU fun i => .int (g i)) := by
 intro pins s σ H x v Q I rx h
 obtain ⟨i, rfl, q⟩ := h
 obtain ⟨t, rfl⟩ := rx
 exact rule i t s _ _ ⟨.int (g i), H, I.tok _, ⟨_, rfl⟩, q⟩
theorem un_neg : UnR X (unaryOp .USub) (rU fun i => .int (-i)) := unI fun _ _ _ _ _ q => neg_int q
end
def scal : V -> V -> Bool
 | .non, .non => true | .non, .int _ => true | .int _, .non => true | .non, .bl _ => true | .bl _, .non => true | .non, .str _ => true | .str _, .non => true
 | .int _, .int _ => true | .bl _, .bl _ => true | .str _, .str _ => true | .byt _, .byt _ => true
 | .int _, .str _ => true | .str _, .int _ => true | .bl _, .str _ => true | .str _, .bl _ => true
 | _, _ => false
def rEq : R2 := fun x y H Q => scal x y = true /\ Q (.bl (decide (x = y))) H
def rNe : R2 := fun x y H Q => scal x y = true /\ Q (.bl (!decide (x = y))) H
theorem dec_int {i j : Int} : decide (V.int i = V.int j) = (i == j) := by
 rw [Bool.eq_iff_iff]
 simp
theorem dec_bl {i j : Bool} : decide (V.bl i = V.bl j) = (i == j) := by
 rw [Bool.eq_iff_iff]
 simp
theorem dec_str {i j : Str} : decide (V.str i = V.str j) = (i == j) := by
 rw [Bool.eq_iff_iff]
 simp
theorem dec_byt {i j : Array UInt8} : decide (V.byt i = V.byt j) = (i.toList == j.toList) := by
 rw [Bool.eq_iff_iff]
 cases i
 cases j
 simp
section
variable {X : Cx} {a b c : Expr} {ta tb tc : TE} {pos : Pos}
theorem fin_bl {pins : List (Addr × Obj)} {σ : St} {H : Hp} {s : Shared} {Q : VK} {k k' : Bool} (I : Inv X pins σ H s) (q : Q (.bl k) H) (e : k = k') : EP X pins σ Q (.bool k') s := by
 subst e
 exact ⟨.bl k, H, I, rfl, q⟩
theorem op_eq : OpR X (compareOp .Eq) rEq := by
 intro pins s σ H x y v u Q I rx ry h
 obtain ⟨hs, q⟩ := h
 cases x with
 | non =>
  cases rx
  cases y with
  | non => cases ry; exact PySem.EqNone.eq_none_none (fin_bl I q (by simp))
  | bl j => cases ry; exact PySem.EqNone.eq_none_bool (fin_bl I q (by simp))
  | int j => obtain ⟨t', rfl⟩ := ry; exact PySem.EqNone.eq_none_int (fin_bl I q (by simp))
  | str j => obtain ⟨t', rfl⟩ := ry; exact PySem.EqNone.eq_none_str (fin_bl I q (by simp))
  | _ => exact absurd (show false = true from hs) Bool.false_ne_true
 | bl i =>
  cases rx
  cases y with
  | non => cases ry; exact PySem.EqNone.eq_bool_none (fin_bl I q (by simp))
  | bl j => cases ry; exact eq_bool (fin_bl I q dec_bl)
  | str j => obtain ⟨t', rfl⟩ := ry; exact PySem.EqMixed.eq_bool_str (fin_bl I q (by simp))
  | _ => exact absurd (show false = true from hs) Bool.false_ne_true
 | int i =>
  obtain ⟨t, rfl⟩ := rx
  cases y with
  | non => cases ry; exact PySem.EqNone.eq_int_none (fin_bl I q (by simp))
  | int j => obtain ⟨t', rfl⟩ := ry; exact eq_int (fin_bl I q dec_int)
  | str j => obtain ⟨t', rfl⟩ := ry; exact PySem.EqMixed.eq_int_str (fin_bl I q (by simp))
  | _ => exact absurd (show false = true from hs) Bool.false_ne_true
 | str i =>
  obtain ⟨t, rfl⟩ := rx
  cases y with
  | non => cases ry; exact PySem.EqNone.eq_str_none (fin_bl I q (by simp))
  | bl j => cases ry; exact PySem.EqMixed.eq_str_bool (fin_bl I q (by simp))
  | int j => obtain ⟨t', rfl⟩ := ry; exact PySem.EqMixed.eq_str_int (fin_bl I q (by simp))
  | str j => obtain ⟨t', rfl⟩ := ry; exact eq_str (fin_bl I q dec_str)
  | _ => exact absurd (show false = true from hs) Bool.false_ne_true
 | byt i =>
  obtain ⟨t, rfl⟩ := rx
  cases y with
  | byt j => obtain ⟨t', rfl⟩ := ry; exact PySem.W.eq_bytes (fin_bl I q dec_byt)
  | _ => exact absurd (show false = true from hs) Bool.false_ne_true
 | _ => cases y <;> exact absurd (show false = true from hs) Bool.false_ne_true
theorem op_ne : OpR X (compareOp .NotEq) rNe := by
 intro pins s σ H x y v u Q I rx ry h
 obtain ⟨hs, q⟩ := h
 cases x with
 | non =>
  cases rx
  cases y with
  | non => cases ry; exact PySem.EqNone.ne_none_none (fin_bl I q (by simp))
  | bl j => cases ry; exact PySem.EqNone.ne_none_bool (fin_bl I q (by simp))
  | int j => obtain ⟨t', rfl⟩ := ry; exact PySem.EqNone.ne_none_int (fin_bl I q (by simp))
  | str j => obtain ⟨t', rfl⟩ := ry; exact PySem.EqNone.ne_none_str (fin_bl I q (by simp))
  | _ => exact absurd (show false = true from hs) Bool.false_ne_true
 | bl i =>
  cases rx
  cases y with
  | non => cases ry; exact PySem.EqNone.ne_bool_none (fin_bl I q (by simp))
  | bl j => cases ry; exact ne_bool (fin_bl I q (congrArg not dec_bl))
  | str j => obtain ⟨t', rfl⟩ := ry; exact PySem.EqMixed.ne_bool_str (fin_bl I q (by simp))
  | _ => exact absurd (show false = true from hs) Bool.false_ne_true
 | int i =>
  obtain ⟨t, rfl⟩ := rx
  cases y with
  | non => cases ry; exact PySem.EqNone.ne_int_none (fin_bl I q (by simp))
  | int j => obtain ⟨t', rfl⟩ := ry; exact ne_int (fin_bl I q (congrArg not dec_int))
  | str j => obtain ⟨t', rfl⟩ := ry; exact PySem.EqMixed.ne_int_str (fin_bl I q (by simp))
  | _ => exact absurd (show false = true from hs) Bool.false_ne_true
 | str i =>
  obtain ⟨t, rfl⟩ := rx
  cases y with
  | non => cases ry; exact PySem.EqNone.ne_str_none (fin_bl I q (by simp))
  | bl j => cases ry; exact PySem.EqMixed.ne_str_bool (fin_bl I q (by simp))
  | int j => obtain ⟨t', rfl⟩ := ry; exact PySem.EqMixed.ne_str_int (fin_bl I q (by simp))
  | str j => obtain ⟨t', rfl⟩ := ry; exact ne_str (fin_bl I q (congrArg not dec_str))
  | _ => exact absurd (show false = true from hs) Bool.false_ne_true
 | byt i =>
  obtain ⟨t, rfl⟩ := rx
  cases y with
  | byt j => obtain ⟨t', rfl⟩ := ry; exact PySem.W.ne_bytes (fin_bl I q (congrArg not dec_byt))
  | _ => exact absurd (show false = true from hs) Bool.false_ne_true
 | _ => cases y <;> exact absurd (show false = true from hs) Bool.false_ne_true
theorem op_lt : OpR X (compareOp .Lt) (rI0 fun i j => .bl (decide (i < j))) := opB0 fun _ _ _ _ _ _ _ q => lt_int q
theorem op_le : OpR X (compareOp .LtE) (rI0 fun i j => .bl (decide (i <= j))) := opB0 fun _ _ _ _ _ _ _ q => le_int q
theorem op_gt : OpR X (compareOp .Gt) (rI0 fun i j => .bl (decide (j < i))) := opB0 fun _ _ _ _ _ _ _ q => gt_int q
theorem op_ge : OpR X (compareOp .GtE) (rI0 fun i j => .bl (decide (j <= i))) := opB0 fun _ _ _ _ _ _ _ q => ge_int q
theorem op_lt_str : OpR X (compareOp .Lt) (fun x y H Q => ∃ i j, x = .str i /\ y = .str j /\ Q (.bl (decide (i.cps.toList < j.cps.toList))) H) := by
 intro pins s σ H x y v u Q I rx ry h
 obtain ⟨i, j, rfl, rfl, q⟩ := h
 obtain ⟨t, rfl⟩ := rx
 obtain ⟨t', rfl⟩ := ry
 exact lt_str (fin_bl I q rfl)
def isObj : HO -> Bool
 | .lst _ => true
 | .ins _ _ _ => true
 | _ => false
theorem nomark (b : Expr) {op : CmpOp} (h : op ≠ .In := by decide) (h2 : op ≠ .NotIn := by decide) : behindInMarks op b = false := by
 have e1 : (op == CmpOp.In) = false := by cases op <;> first | rfl | exact absurd rfl h
 have e2 : (op == CmpOp.NotIn) = false := by cases op <;> first | rfl | exact absurd rfl h2
 cases b <;> simp [behindInMarks, e1, e2]
theorem pe_cmpR {op : CmpOp} {r : R2} (ho : OpR X (compareOp op) r) (ha : PE X a ta) (hb : PE X b tb) (hm : behindInMarks op b = false) : PE X (.Compare a [op] [b] pos) (tOp r ta tb) := by
 intro pins s σ H Q I h
 exact wpAny_Compare1 (binT ha hb I h fun v u s2 x y H2 I2 rx ry q => ho pins s2 σ H2 x y v u Q I2 rx ry q) hm
def tTest (t : TE) : TT := fun σ H Q => t σ H fun x H' => ∃ k, x = .bl k /\ Q k H'
theorem pt_cmpR {op : CmpOp} {r : R2} (ho : OpR X (compareOp op) r) (ha : PE X a ta) (hb : PE X b tb) (hm : behindInMarks op b = false) : PT X (.Compare a [op] [b] pos) (tTest (tOp r ta tb)) := by
 intro pins s σ H Q I h
 refine wpAny_isTrue_Compare1 (thn (ha pins s σ H _ I h) fun v s1 ⟨x, H1, I1, r1, q1⟩ => thn (hb pins s1 σ H1 _ I1 q1) fun u s2 ⟨y, H2, I2, r2, q2⟩ =>
  thn (ho pins s2 σ H2 x y v u _ I2 r1 r2 q2) fun c s3 ⟨z, H3, I3, r3, k, e, q3⟩ => ?_) hm
 subst e
 cases r3
 exact wpAny_truthy_bool ⟨H3, I3, q3⟩
def tChain (r r' : R2) (ta tb tc : TE) : TE := fun σ H Q => ta σ H fun x H1 => tb σ H1 fun y H2 => r x y H2 fun z H3 => ∃ k, z = .bl k /\
 (if k = true then tc σ H3 fun w' H4 => r' y w' H4 Q else Q (.bl false) H3)
theorem pe_chain {op op' : CmpOp} {r r' : R2} (ho : OpR X (compareOp op) r) (ho' : OpR X (compareOp op') r') (ha : PE X a ta) (hb : PE X b tb) (hc : PE X c tc)
  (hm : lastMarks [op, op'] [b, c] = false := by with_unfolding_all rfl) : PE X (.Compare a [op, op'] [b, c] pos) (tChain r r' ta tb tc) := by
 intro pins s σ H Q I h
 refine Compare_chain (thn (ha pins s σ H _ I h) fun v s1 ⟨x, H1, I1, r1, q1⟩ => chain_link (thn (hb pins s1 σ H1 _ I1 q1) fun u s2 ⟨y, H2, I2, r2, q2⟩ =>
  thn (ho pins s2 σ H2 x y v u _ I2 r1 r2 q2) fun d s3 ⟨z, H3, I3, r3, k, e, q3⟩ => ?_)) hm
 subst e
 cases r3
 refine wpAny_truthy_bool ?_
 cases k with
 | false => exact ite_ff ⟨.bl false, H3, I3, rfl, q3⟩
 | true => exact ite_tt (chain_last (thn (hc pins s3 σ H3 _ I3 q3) fun w' s4 ⟨z', H4, I4, r4, q4⟩ => ho' pins s4 σ H4 y z' u w' Q I4 r2 r4 q4))
theorem pt_chain {op op' : CmpOp} {r r' : R2} (ho : OpR X (compareOp op) r) (ho' : OpR X (compareOp op') r') (ha : PE X a ta) (hb : PE X b tb) (hc : PE X c tc)
  (hm : lastMarks [op, op'] [b, c] = false := by with_unfolding_all rfl) : PT X (.Compare a [op, op'] [b, c] pos) (tTest (tChain r r' ta tb tc)) := by
 intro pins s σ H Q I h
 refine isTrue_chain (thn (ha pins s σ H _ I h) fun v s1 ⟨x, H1, I1, r1, q1⟩ => test_link (thn (hb pins s1 σ H1 _ I1 q1) fun u s2 ⟨y, H2, I2, r2, q2⟩ =>
  thn (ho pins s2 σ H2 x y v u _ I2 r1 r2 q2) fun d s3 ⟨z, H3, I3, r3, k, e, q3⟩ => ?_)) hm
 subst e
 cases r3
 refine wpAny_truthy_bool ?_
 cases k with
 | false =>
  obtain ⟨k', e', q'⟩ := q3
  cases e'
  exact ite_ff ⟨H3, I3, q'⟩
 | true =>
  refine ite_tt (test_last (thn (hc pins s3 σ H3 _ I3 q3) fun w' s4 ⟨z', H4, I4, r4, q4⟩ => thn (ho' pins s4 σ H4 y z' u w' _ I4 r2 r4 q4) fun d' s5 ⟨z2, H5, I5, r5, k2, e2, q5⟩ => ?_))
  subst e2
  cases r5
  exact wpAny_truthy_bool ⟨H5, I5, q5⟩
def TruV (K : PySem.W.Frag) (x : V) (H : Hp) (k : Bool) : Prop :=
 match x with
 | .non => k = false
 | .bl b => k = b
 | .int i => k = (i != 0)
 | .str y => y.length <= sizeLine /\ k = ((y.length : Int) != 0)
 | .byt y => y.size <= sizeLine /\ k = ((y.size : Int) != 0)
 | .ref p => (∃ xs, SqL K H p xs /\ k = !xs.isEmpty) ∨ (∃ xs, SqT K H p xs /\ k = !xs.isEmpty) ∨ ∃ kvs, H p = some (.dK kvs) /\ k = !kvs.isEmpty
 | _ => False
theorem line63 : (sizeLine : Nat) < 2 ^ 63 := by rw [sizeLine_eq]; decide
theorem op_add_str : OpR X (binaryOp .Add) (fun x y H Q => ∃ i j, x = .str i /\ y = .str j /\ i.length + j.length <= sizeLine /\ Q (.str (i ++ j)) H) := by
 intro pins s σ H x y v u Q I rx ry h
 obtain ⟨i, j, rfl, rfl, hz, q⟩ := h
 obtain ⟨t, rfl⟩ := rx
 obtain ⟨t', rfl⟩ := ry
 exact add_str (fun t' tk => ⟨.str (i ++ j), H, I.tok _, ⟨_, rfl⟩, q⟩) hz
def PlainIxT (b : Expr) : Prop := ∀ o i, subscripted b false o i = operate [o, i] (getItem o i)
theorem vals1 {x : V} {us : List Value} (r : Vals [x] us) : ∃ u, us = [u] /\ RelV x u := by
 cases r with
 | cons r1 r2 => cases r2; exact ⟨_, rfl, r1⟩
theorem vals2 {x y : V} {us : List Value} (r : Vals [x, y] us) : ∃ u w', us = [u, w'] /\ RelV x u /\ RelV y w' := by
 cases r with
 | cons r1 r2 =>
  cases r2 with
  | cons r3 r4 => cases r4; exact ⟨_, _, rfl, r1, r3⟩
theorem call_max2 (hc : X.calm = true) : CallR X (.builtin "max") (fun xs H Q => ∃ i j, xs = [.int i, .int j] /\ Q (.int (if j > i then j else i)) H) := by
 intro pins s σ H xs us Q I r h
 obtain ⟨i, j, rfl, q⟩ := h
 obtain ⟨u, w', rfl, ⟨t, rfl⟩, ⟨t', rfl⟩⟩ := vals2 r
 refine max_two_ints (I.ok.hd hc) fun h' tk k => ⟨_, H, I.kept k, ?_, q⟩
 by_cases hj : j > i
 ·rw [if_pos hj, if_pos hj]; exact ⟨_, rfl⟩
 ·rw [if_neg hj, if_neg hj]; exact ⟨_, rfl⟩
theorem call_min2 (hc : X.calm = true) : CallR X (.builtin "min") (fun xs H Q => ∃ i j, xs = [.int i, .int j] /\ Q (.int (if j < i then j else i)) H) := by
 intro pins s σ H xs us Q I r h
 obtain ⟨i, j, rfl, q⟩ := h
 obtain ⟨u, w', rfl, ⟨t, rfl⟩, ⟨t', rfl⟩⟩ := vals2 r
 refine min_two_ints (I.ok.hd hc) fun h' tk k => ⟨_, H, I.kept k, ?_, q⟩
 by_cases hj : j < i
 ·rw [if_pos hj, if_pos hj]; exact ⟨_, rfl⟩
 ·rw [if_neg hj, if_neg hj]; exact ⟨_, rfl⟩
theorem call_int1 : CallR X (.type "int") (fun xs H Q => (∃ i, xs = [.int i] /\ Q (.int i) H) ∨ ∃ k, xs = [.bl k] /\ Q (.int (if k then 1 else 0)) H) := by
 intro pins s σ H xs us Q I r h
 rcases h with ⟨i, rfl, q⟩ | ⟨k, rfl, q⟩
 ·obtain ⟨u, rfl, t, rfl⟩ := vals1 r
  exact call_int_int ⟨.int i, H, I, ⟨_, rfl⟩, q⟩
 ·obtain ⟨u, rfl, r1⟩ := vals1 r
  cases r1
  exact call_int_bool ⟨.int (if k then 1 else 0), H, I.tok _, ⟨_, rfl⟩, q⟩
def LenV (K : PySem.W.Frag) (x : V) (H : Hp) (n : Nat) : Prop :=
 match x with
 | .str y => y.length <= sizeLine /\ n = y.length
 | .byt y => y.size <= sizeLine /\ n = y.size
 | .ref p => (∃ xs, SqL K H p xs /\ n = xs.length) ∨ ∃ xs, SqT K H p xs /\ n = xs.length
 | _ => False
end
end L2
namespace L2
open PySem PySem.Spec PyProof.Rows
structure ObjM (h : Heap) (x dx C : Addr) (mA : Str -> Option Value) : Prop where
 obj : h.get? x = some (PySem.W.instObj C dx)
 ns : h.Ns1 dx mA
 ne : dx ≠ x
theorem lookIn_ns {h : Heap} {dx : Addr} {mA : Str -> Option Value} (n : h.Ns1 dx mA) : ∃ od, h.get? dx = some od /\ ∀ name, PySem.W.lookIn name od = some (mA name) := by
 obtain ⟨o, es, ep, ho, hd, hk, _, hm⟩ := n
 refine ⟨o, ho, fun name => ?_⟩
 have e := hm name
 unfold nsFind findBy at e
 rw [<- Array.find?_toList] at e
 unfold PySem.W.lookIn
 rw [hd]
 dsimp only
 split
 ·rename_i y q
  rw [q] at e
  exact congrArg some e
 ·rename_i q
  rw [q] at e
  have a : es.toList.any (·.refKey) = false := by
   rw [List.any_eq_false]
   intro y hy
   obtain ⟨z, t, hkey⟩ := hk y (Array.mem_toList_iff.mp hy)
   simp [DictEntry.refKey, hkey]
  have a' : ¬ es.toList.any (·.refKey) = true := by rw [a]; exact Bool.false_ne_true
  rw [if_neg a']
  exact congrArg some e
theorem ObjM.look {h : Heap} {x dx C : Addr} {mA : Str -> Option Value} (I : ObjM h x dx C mA) : ∃ od, PySem.W.InstAt h x (PySem.W.instObj C dx) C (some od) /\ ∀ name, PySem.W.lookIn name od = some (mA name) :=
 let ⟨od, ho, hl⟩ := lookIn_ns I.ns
 ⟨od, ⟨I.obj, rfl, rfl, ho⟩, hl⟩
section
variable {prog : Program} {w : World} {A : Around} {E : Value -> Shared -> Prop} {s : Shared} {K : PySem.W.Frag} {x dx C f : Addr} {mA : Str -> Option Value} {name : Str} {v : Value}
theorem get_map {expr : Bool} {Q : Value -> Shared -> Prop} (X : K.In s.heap) (I : ObjM s.heap x dx C mA) (hg : PySem.W.plainGet K C name = true) (hh : PySem.W.hasDictIn K C = true)
  (ha : PySem.W.findIn K (.ref C) name = some none) (hv : mA name = some v) (hv' : PySem.W.handedIn v = true) (h : Q v { s with toks := s.toks + 1 }) :
  wpAny (model prog w) A (getAttr (.ref x) name expr) Q E s := by
 obtain ⟨od, J, hl⟩ := I.look
 exact PySem.W.get_value X J (PySem.W.plainGet_of hg).1 (PySem.W.findObj_own hh ha rfl (by rw [hl, hv])) hv' h
theorem get_meth {pl : Sem Bool} {Q : Value × List Value -> Shared -> Prop} (X : K.In s.heap) (I : ObjM s.heap x dx C mA) (hg : PySem.W.plainGet K C name = true)
  (hf : PySem.W.findIn K (.ref C) name = some (some (.ref f))) (ht : PySem.W.isFn K (.ref f) = true) (hv : mA name = none) (h : Q (.ref f, [.ref x]) s) :
  wpAny (model prog w) A (getMethod (.ref x) name pl) Q E s := by
 obtain ⟨od, J, hl⟩ := I.look
 exact PySem.W.method_fn X J (PySem.W.plainGet_of hg).1 (PySem.W.plainGet_of hg).2 hf (beq_iff_eq.mp ht) (by show (PySem.W.lookIn name od).map (·.isSome) = some false; rw [hl, hv]; rfl) h
theorem set_map {ns : List Str} {Q : Unit -> Shared -> Prop} (X : K.In s.heap) (I : ObjM s.heap x dx C mA)
  (hs : PySem.W.findIn K (.ref C) "__setattr__" = some (some (.builtin "object.__setattr__"))) (hp : PySem.W.plainOver K C = true) (ht : PySem.W.takerIn K C name = some none) (hh : PySem.W.hasDictIn K C = true)
  (hw : PySem.Within mA ns) (hsz : ns.length <= sizeLine)
  (h : ∀ h', ObjM h' x dx C (fun y => if y = name then some v else mA y) -> Heap.SameBut dx s.heap h' -> Q () { s with heap := h', toks := s.toks + 2 }) :
  wpAny (model prog w) A (setAttr (.ref x) name v) Q E s := by
 obtain ⟨od, J, hl⟩ := I.look
 refine PySem.W.set_plain X J hs (PySem.W.osa_open (s := { s with toks := s.toks + 1 }) (r := none) X J hp ht fun b => ?_)
 obtain ⟨cd, hc, hd'⟩ := PySem.W.any_some hh
 have hx : s.heap.get? x = some ⟨.ref C, some dx, .plain, #[]⟩ := I.obj
 refine wpAny_bind (wpAny_pure (wpAny_bind (wpAny_bind (wpAny_loadPart hx (wpAny_bind (PySem.W.Looks.here (s := { s with toks := s.toks + 1 }) (PySem.W.looks_clsIn X hc) ?_))))))
 rw [hd']
 refine wpAny_pure (a := some dx) (wpAny_bind (wpAny_pure (wpAny_bind ?_)))
 refine wpAny_nsSet1 (s := { s with toks := s.toks + 1 }) I.ns fun h' hn2 hs2 => ?_
 obtain ⟨oD, esD, epD, hoD, hdD, hcD⟩ := hn2.count (PySem.Within.cons name v hw)
 refine wpAny_bind (wpAny_lookBehind hoD (by rw [hdD]; exact pastItsLine_dict (Nat.le_trans hcD (by rw [List.length_cons]; omega))) ?_)
 exact wpAny_pure (h _ ⟨(hs2.2 _ (Ne.symm I.ne)).trans I.obj, hn2, I.ne⟩ hs2)
theorem make_map {R : Result -> Shared -> Prop} {vs : List Value} {kw : List (Str × Value)} (X : K.In s.heap) (hm : PySem.W.makesIn K C = true)
  (hi : PySem.W.findIn K (.ref C) "__init__" = some (some (.ref f))) (hf : PySem.W.typeIn K (.ref f) = some (.type "function"))
  (h : codeAny (model prog w) (A.under (.builtin "type.__call__" ⟨.ref C :: vs, kw⟩)) (.call (.ref f) ⟨.ref (s.heap.objs.size + 1) :: vs, kw⟩) (PySem.W.InitBack (s.heap.objs.size + 1) R)
   { s with heap := (s.heap.push PySem.W.emptyDict).push (PySem.W.instObj C s.heap.objs.size) }) :
  codeAny (model prog w) A (.call (.ref C) ⟨vs, kw⟩) R s := by
 obtain ⟨hh, g, d, t, os⟩ := s
 exact PySem.W.make_core (PySem.W.makes_of X hm) (PySem.W.looks_findIn X hi) (fun self => PySem.W.bind_fn X self hf) (.inl rfl) h
end
def putF (f : Str) (v : V) : List (Str × V) -> List (Str × V)
 | [] => [(f, v)]
 | (g, x) :: r => if g = f then (g, v) :: r else (g, x) :: putF f v r
theorem lookup_putF (f g : Str) (v : V) : ∀ fs : List (Str × V), (putF f v fs).lookup g = if g = f then some v else fs.lookup g
 | [] => by
  show List.lookup g [(f, v)] = _
  by_cases h : g = f
  ·have hb : (g == f) = true := beq_iff_eq.mpr h
   simp only [List.lookup, hb, if_pos h]
  ·have hb : (g == f) = false := beq_eq_false_iff_ne.mpr h
   simp only [List.lookup, hb, if_neg h]
 | (k, x) :: r => by
  have ih := lookup_putF f g v r
  rw [show putF f v ((k, x) :: r) = (if k = f then (k, v) :: r else (k, x) :: putF f v r) from rfl]
  by_cases hk : k = f
  ·rw [if_pos hk]
   by_cases h : g = k
   ·have hb : (g == k) = true := beq_iff_eq.mpr h
    simp only [List.lookup, hb, if_pos (h.trans hk)]
   ·have hb : (g == k) = false := beq_eq_false_iff_ne.mpr h
    simp only [List.lookup, hb, if_neg (fun e : g = f => h (e.trans hk.symm))]
  ·rw [if_neg hk]
   by_cases h : g = k
   ·have hb : (g == k) = true := beq_iff_eq.mpr h
    simp only [List.lookup, hb, if_neg (fun e : g = f => hk (h.symm.trans e))]
   ·have hb : (g == k) = false := beq_eq_false_iff_ne.mpr h
    simp only [List.lookup, hb]
    exact ih
theorem keys_putF (f : Str) (v : V) : ∀ fs : List (Str × V), f ∈ (putF f v fs).map (·.1) /\ ∀ g, g ∈ fs.map (·.1) -> g ∈ (putF f v fs).map (·.1)
 | [] => ⟨by simp [putF], fun g h => by simp at h⟩
 | (k, x) :: r => by
  obtain ⟨i1, i2⟩ := keys_putF f v r
  rw [show putF f v ((k, x) :: r) = (if k = f then (k, v) :: r else (k, x) :: putF f v r) from rfl]
  by_cases hk : k = f
  ·rw [if_pos hk]
   subst hk
   exact ⟨by simp, fun g h => by simpa using h⟩
  ·rw [if_neg hk]
   refine ⟨?_, fun g h => ?_⟩
   ·rw [List.map_cons]
    exact List.mem_cons_of_mem _ i1
   ·rw [List.map_cons] at h ⊢
    rcases List.mem_cons.mp h with e | e
    ·exact List.mem_cons.mpr (.inl e)
    ·exact List.mem_cons_of_mem _ (i2 g e)
theorem length_putF (f : Str) (v : V) : ∀ fs : List (Str × V), (putF f v fs).length <= fs.length + 1
 | [] => by simp [putF]
 | (k, x) :: r => by
  have ih := length_putF f v r
  rw [show putF f v ((k, x) :: r) = (if k = f then (k, v) :: r else (k, x) :: putF f v r) from rfl]
  by_cases hk : k = f
  ·rw [if_pos hk, List.length_cons, List.length_cons]; omega
  ·rw [if_neg hk, List.length_cons, List.length_cons]; omega
theorem RelO.some_of {v : V} {o : Option Value} (r : RelO (some v) o) : ∃ u, o = some u /\ RelV v u := by
 cases o with
 | none => exact (show False from r).elim
 | some u => exact ⟨u, rfl, r⟩
theorem RelO.none_of {o : Option Value} (r : RelO none o) : o = none := by
 cases o with
 | none => rfl
 | some u => exact (show False from r).elim
theorem handed_of {v : V} {u : Value} (r : RelV v u) : PySem.W.handedIn u = true := by
 cases v with
 | non => cases (show u = Value.none from r); rfl
 | bl b => cases (show u = Value.bool b from r); rfl
 | int i => obtain ⟨t, e⟩ := (show ∃ t, u = Value.int i t from r); cases e; rfl
 | str x => obtain ⟨t, e⟩ := (show ∃ t, u = Value.str x t from r); cases e; rfl
 | byt b => obtain ⟨t, e⟩ := (show ∃ t, u = Value.bytes b t from r); cases e; rfl
 | flt b => obtain ⟨t, e⟩ := (show ∃ t, u = Value.float b t from r); cases e; rfl
 | ref a => cases (show u = Value.ref a from r); rfl
 | ty n => cases (show u = Value.type n from r); rfl
section
variable {P : Program} {w : World} {H H' : Hp} {h h' : Heap} {a C dx : Addr} {fs fs' : List (Str × V)}
theorem ins_get (hok : HOk P w H h) (e : H a = some (.ins C dx fs)) : ∃ mA, ObjM h a dx C mA /\ (∀ f, RelO (fs.lookup f) (mA f)) /\ PySem.Within mA (fs.map (·.1)) /\ fs.length <= 1000 /\ H dx = some (.own a) := by
 obtain ⟨d, z, ne, ob, mA, n, r, q⟩ := (show ObjOk P w H h a (.ins C dx fs) from hok a _ e)
 exact ⟨mA, ⟨ob, n, ne⟩, r, q, z, d⟩
end
structure Cls (K : PySem.W.Frag) (C : Addr) : Prop where
 pg : PySem.W.plainGet K C Str.empty = true
 hd : PySem.W.hasDictIn K C = true
 po : PySem.W.plainOver K C = true
 sa : PySem.W.findIn K (.ref C) "__setattr__" = some (some (.builtin "object.__setattr__"))
theorem Cls.get {K : PySem.W.Frag} {C : Addr} (c : Cls K C) (f : Str) : PySem.W.plainGet K C f = true := c.pg
def NoAttr (K : PySem.W.Frag) (C : Addr) (f : Str) : Prop := PySem.W.findIn K (.ref C) f = some none
theorem NoAttr.taker {K : PySem.W.Frag} {C : Addr} {f : Str} (n : NoAttr K C f) : PySem.W.takerIn K C f = some none := by
 unfold PySem.W.takerIn
 rw [show PySem.W.findIn K (.ref C) f = some none from n]
 rfl
structure Con (K : PySem.W.Frag) (C : Addr) (f : Str) (v : V) (u : Value) : Prop where
 at_ : PySem.W.findIn K (.ref C) f = some (some u)
 rel : RelV v u
 get : PySem.W.specialIn K u "__get__" = some none
 cp : PySem.W.copiedNames.contains f = false
structure Meth (K : PySem.W.Frag) (C : Addr) (m : Str) (f : Addr) : Prop where
 at_ : PySem.W.findIn K (.ref C) m = some (some (.ref f))
 fn : PySem.W.isFn K (.ref f) = true
 kp : PySem.W.keepIn K (.ref f) = true
section
variable {X : Cx} {pins : List (Addr × Obj)} {σ : St} {H : Hp} {s : Shared} {a C dx : Addr} {fs : List (Str × V)} {f : Str} {v : V} {A : Around} {E : Value -> Shared -> Prop}
theorem getattr_ok {b : Bool} {Q : Value -> Shared -> Prop} (I : Inv X pins σ H s) (e : H a = some (.ins C dx fs)) (c : Cls X.K C) (n : NoAttr X.K C f) (l : fs.lookup f = some v)
  (h : ∀ u s', Inv X pins σ H s' -> RelV v u -> Q u s') : wpAny (model X.prog X.w) A (getAttr (.ref a) f b) Q E s := by
 obtain ⟨mA, O, r, _, _, _⟩ := ins_get I.hok e
 obtain ⟨u, hu, ru⟩ := RelO.some_of (v := v) (o := mA f) (by rw [<- l]; exact r f)
 exact get_map I.kIn O (c.get f) c.hd n hu (handed_of ru) (h u _ (I.tok _) ru)
theorem getmeth_ok {m : Str} {g : Addr} {pl : Sem Bool} {Q : Value × List Value -> Shared -> Prop} (I : Inv X pins σ H s) (e : H a = some (.ins C dx fs)) (c : Cls X.K C) (k : Meth X.K C m g) (l : fs.lookup m = none)
  (h : Q (.ref g, [.ref a]) s) : wpAny (model X.prog X.w) A (getMethod (.ref a) m pl) Q E s := by
 obtain ⟨mA, O, r, _, _, _⟩ := ins_get I.hok e
 have hn : mA m = none := RelO.none_of (by rw [<- l]; exact r m)
 exact get_meth I.kIn O (c.get m) k.at_ k.fn hn h
theorem setattr_ok {y : V} {u : Value} {Q : Unit -> Shared -> Prop} (I : Inv X pins σ H s) (e : H a = some (.ins C dx fs)) (c : Cls X.K C) (n : NoAttr X.K C f) (hl : fs.length < 1000) (ry : RelV y u)
  (h : ∀ s', Inv X pins σ (upd H a (.ins C dx (putF f y fs))) s' -> Q () s') : wpAny (model X.prog X.w) A (setAttr (.ref a) f u) Q E s := by
 obtain ⟨mA, O, r, wi, _, ho⟩ := ins_get I.hok e
 have hz : (fs.map (·.1)).length <= sizeLine := by rw [List.length_map, sizeLine_eq]; omega
 refine set_map I.kIn O c.sa c.po n.taker c.hd wi hz fun h' O' sb => h _ ?_
 have hd : ∃ o, h'.get? dx = some o := let ⟨o, _, _, e', _⟩ := O'.ns; ⟨o, e'⟩
 refine I.write (x := a) (e := dx) (by rw [e]; exact True.intro) (.inr ho) (fun b q hb z => (sb.2 b hb).trans z) hd ?_
 refine ⟨by rw [upd_ne O.ne]; exact ho, ?_, O.ne, O'.obj, _, O'.ns, fun g => ?_, fun g hg => ?_⟩
 ·have := length_putF f y fs; omega
 ·show RelO ((putF f y fs).lookup g) (if g = f then some u else mA g)
  rw [lookup_putF]
  by_cases q : g = f
  ·rw [if_pos q, if_pos q]; exact ry
  ·rw [if_neg q, if_neg q]; exact r g
 ·by_cases q : g = f
  ·rw [q]; exact (keys_putF f y fs).1
  ·refine (keys_putF f y fs).2 g (wi g fun z => hg ?_)
   show (if g = f then some u else mA g) = none
   rw [if_neg q]; exact z
theorem Inv.made (I : Inv X pins σ H s) : Inv X pins σ (upd (upd H s.heap.objs.size (.own (s.heap.objs.size + 1))) (s.heap.objs.size + 1) (.ins C s.heap.objs.size []))
  { s with heap := (s.heap.push PySem.W.emptyDict).push (PySem.W.instObj C s.heap.objs.size) } := by
 have e1 : (s.heap.push PySem.W.emptyDict).get? s.heap.objs.size = some PySem.W.emptyDict := Heap.get?_push_size s.heap rfl
 have e2 : ((s.heap.push PySem.W.emptyDict).push (PySem.W.instObj C s.heap.objs.size)).get? (s.heap.objs.size + 1) = some (PySem.W.instObj C s.heap.objs.size) := by
  have := Heap.get?_push_size (s.heap.push PySem.W.emptyDict) (o := PySem.W.instObj C s.heap.objs.size) rfl
  rwa [Heap.size_push] at this
 have e3 : (s.heap.push PySem.W.emptyDict).Ns s.heap.objs.size (fun _ => none) := ⟨PySem.W.emptyDict, #[], _, e1, rfl, (fun e he => absurd he (by simp)), fun _ => rfl⟩
 have I1 := I.laid (a := s.heap.objs.size) (o := .own (s.heap.objs.size + 1)) (h' := s.heap.push PySem.W.emptyDict) (t' := s.toks) (fun b u q => Heap.get?_push_of_some _ q) (Nat.le_refl _) ⟨_, e1⟩
 refine I1.laid (a := s.heap.objs.size + 1) (o := .ins C s.heap.objs.size []) (t' := s.toks) (fun b u q => Heap.get?_push_of_some _ q) (Nat.le_of_eq (Heap.size_push _ _)) ?_
 have ne : s.heap.objs.size ≠ s.heap.objs.size + 1 := Nat.ne_of_lt (Nat.lt_succ_self _)
 refine ⟨by rw [upd_ne ne, upd_same], Nat.zero_le _, ne, e2, fun _ => none, (Heap.Ns1.of_empty e3).at fun o q => Heap.get?_push_of_some _ q, fun _ => True.intro, fun y hy => absurd rfl hy⟩
theorem attr_of {prog : Program} {w : World} {env : Env} {e : Expr} {f : Str} {pos : Pos} {s : Shared} {Q : Value -> Shared -> Prop} (hb : attributeBase e f env (eval e env) = eval e env)
  (h : wpAny (model prog w) A (eval e env) (fun o s₁ => wpAny (model prog w) A (getAttr o f true) Q E s₁) E s) : wpAny (model prog w) A (eval (.Attribute e f pos) env) Q E s :=
 Attribute_any_ h (by rw [arm_eval_Attribute, hb])
end
def tFld (K : PySem.W.Frag) (ta : TE) (f : Str) : TE := fun σ H Q => ta σ H fun x H1 => ∃ a C dx fs v, x = .ref a /\ H1 a = some (.ins C dx fs) /\ Cls K C /\ NoAttr K C f /\ fs.lookup f = some v /\ Q v H1
def tCon (K : PySem.W.Frag) (ta : TE) (f : Str) : TE := fun σ H Q => ta σ H fun x H1 => ∃ a C dx fs v u, x = .ref a /\ H1 a = some (.ins C dx fs) /\ Cls K C /\ Con K C f v u /\ fs.lookup f = none /\ Q v H1
def sFld (K : PySem.W.Frag) (ta tv : TE) (f : Str) : TS := fun D σ H => tv σ H fun y H1 => ta σ H1 fun x H2 => ∃ a C dx fs, x = .ref a /\ H2 a = some (.ins C dx fs) /\ Cls K C /\ NoAttr K C f /\ fs.length < 1000 /\
 D.nx σ (upd H2 a (.ins C dx (putF f y fs)))
def InOp (X : Cx) (op : Operator) (rd : V -> V -> Hp -> VK -> Prop) : Prop :=
 ∀ (pins : List (Addr × Obj)) (s : Shared) (σ : St) (H : Hp) (x y : V) (u v : Value) (Q : VK), Inv X pins σ H s -> RelV x u -> RelV y v -> rd x y H Q -> wpAny (model X.prog X.w) X.A (inplaceOp op u v) (EP X pins σ Q) X.xe s
def sFldAug (K : PySem.W.Frag) (ta tv : TE) (rd : V -> V -> Hp -> VK -> Prop) (f : Str) : TS := fun D σ H => ta σ H fun x H1 => ∃ a C dx fs v, x = .ref a /\ H1 a = some (.ins C dx fs) /\ Cls K C /\ NoAttr K C f /\ fs.lookup f = some v /\
 tv σ H1 fun y H2 => rd v y H2 fun z H3 => ∃ dx' fs', H3 a = some (.ins C dx' fs') /\ fs'.length < 1000 /\ D.nx σ (upd H3 a (.ins C dx' (putF f z fs')))
section
variable {X : Cx} {o e value : Expr} {f : Str} {pos pos' tpos : Pos} {ta tv : TE}
theorem pe_fld (he : PE X e ta) (hb : attributeBase e f X.env (eval e X.env) = eval e X.env) : PE X (.Attribute e f pos) (tFld X.K ta f) := by
 intro pins s σ H Q I h
 refine attr_of hb (thn (he pins s σ H _ I h) fun u s1 ⟨x, H1, I1, rx, a, C, dx, fs, v, ex, ea, c, n, l, q⟩ => ?_)
 subst ex
 obtain rfl : u = Value.ref a := rx
 exact getattr_ok I1 ea c n l fun u' s2 I2 ru => ⟨v, H1, I2, ru, q⟩
theorem ps_fld (ha : PE X o ta) (hv : PE X value tv) (hs : swapsWith value (some (.Attribute o f pos')) pos.line X.env = pure false) : PS X (.Assign [.Attribute o f pos'] value pos) (sFld X.K ta tv f) := by
 intro pins s σ H D I h
 refine plainObj_wpAny_Assign_Attribute (thn (hv pins s σ H _ I h) fun u s1 ⟨y, H1, I1, ry, q⟩ => thn (ha pins s1 σ H1 _ I1 q) fun ov s2 ⟨x, H2, I2, rx, a, C, dx, fs, ex, ea, c, n, l, q2⟩ => ?_) hs
 subst ex
 obtain rfl : ov = Value.ref a := rx
 exact setattr_ok I2 ea c n l ry fun s3 I3 => ⟨σ, _, I3, q2⟩
def rAdd : V -> V -> Hp -> VK -> Prop := fun x y H Q => ∃ i j, x = .int i /\ y = .int j /\ Q (.int (i + j)) H
def rSub : V -> V -> Hp -> VK -> Prop := fun x y H Q => ∃ i j, x = .int i /\ y = .int j /\ Q (.int (i - j)) H
end
section
variable {X : Cx} {pins : List (Addr × Obj)} {σ : St} {H : Hp} {s : Shared} {A : Around} {E : Value -> Shared -> Prop} {Q : Value -> Shared -> Prop} {c : Value} {b : Bool}
inductive TyOf (K : PySem.W.Frag) (H : Hp) : V -> Value -> Prop where
 | non : TyOf K H .non (.type "NoneType")
 | bl (x : Bool) : TyOf K H (.bl x) (.type "bool")
 | int (i : Int) : TyOf K H (.int i) (.type "int")
 | str (x : Str) : TyOf K H (.str x) (.type "str")
 | flt (x : UInt64) : TyOf K H (.flt x) (.type "float")
 | lst {a : Addr} {xs : List V} (e : H a = some (.lst xs)) : TyOf K H (.ref a) (.type "list")
 | frz {a : Addr} {o : Obj} {xs : List V} (e : H a = some (.frz o (.lst xs))) : TyOf K H (.ref a) (.type "list")
 | tup {a : Addr} {xs : List V} (e : H a = some (.tup xs)) : TyOf K H (.ref a) (.type "tuple")
 | dK {a : Addr} {kvs : List (Key × V)} (e : H a = some (.dK kvs)) : TyOf K H (.ref a) (.type "dict")
 | dT {a : Addr} {kvs : List (List Key × V)} (e : H a = some (.dT kvs)) : TyOf K H (.ref a) (.type "dict")
 | ins {a C dx : Addr} {fs : List (Str × V)} (e : H a = some (.ins C dx fs)) (cl : Cls K C) (ha : PySem.W.findIn K (.ref C) "__class__" = some (some (.builtin "object.__class__")))
   (hn : PySem.W.specialIn K (.builtin "object.__class__") "__get__" = some (some (.builtin "getset_descriptor.__get__"))) (htk : PySem.W.takesIn K (.builtin "object.__class__") = some true)
   (hm : PySem.W.mroIn K C (.type "object") = some true) : TyOf K H (.ref a) (.ref C)
theorem isinst_ok {x : V} {u t : Value} (I : Inv X pins σ H s) (rx : RelV x u) (ty : TyOf X.K H x t) (e : PySem.W.kitOne X.K t c = some b) (h : ∀ tk, Q (.bool b) { s with toks := tk }) :
  wpAny (model X.prog X.w) A (call (.builtin "isinstance") [u, c]) Q E s := by
 cases ty with
 | non => cases (show u = Value.none from rx); exact PySem.W.kia_one PySem.W.kitx_none I.kIn True.intro e (fun z => nomatch z) h
 | bl y => cases (show u = Value.bool y from rx); exact PySem.W.kia_one PySem.W.kitx_bool I.kIn True.intro e (fun z => nomatch z) h
 | int i => obtain ⟨t, q⟩ := (show ∃ t, u = Value.int i t from rx); cases q; exact PySem.W.kia_one PySem.W.kitx_int I.kIn True.intro e (fun z => nomatch z) h
 | str y => obtain ⟨t, q⟩ := (show ∃ t, u = Value.str y t from rx); cases q; exact PySem.W.kia_one PySem.W.kitx_str I.kIn True.intro e (fun z => nomatch z) h
 | flt y => obtain ⟨t, q⟩ := (show ∃ t, u = Value.float y t from rx); cases q; exact PySem.W.kia_one PySem.W.kitx_float I.kIn True.intro e (fun z => nomatch z) h
 | @lst a xs ea =>
  cases (show u = Value.ref a from rx)
  obtain ⟨_, _, n, _, h1⟩ := (show ObjOk X.prog X.w H s.heap a (.lst xs) from I.hok a _ ea)
  exact PySem.W.kia_one PySem.W.kitx_list I.kIn ⟨_, h1, rfl⟩ e (fun z => nomatch z) h
 | @frz a ob xs ea =>
  cases (show u = Value.ref a from rx)
  obtain ⟨_, _, _, n, _, h1⟩ := (show ObjOk X.prog X.w H s.heap a (.frz ob (.lst xs)) from I.hok a _ ea)
  exact PySem.W.kia_one PySem.W.kitx_list I.kIn ⟨_, h1, rfl⟩ e (fun z => nomatch z) h
 | @tup a xs ea =>
  cases (show u = Value.ref a from rx)
  obtain ⟨_, _, _, p, _⟩ := (show ObjOk X.prog X.w H s.heap a (.tup xs) from I.hok a _ ea)
  obtain ⟨o, h1, h2, _⟩ := p
  exact PySem.W.kia_one PySem.W.kitx_tuple I.kIn ⟨o, h1, h2⟩ e (fun z => nomatch z) h
 | @dK a kvs ea =>
  cases (show u = Value.ref a from rx)
  obtain ⟨_, _, vs, _, p⟩ := (show ObjOk X.prog X.w H s.heap a (.dK kvs) from I.hok a _ ea)
  obtain ⟨o, es, ep, h1, h2, _⟩ := p
  exact PySem.W.kia_one PySem.W.kitx_dict I.kIn ⟨o, h1, h2.1⟩ e (fun z => nomatch z) h
 | @dT a kvs ea =>
  cases (show u = Value.ref a from rx)
  obtain ⟨_, _, xs, _, o, es, ep, h1, h2, _⟩ := (show ObjOk X.prog X.w H s.heap a (.dT kvs) from I.hok a _ ea)
  exact PySem.W.kia_one PySem.W.kitx_dict I.kIn ⟨o, h1, h2.1⟩ e (fun z => nomatch z) h
 | @ins a C dx fs ea cl ha hn htk hm =>
  cases (show u = Value.ref a from rx)
  obtain ⟨mA, O, _⟩ := ins_get I.hok ea
  obtain ⟨od, J, _⟩ := O.look
  exact PySem.W.kia_one (PySem.W.kitx_own (cl.get _) cl.hd ha hn htk hm) I.kIn J e (fun z => nomatch z) h
end
end L2
namespace L2
open PySem PySem.Spec PyProof.Rows
structure Room (k : Nat) (A : Around) : Prop where
 hd : A.handled = none
 dp : A.depth + 3 * k + 5 < recursionLimit
 un : A.units + 16 * k + 200 < cLine
theorem Room.mono {j k : Nat} {A : Around} (r : Room k A) (h : j <= k) : Room j A := ⟨r.hd, by have := r.dp; omega, by have := r.un; omega⟩
theorem Room.deeper {k : Nat} {A : Around} (r : Room (k + 1) A) (env : Env) : Room k (A.deeper env) :=
 ⟨r.hd, by have := r.dp; show A.depth + 1 + 3 * k + 5 < _; omega, by have := r.un; show A.units + 3 + 16 * k + 200 < _; omega⟩
theorem make_depth {A : Around} {C : Addr} {us : List Value} {kw : List (Str × Value)} : (A.under (.builtin "type.__call__" ⟨.ref C :: us, kw⟩)).depth = A.depth + 1 := by
 first | rfl | simp [Around.under, Code.weight, Code.isCreation, Code.isGuard, Code.isCaller, Code.frames, Code.isFrame, guardIds]
theorem make_units {A : Around} {C : Addr} {us : List Value} {kw : List (Str × Value)} : (A.under (.builtin "type.__call__" ⟨.ref C :: us, kw⟩)).units = A.units + 1 := by
 first | rfl | simp [Around.under, Code.cUnits, Code.frames, Code.isFrame]
theorem Room.make {k : Nat} {A : Around} (r : Room (k + 1) A) (C : Addr) (us : List Value) (kw : List (Str × Value)) : Room k (A.under (.builtin "type.__call__" ⟨.ref C :: us, kw⟩)) :=
 ⟨r.hd, by have := r.dp; rw [make_depth]; omega, by have := r.un; rw [make_units]; omega⟩
theorem Room.depth {k : Nat} {A : Around} (r : Room k A) : A.depth < recursionLimit := by have := r.dp; omega
theorem Room.units {k : Nat} {A : Around} (r : Room k A) : A.units + 64 < cLine := by have := r.un; omega
def tNil : TA := fun _ H Q => Q [] H
def tCons (ta : TE) (tr : TA) : TA := fun σ H Q => ta σ H fun x H1 => tr σ H1 fun xs H2 => Q (x :: xs) H2
section
variable {X : Cx} {e : Expr} {es : List Expr} {te : TE} {t : TA} {pos : Pos}
theorem pa_nil : PA X [] tNil := fun _ _ _ _ H Q I h => Calls.spliced_nil ⟨[], H, I, .nil, h⟩
theorem pa_cons (ha : PE X e te) (hr : PA X es t) (hs : starEach (e :: es) X.env = (false, eval e X.env) :: starEach es X.env := by rfl) : PA X (e :: es) (tCons te t) := by
 intro pos pins s σ H Q I h
 rw [hs]
 show wpAny _ _ (spliced ((false, eval e X.env) :: backTo pos (starEach es X.env))) _ _ s
 refine Calls.spliced_cons (thn (ha pins s σ H _ I h) fun u s1 ⟨x, H1, I1, r1, q1⟩ => ?_)
 exact thn (hr pos pins s1 σ H1 _ I1 q1) fun us s2 ⟨xs, H2, I2, r2, q2⟩ => ⟨x :: xs, H2, I2, .cons r1 r2, q2⟩
def tTup (t : TA) : TE := fun σ H Q => t σ H fun xs H1 => xs.length <= sizeLine /\ ∀ p, H1 p = none -> Q (.ref p) (upd H1 p (.tup xs))
def tLst (t : TA) : TE := fun σ H Q => t σ H fun xs H1 => xs.length <= sizeLine /\ ∀ p, H1 p = none -> Q (.ref p) (upd H1 p (.lst xs))
theorem pe_tup {x1} (h : PA X es t) : PE X (.Tuple es x1 pos) (tTup t) := by
 intro pins s σ H Q I hq
 refine wpAny_Tuple_spliced (thn (h pos pins s σ H _ I hq) fun us s1 ⟨xs, H1, I1, r, z, q⟩ => ⟨by rw [<- r.length]; exact z, ?_⟩)
 have hf : H1 s1.heap.objs.size = none := I1.hok.fresh (Nat.le_refl _)
 refine ⟨.ref s1.heap.objs.size, upd H1 s1.heap.objs.size (.tup xs), I1.laid (t' := s1.toks) (fun b u e => Heap.get?_push_of_some _ e) (Nat.le_refl _) ?_, rfl, q _ hf⟩
 exact ⟨z, us, r, ⟨_, Heap.get?_push_size _ rfl, rfl, _, rfl⟩, _, Heap.get?_push_size _ rfl, rfl⟩
theorem pe_lst (h : PA X es t) : PE X (.List es pos) (tLst t) := by
 intro pins s σ H Q I hq
 refine wpAny_List_spliced (thn (h pos pins s σ H _ I hq) fun us s1 ⟨xs, H1, I1, r, z, q⟩ => ⟨by rw [<- r.length]; exact z, ?_⟩)
 have hf : H1 s1.heap.objs.size = none := I1.hok.fresh (Nat.le_refl _)
 refine ⟨.ref s1.heap.objs.size, upd H1 s1.heap.objs.size (.lst xs), I1.laid (t' := s1.toks) (fun b u e => Heap.get?_push_of_some _ e) (Nat.le_refl _) ?_, rfl, q _ hf⟩
 exact ⟨z, us, 0, r, Heap.get?_push_size _ rfl⟩
end
abbrev Sp := List V -> Hp -> VK -> XK -> Prop
abbrev CXT := List Env -> Hp -> Shared -> XK -> Value -> Shared -> Prop
structure Env0 (P : Program) (w : World) (K : PySem.W.Frag) (mg : Str -> Option Value) (base : Heap) (A : Around) (outer : List Env) (s : Shared) (H : Hp) : Prop where
 frames : A.frames = some outer
 mod : Mod K mg base
 bs : ∀ b o, base.get? b = some o -> s.heap.get? b = some o /\ H b = none
 bsz : base.objs.size <= s.heap.objs.size
 funs : s.heap.FunFrames base outer
 frf : ∀ b ∈ frs outer, H b = none
 hok : HOk P w H s.heap
 bare : AllBare s.gens
def CE (outer : List Env) (P : Program) (w : World) (H : Hp) (s : Shared) (Q : VK) (u : Value) (s' : Shared) : Prop :=
 ∃ v H', s'.os = s.os /\ AllBare s'.gens /\ Un (frs outer) [] H H' s.heap s'.heap /\ HOk P w H' s'.heap /\ RelV v u /\ Q v H'
def CR (CX : CXT) (outer : List Env) (P : Program) (w : World) (H : Hp) (s : Shared) (Q : VK) (E : XK) (r : Result) (s' : Shared) : Prop :=
 match r with
 | .ok (.ret u) => CE outer P w H s Q u s'
 | .ok _ => False
 | .error e => CX outer H s E e s'
structure FnOk (P : Program) (w : World) (K : PySem.W.Frag) (mg : Str -> Option Value) (base : Heap) (CX : CXT) (k : Nat) (f : Addr) (fd : FuncData) (ps : List Str) (sp : Sp) : Prop where
 len : ∀ vs H Q E, sp vs H Q E -> vs.length = ps.length
 run : ∀ (A : Around) (outer : List Env) (s : Shared) (H : Hp) (args : Args) (us : List Value) (vs : List V) (Q : VK) (E : XK), Room k A -> Env0 P w K mg base A outer s H -> BindsTo s fd args (ps.zip us) -> Vals vs us -> sp vs H Q E ->
  codeAny (model P w) A (.call (.ref f) args) (CR CX outer P w H s Q E) s
theorem Env0.make {P : Program} {w : World} {K : PySem.W.Frag} {mg : Str -> Option Value} {base : Heap} {A : Around} {outer : List Env} {s : Shared} {H : Hp} (e : Env0 P w K mg base A outer s H) (C : Addr) (us : List Value) (kw : List (Str × Value)) :
  Env0 P w K mg base (A.under (.builtin "type.__call__" ⟨.ref C :: us, kw⟩)) outer s H := ⟨by first | exact e.frames | (simpa [Around.under, Code.envs, Code.isFrame, pushEnvs] using e.frames), e.mod, e.bs, e.bsz, e.funs, e.frf, e.hok, e.bare⟩
section
variable {X : Cx} {pins : List (Addr × Obj)} {σ : St} {H : Hp} {s s' : Shared}
theorem Inv.env0 (I : Inv X pins σ H s) : Env0 X.prog X.w X.K X.mg X.base X.A X.stack s H :=
 ⟨I.ok.frames, I.ok.mod, I.bs, Nat.le_trans I.ok.bsz I.sz, I.stack, I.stkFree, I.hok, I.bare⟩
theorem Inv.after {Q : VK} {u : Value} (I : Inv X pins σ H s) (h : CE X.stack X.prog X.w H s Q u s') : EP X pins σ Q u s' := by
 obtain ⟨v, H', os, bare, un, hok, r, q⟩ := h
 obtain ⟨hh, g, d, t, os'⟩ := s'
 obtain rfl : os' = s.os := os
 exact ⟨v, H', I.call (h' := hh) (g' := g) (d' := d) (t' := t) (ch := []) un hok bare (fun b z => absurd z (by simp)), r, q⟩
end
def tCall (sp : Sp) (dvs : List V) (E : XK) (t : TA) : TE := fun σ H Q => t σ H fun vs H1 => sp (vs ++ dvs) H1 Q E
def tMeth (C : Addr) (m : Str) (sp : Sp) (dvs : List V) (E : XK) (ta : TE) (t : TA) : TE := fun σ H Q => ta σ H fun x H1 => ∃ a dx fs, x = .ref a /\ H1 a = some (.ins C dx fs) /\ fs.lookup m = none /\
 t σ H1 fun vs H2 => sp (x :: (vs ++ dvs)) H2 Q E
def tMake (C : Addr) (sp : Sp) (dvs : List V) (E : XK) (t : TA) : TE := fun σ H Q => t σ H fun vs H1 => ∀ x dx, H1 x = none -> H1 dx = none -> dx ≠ x ->
 sp (.ref x :: (vs ++ dvs)) (upd (upd H1 dx (.own x)) x (.ins C dx [])) (fun v H2 => v = .non /\ Q (.ref x) H2) E
def Binds (K : PySem.W.Frag) (fd : FuncData) (ps : List Str) (ds : List Value) : Prop :=
 ∀ (s : Shared) (us : List Value), K.In s.heap -> (us ++ ds).length = ps.length -> BindsTo s fd ⟨us, []⟩ (ps.zip (us ++ ds))
theorem Binds.all {K : PySem.W.Frag} {fd : FuncData} {ps : List Str} (h : ∀ us : List Value, us.length = ps.length -> bindArgs fd ⟨us, []⟩ = pure (ps.zip us)) : Binds K fd ps [] := fun s us _ hl => by
 rw [List.append_nil] at hl ⊢
 exact .of_eq (h us hl)
def Passes (CX : CXT) (X : Cx) (E : XK) : Prop := ∀ (pins : List (Addr × Obj)) (σ : St) (H : Hp) (s : Shared) (e : Value) (s' : Shared), Inv X pins σ H s -> CX X.stack H s E e s' -> X.xe e s'
section
variable {X : Cx} {CX : CXT} {k : Nat} {f C : Addr} {fd : FuncData} {ps : List Str} {sp : Sp} {dvs : List V} {ds : List Value} {E : XK} {x m : Str} {p pos apos : Pos} {e o : Expr} {es : List Expr} {ta : TE} {t : TA}
theorem run_fn {pins : List (Addr × Obj)} {σ : St} {H : Hp} {s : Shared} {Q : VK} {us : List Value} {vs : List V} (F : FnOk X.prog X.w X.K X.mg X.base CX k f fd ps sp) (hr : Room k X.A) (hb : Binds X.K fd ps ds) (hd : Vals dvs ds) (hx : Passes CX X E)
  (I : Inv X pins σ H s) (r : Vals vs us) (h : sp (vs ++ dvs) H Q E) : wpAny (model X.prog X.w) X.A (call (.ref f) us) (EP X pins σ Q) X.xe s := by
 have r2 : Vals (vs ++ dvs) (us ++ ds) := r.append hd
 have hl : (us ++ ds).length = ps.length := by rw [<- r2.length]; exact F.len _ _ _ _ h
 refine wpAny_call (codeAny_mono (F.run X.A X.stack s H ⟨us, []⟩ (us ++ ds) (vs ++ dvs) Q E hr I.env0 (hb s us I.kIn hl) r2 h) fun r s' hq => ?_)
 cases r with
 | error e => exact hx pins σ H s e s' I hq
 | ok fl =>
  cases fl with
  | ret u => exact I.after hq
  | next => exact False.elim hq
  | brk => exact False.elim hq
  | cont => exact False.elim hq
theorem pe_call (F : FnOk X.prog X.w X.K X.mg X.base CX k f fd ps sp) (hr : Room k X.A) (hg : Gl X x) (hm : X.mg x = some (.ref f)) (hk : PySem.W.keepIn X.K (.ref f) = true) (hb : Binds X.K fd ps ds) (hd : Vals dvs ds) (hx : Passes CX X E)
  (ha : PA X (e :: es) t) (hdb : (x == ("__debug__" : Str)) = false := by decide) (he : starEach (e :: es) X.env = (false, eval e X.env) :: starEach es X.env := by rfl) (hpl : (backTo pos (starEach es X.env)).any (·.1) = false := by rfl) :
  PE X (.Call (.Name x p) (e :: es) [] pos) (tCall sp dvs E t) := by
 intro pins s σ H Q I h
 refine wpAny_Call_Name_kw (ld_glob I hg hm ?_ hdb)
 refine PySem.W.callWith_K (h₀ := X.base) I.ok.mod.kin hk (thn (ha pos pins s σ H _ I h) fun us s1 ⟨vs, H1, I1, r, q⟩ => ⟨I1.kIn, ?_⟩) he hpl
 exact run_fn F hr hb hd hx I1 r q
theorem pe_meth {pl : Sem Bool} (he : PE X o ta) (c : Cls X.K C) (hm : Meth X.K C m f) (F : FnOk X.prog X.w X.K X.mg X.base CX k f fd ps sp) (hr : Room k X.A) (hb : Binds X.K fd ps ds) (hd : Vals dvs ds) (hx : Passes CX X E) (ha : PA X (e :: es) t)
  (hst : starEach (e :: es) X.env = (false, eval e X.env) :: starEach es X.env := by rfl) (hpl : (backTo pos (starEach es X.env)).any (·.1) = false := by rfl)
  (ht : eval (.Call (.Attribute o m apos) (e :: es) [] pos) X.env = (do
   let ov <- eval o X.env
   standAt apos.atName
   let (f, first) <- holding [ov] (getMethod ov m pl)
   callWith pos f first (backTo pos (starEach (e :: es) X.env)) (backToKw pos (keywordEach [] X.env))) := by rfl) :
  PE X (.Call (.Attribute o m apos) (e :: es) [] pos) (tMeth C m sp dvs E ta t) := by
 intro pins s σ H Q I h
 refine PySem.W.methodCall_KW (pl := pl) (thn (he pins s σ H _ I h) fun u s1 ⟨x, H1, I1, rx, a, dx, fs, ex, ea, l, q⟩ => ?_) ht
 subst ex
 obtain rfl : u = Value.ref a := rx
 refine getmeth_ok I1 ea c hm l ?_
 refine PySem.W.callWith_K (first := [.ref a]) (h₀ := X.base) I.ok.mod.kin hm.kp (thn (ha pos pins s1 σ H1 _ I1 q) fun us s2 ⟨vs, H2, I2, r, q2⟩ => ⟨I2.kIn, ?_⟩) hst hpl
 exact run_fn (us := .ref a :: us) (vs := .ref a :: vs) F hr hb hd hx I2 (.cons rfl r) q2
theorem pe_meth0 {pl : Sem Bool} (he : PE X o ta) (c : Cls X.K C) (hm : Meth X.K C m f) (F : FnOk X.prog X.w X.K X.mg X.base CX k f fd ps sp) (hr : Room k X.A) (hb : Binds X.K fd ps ds) (hd : Vals dvs ds) (hx : Passes CX X E)
  (ht : eval (.Call (.Attribute o m apos) [] [] pos) X.env = (do
   let ov <- eval o X.env
   standAt apos.atName
   let (f, first) <- holding [ov] (getMethod ov m pl)
   callWith pos f first (backTo pos (starEach [] X.env)) (backToKw pos (keywordEach [] X.env))) := by rfl) :
  PE X (.Call (.Attribute o m apos) [] [] pos) (tMeth C m sp dvs E ta tNil) := by
 intro pins s σ H Q I h
 refine PySem.W.methodCall_KW (pl := pl) (thn (he pins s σ H _ I h) fun u s1 ⟨x, H1, I1, rx, a, dx, fs, ex, ea, l, q⟩ => ?_) ht
 subst ex
 obtain rfl : u = Value.ref a := rx
 refine getmeth_ok I1 ea c hm l ?_
 exact PySem.W.callWith_K0 (first := [.ref a]) I1.kIn hm.kp (run_fn (us := [.ref a]) (vs := [.ref a]) F hr hb hd hx I1 (.cons rfl .nil) q)
structure Mk (K : PySem.W.Frag) (C f : Addr) : Prop where
 makes : PySem.W.makesIn K C = true
 init : PySem.W.findIn K (.ref C) "__init__" = some (some (.ref f))
 fn : PySem.W.isFn K (.ref f) = true
 kp : PySem.W.keepIn K (.ref C) = true
theorem run_make {pins : List (Addr × Obj)} {σ : St} {H : Hp} {s : Shared} {Q : VK} {us : List Value} {vs : List V} (M : Mk X.K C f) (F : FnOk X.prog X.w X.K X.mg X.base CX k f fd ps sp) (hr : Room (k + 1) X.A) (hb : Binds X.K fd ps ds) (hd : Vals dvs ds)
  (hx : Passes CX X E) (I : Inv X pins σ H s) (r : Vals vs us)
  (h : ∀ x dx, H x = none -> H dx = none -> dx ≠ x -> sp (.ref x :: (vs ++ dvs)) (upd (upd H dx (.own x)) x (.ins C dx [])) (fun v H2 => v = .non /\ Q (.ref x) H2) E) :
  wpAny (model X.prog X.w) X.A (call (.ref C) us) (EP X pins σ Q) X.xe s := by
 have hq := h (s.heap.objs.size + 1) s.heap.objs.size (I.hok.fresh (Nat.le_succ _)) (I.hok.fresh (Nat.le_refl _)) (Nat.ne_of_lt (Nat.lt_succ_self _))
 have I2 := Inv.made (C := C) I
 have r2 : Vals (V.ref (s.heap.objs.size + 1) :: (vs ++ dvs)) (Value.ref (s.heap.objs.size + 1) :: (us ++ ds)) := .cons rfl (r.append hd)
 have hl : (Value.ref (s.heap.objs.size + 1) :: us ++ ds).length = ps.length := by
  have e := r2.length
  rw [F.len _ _ _ _ hq] at e
  exact e.symm
 refine wpAny_call (make_map (f := f) I.kIn M.makes M.init (beq_iff_eq.mp M.fn) (codeAny_mono (F.run _ X.stack _ _ ⟨Value.ref (s.heap.objs.size + 1) :: us, []⟩ (Value.ref (s.heap.objs.size + 1) :: (us ++ ds)) _ _ E (hr.make C us [])
  (I2.env0.make C us []) (hb _ (Value.ref (s.heap.objs.size + 1) :: us) I2.kIn hl) r2 hq) fun r s' hq' => ?_))
 cases r with
 | error e => exact hx pins σ _ _ e s' I2 hq'
 | ok fl =>
  cases fl with
  | ret u =>
   obtain ⟨v, H', I3, rv, ev, q3⟩ := I2.after hq'
   subst ev
   exact ⟨rv, ⟨V.ref (s.heap.objs.size + 1), H', I3, rfl, q3⟩⟩
  | next => exact False.elim hq'
  | brk => exact False.elim hq'
  | cont => exact False.elim hq'
theorem pe_make (M : Mk X.K C f) (F : FnOk X.prog X.w X.K X.mg X.base CX k f fd ps sp) (hr : Room (k + 1) X.A) (hg : Gl X x) (hm : X.mg x = some (.ref C)) (hb : Binds X.K fd ps ds) (hd : Vals dvs ds) (hx : Passes CX X E)
  (ha : PA X (e :: es) t) (hdb : (x == ("__debug__" : Str)) = false := by decide) (he : starEach (e :: es) X.env = (false, eval e X.env) :: starEach es X.env := by rfl) (hpl : (backTo pos (starEach es X.env)).any (·.1) = false := by rfl) :
  PE X (.Call (.Name x p) (e :: es) [] pos) (tMake C sp dvs E t) := by
 intro pins s σ H Q I h
 refine wpAny_Call_Name_kw (ld_glob I hg hm ?_ hdb)
 refine PySem.W.callWith_K (h₀ := X.base) I.ok.mod.kin M.kp (thn (ha pos pins s σ H _ I h) fun us s1 ⟨vs, H1, I1, r, q⟩ => ⟨I1.kIn, ?_⟩) he hpl
 exact run_make M F hr hb hd hx I1 r q
end
def PK (X : Cx) (kws : List Keyword) (t : TA) : Prop :=
 ∀ (pos : Pos) (pins : List (Addr × Obj)) (s : Shared) (σ : St) (H : Hp) (Q : List V -> Hp -> Prop), Inv X pins σ H s -> t σ H Q -> wpAny (model X.prog X.w) X.A (evalAll ((backToKw pos (keywordEach kws X.env)).map (·.2))) (AP X pins σ Q) X.xe s
section
variable {X : Cx} {CX : CXT} {k : Nat} {f C : Addr} {fd : FuncData} {ps ks : List Str} {sp : Sp} {E : XK} {x m : Str} {p pos apos kpos : Pos} {e o : Expr} {es : List Expr} {kws : List Keyword} {te ta : TE} {t tk : TA} {nm : Option Str}
structure KBinds (K : PySem.W.Frag) (fd : FuncData) (ps ks : List Str) (g : List Value -> List Value -> List Value) (gV : List V -> List V -> List V) : Prop where
 to : ∀ (s : Shared) (us ws : List Value), K.In s.heap -> (g us ws).length = ps.length -> BindsTo s fd ⟨us, ks.zip ws⟩ (ps.zip (g us ws))
 rel : ∀ {vs : List V} {us : List Value} {zs : List V} {ws : List Value}, Vals vs us -> Vals zs ws -> Vals (gV vs zs) (g us ws)
def tCallK (sp : Sp) (gV : List V -> List V -> List V) (E : XK) (t tk : TA) : TE := fun σ H Q => t σ H fun vs H1 => tk σ H1 fun zs H2 => sp (gV vs zs) H2 Q E
variable {g : List Value -> List Value -> List Value} {gV : List V -> List V -> List V}
end
structure FnScope (N P : List Str) (sc : Scope) : Prop where
 kind : sc.kind = .function
 co : sc.isCoroutine = false
 gen : sc.isGenerator = false
 nd : N.Nodup
 pre : N.take P.length = P
 par : ∀ x ∈ P, sc.names.lookup x = some .local ∨ sc.names.lookup x = some .cell
 nofree : ∀ y ∈ sc.names, y.2 ≠ .free
theorem bindL_out {kindOf : Str -> Option NameKind} {x : Str} : ∀ {binds : List (Str × Value)} {m : Str -> Option Value}, (∀ v, (x, v) ∉ binds) -> bindL kindOf binds m x = m x
 | [], _, _ => rfl
 | (n, v) :: r, m, h => by
  unfold bindL
  rw [bindL_out fun w hw => h w (List.mem_cons_of_mem _ hw)]
  split
  ·have : x ≠ n := by rintro rfl; exact h v List.mem_cons_self
   simp [this]
  ·rfl
theorem bindC_out {kindOf : Str -> Option NameKind} {x : Str} : ∀ {binds : List (Str × Value)} {m : Str -> Option Value}, (∀ v, (x, v) ∉ binds) -> bindC kindOf binds m x = m x
 | [], _, _ => rfl
 | (n, v) :: r, m, h => by
  unfold bindC
  rw [bindC_out fun w hw => h w (List.mem_cons_of_mem _ hw)]
  split
  ·rfl
  ·have : x ≠ n := by rintro rfl; exact h v List.mem_cons_self
   simp [this]
theorem bindL_get {kindOf : Str -> Option NameKind} {x : Str} {v : Value} : ∀ {P : List Str} {vs : List Value} {i : Nat} {m : Str -> Option Value}, P.Nodup -> P[i]? = some x -> vs[i]? = some v -> kindOf x = some .local ->
  bindL kindOf (P.zip vs) m x = some v
 | [], _, _, _, _, h, _, _ => by simp at h
 | _ :: _, [], _, _, _, _, h, _ => by simp at h
 | p :: P, w :: vs, 0, m, nd, h1, h2, hk => by
  simp at h1 h2; subst h1; subst h2
  show bindL kindOf ((p, w) :: P.zip vs) m p = _
  unfold bindL
  rw [bindL_out fun v hv => (List.nodup_cons.mp nd).1 (List.of_mem_zip hv).1, if_pos hk]
  simp
 | p :: P, w :: vs, i + 1, m, nd, h1, h2, hk => by
  show bindL kindOf ((p, w) :: P.zip vs) m x = _
  unfold bindL
  exact bindL_get (i := i) (List.nodup_cons.mp nd).2 (by simpa using h1) (by simpa using h2) hk
theorem bindC_get {kindOf : Str -> Option NameKind} {x : Str} {v : Value} : ∀ {P : List Str} {vs : List Value} {i : Nat} {m : Str -> Option Value}, P.Nodup -> P[i]? = some x -> vs[i]? = some v -> kindOf x ≠ some .local ->
  bindC kindOf (P.zip vs) m x = some v
 | [], _, _, _, _, h, _, _ => by simp at h
 | _ :: _, [], _, _, _, _, h, _ => by simp at h
 | p :: P, w :: vs, 0, m, nd, h1, h2, hk => by
  simp at h1 h2; subst h1; subst h2
  show bindC kindOf ((p, w) :: P.zip vs) m p = _
  unfold bindC
  rw [bindC_out fun v hv => (List.nodup_cons.mp nd).1 (List.of_mem_zip hv).1, if_neg hk]
  simp
 | p :: P, w :: vs, i + 1, m, nd, h1, h2, hk => by
  show bindC kindOf ((p, w) :: P.zip vs) m x = _
  unfold bindC
  exact bindC_get (i := i) (List.nodup_cons.mp nd).2 (by simpa using h1) (by simpa using h2) hk
def start (N : List Str) (vs : List V) : St := vs.map some ++ List.replicate (N.length - vs.length) none
def cxOf (CX : CXT) (P : Program) (w : World) (K : PySem.W.Frag) (mg : Str -> Option Value) (base : Heap) (N : List Str) (qual : Str) (scope : Scope) (f : Addr) (cd : Value) (A : Around) (outer : List Env) (s : Shared) (H : Hp) (E : XK) : Cx where
 prog := P
 w := w
 K := K
 mg := mg
 base := base
 A := A.deeper (envOfC qual scope s.heap.objs.size f cd)
 N := N
 s₀ := s
 H₀ := H
 env := envOfC qual scope s.heap.objs.size f cd
 outer := outer
 stack := envOfC qual scope s.heap.objs.size f cd :: outer
 ex := []
 calm := true
 fn := fun _ => true
 pn := []
 xe := fun e s' => wpAny (model P w) (A.deeper (envOfC qual scope s.heap.objs.size f cd)) (leaving (envOfC qual scope s.heap.objs.size f cd) e) (fun _ s'' => CX outer H s E e s'') (fun e' s'' => CX outer H s E e' s'') s'
theorem cell_has {sc : Scope} {n : Nat} {x : Str} (h : sc.names.lookup x = some .cell) : ∃ c, (cellsFrom n sc.names []).lookup x = some c := by
 have q := PySem.W.cellsFrom_some sc.names n [] (.inl h)
 exact Option.isSome_iff_exists.mp q
theorem inv_start {CX : CXT} {P : Program} {w : World} {K : PySem.W.Frag} {mg : Str -> Option Value} {base : Heap} {N ps : List Str} {qual : Str} {scope : Scope} {f : Addr} {cd : Value} {A : Around} {outer : List Env} {s s1 : Shared} {H : Hp} {E : XK} {us : List Value} {vs : List V}
  (S : FnScope N ps scope) (hd : A.handled = none) (e0 : Env0 P w K mg base A outer s H) (hl : vs.length = ps.length) (r : Vals vs us)
  (x : InCallC s s.heap.objs.size (bindL (envOfC qual scope s.heap.objs.size f cd).kindOf (ps.zip us) fun _ => none) (cellsFrom (s.heap.objs.size + 1) scope.names []) (bindC (envOfC qual scope s.heap.objs.size f cd).kindOf (ps.zip us) fun _ => none) s1) :
  Inv (cxOf CX P w K mg base N qual scope f cd A outer s H E) [] (start N vs) H s1 := by
 have hpl : ps.length <= N.length := by have := congrArg List.length S.pre; rw [List.length_take] at this; omega
 obtain ⟨h1, tk, rfl, hk⟩ := x.done
 have noA : ∀ b : Addr, b ∉ (cxOf CX P w K mg base N qual scope f cd A outer s H E).ex := fun b z => absurd (show b ∈ ([] : List Addr) from z) (by simp)
 refine ⟨⟨e0.mod, S.kind, rfl, rfl, Nat.le_refl _, fun y z c h1 h2 => ?_, fun y hy => ?_, fun y c _ h => ?_, fun _ => hd, Around.frames_deeper e0.frames, .inr ⟨rfl, rfl⟩, fun b z => absurd z (noA b), e0.bs, e0.bsz, fun b _ _ => noA b, fun b z => absurd z (noA b), e0.funs, e0.frf⟩,
  rfl, e0.bare, Un.kept hk, ⟨_, x.toInCall.ns, fun i y v h1 h2 h3 => ?_⟩, fun y c h => ⟨_, x.cell y c h⟩, e0.hok.fresh (Nat.le_refl _), fun y c h => ?_, fun p hp => absurd (show p ∈ ([] : List (Addr × Obj)) from hp) (by simp), e0.hok.kept hk, ?_⟩
 ·exact name_of_addr x.apart (PySem.mem_of_lookup h1) (PySem.mem_of_lookup h2)
 ·have hy : scope.names.lookup y = some .cell ∨ scope.names.lookup y = some .free := hy
  rcases hy with hy | hy
  ·exact cell_has hy
  ·exact absurd rfl (S.nofree _ (PySem.mem_of_lookup hy))
 ·exact Nat.le_of_lt (x.above y c (PySem.mem_of_lookup h))
 ·have hi : i < vs.length := by
   unfold start at h2
   by_cases hi : i < vs.length
   ·exact hi
   ·rw [List.getElem?_append_right (by simpa using hi)] at h2
    rw [List.getElem?_replicate] at h2
    split at h2 <;> cases h2
  have ha : vs[i]? = some v := by
   unfold start at h2
   rw [List.getElem?_append_left (by simpa using hi), List.getElem?_map] at h2
   cases e : vs[i]? with
   | none => rw [e] at h2; cases h2
   | some a => rw [e] at h2; cases h2; rfl
  obtain ⟨u, hu, rv⟩ := r.get ha
  have hp : ps[i]? = some y := by
   rw [<- S.pre, List.getElem?_take_of_lt (by omega)]; exact h1
  have ndP : ps.Nodup := by rw [<- S.pre]; exact S.nd.sublist (List.take_sublist _ _)
  refine ⟨u, rv, ?_⟩
  rcases S.par y (List.mem_of_getElem? hp) with k | k
  ·exact .inl ⟨k, bindL_get ndP hp hu k⟩
  ·obtain ⟨c, e⟩ := cell_has (n := s.heap.objs.size + 1) k
   refine .inr ⟨.inl k, c, e, ?_⟩
   have q := x.cell y c e
   rw [bindC_get ndP hp hu (by show scope.names.lookup y ≠ _; rw [k]; decide)] at q
   exact q
 ·exact e0.hok.fresh (Nat.le_of_lt (x.above y c (PySem.mem_of_lookup h)))
 ·unfold start
  show _ = N.length
  rw [List.length_append, List.length_map, List.length_replicate]
  omega
theorem fn_of {CX : CXT} {P : Program} {w : World} {K : PySem.W.Frag} {mg : Str -> Option Value} {base : Heap} {k : Nat} {f : Addr} {name qual : Str} {params : Arguments} {body : List Stmt} {scope : Scope} {dV kV doc pm cdv ct oc : Value} {an od : Option Addr}
  {osl : Array (Option Value)} {N ps : List Str} {sp : Sp} (lk : K.lookup f = some ⟨oc, od, .func (PySem.W.fnOf name qual params body scope dV kV doc pm an cdv ct), osl⟩) (hcd : PySem.W.codeIn K cdv qual = true) (S : FnScope N ps scope)
  (len : ∀ vs H Q E, sp vs H Q E -> vs.length = ps.length)
  (hbody : ∀ (A : Around) (outer : List Env) (s : Shared) (H : Hp) (vs : List V) (Q : VK) (E : XK), Room k (A.deeper (envOfC qual scope s.heap.objs.size f cdv)) -> sp vs H Q E ->
   ∃ t, PSs (cxOf CX P w K mg base N qual scope f cdv A outer s H E) body t /\ t { nx := fun _ H' => Q .non H', rt := Q } (start N vs) H) :
  FnOk P w K mg base CX (k + 1) f (PySem.W.fnOf name qual params body scope dV kV doc pm an cdv ct) ps sp := by
 refine ⟨len, fun A outer s H args us vs Q E hr e0 hb r hsp => ?_⟩
 have hl := len _ _ _ _ hsp
 have KX : K.In s.heap := e0.mod.kin.keeps fun b o e => (e0.bs b o e).1
 have lim : s.heap.NoLimit := e0.mod.nolimit.keeps fun b o e => (e0.bs b o e).1
 have hkind : ∀ y ∈ ps.zip us, scope.names.lookup y.1 = some .local ∨ (scope.names.lookup y.1 = some .cell /\ ((cellsFrom (s.heap.objs.size + 1) scope.names []).lookup y.1).isSome = true) := fun ⟨n, v⟩ hy => by
  rcases S.par n (List.of_mem_zip hy).1 with q | q
  ·exact .inl q
  ·exact .inr ⟨q, PySem.W.cellsFrom_some _ _ _ (.inl q)⟩
 refine codeAny_call_function hr.depth (KX _ _ lk) rfl S.co S.gen rfl (PySem.W.codeRec_of KX hcd) (hb _ _ _ _ ?_)
 refine wpAny_newFunctionEnv_cells S.kind hkind fun env he s1 x => ?_
 subst he
 refine ⟨lim.keeps x.toInCall.keep, codeAny_func ?_⟩
 obtain ⟨t, ht, hq⟩ := hbody A outer s H vs Q E (hr.deeper _) hsp
 have I : Inv (cxOf CX P w K mg base N qual scope f cdv A outer s H E) [] (start N vs) H s1 := inv_start S hr.hd e0 hl r x
 refine wpAny_mono (ht [] s1 (start N vs) H _ I hq) (fun fl s' hs => ?_) fun e s' hs => hs
 have fin : ∀ {σ' : St} {H' : Hp} {v : V} {u : Value}, Inv (cxOf CX P w K mg base N qual scope f cdv A outer s H E) [] σ' H' s' -> RelV v u -> Q v H' -> CE outer P w H s Q u s' :=
  fun {σ' H' v u} J rv q => ⟨v, H', J.os, J.bare, J.base, J.hok, rv, q⟩
 cases fl with
 | ret u =>
  obtain ⟨v, σ', H', J, rv, q⟩ := hs
  exact fin J rv q
 | next =>
  obtain ⟨σ', H', J, q⟩ := hs
  exact fin (v := V.non) (u := Value.none) J rfl q
 | brk =>
  obtain ⟨_, _, _, q⟩ := hs
  exact False.elim q
 | cont =>
  obtain ⟨_, _, _, q⟩ := hs
  exact False.elim q
end L2
namespace L2
open PySem PySem.Spec PyProof.Rows
section
variable {X : Cx} {x : Str} {p pos : Pos} {e : Expr} {es : List Expr} {t : TA} {id T : String} {r : List V -> Hp -> VK -> Prop}
def tCB (r : List V -> Hp -> VK -> Prop) (t : TA) : TE := fun σ H Q => t σ H fun vs H1 => r vs H1 Q
theorem pe_callB (hc : CallR X (.builtin id) r) (hg : Gl X x) (hm : X.mg x = none) (hv : bootBuiltins x = some (.builtin id)) (ha : PA X (e :: es) t) (hn : x ≠ "__name__" := by decide) (hdb : (x == ("__debug__" : Str)) = false := by decide)
  (he : starEach (e :: es) X.env = (false, eval e X.env) :: starEach es X.env := by rfl) (hpl : (backTo pos (starEach es X.env)).any (·.1) = false := by rfl) : PE X (.Call (.Name x p) (e :: es) [] pos) (tCB r t) := by
 intro pins s σ H Q I h
 refine wpAny_Call_Name_kw (ld_blt I hg hm hv ?_ hn hdb)
 exact PyProof.Rows.callWith_builtin1 (thn (ha pos pins s σ H _ I h) fun us s1 ⟨vs, H1, I1, r1, q1⟩ => hc pins s1 σ H1 vs us Q I1 r1 q1) he hpl
theorem pe_callTy (hc : CallR X (.type T) r) (hg : Gl X x) (hm : X.mg x = none) (hv : bootBuiltins x = some (.type T)) (ha : PA X (e :: es) t) (hn : x ≠ "__name__" := by decide) (hdb : (x == ("__debug__" : Str)) = false := by decide)
  (he : starEach (e :: es) X.env = (false, eval e X.env) :: starEach es X.env := by rfl) (hpl : (backTo pos (starEach es X.env)).any (·.1) = false := by rfl) : PE X (.Call (.Name x p) (e :: es) [] pos) (tCB r t) := by
 intro pins s σ H Q I h
 refine wpAny_Call_Name_kw (ld_blt I hg hm hv ?_ hn hdb)
 exact PyProof.Rows.callWith_type1 (thn (ha pos pins s σ H _ I h) fun us s1 ⟨vs, H1, I1, r1, q1⟩ => hc pins s1 σ H1 vs us Q I1 r1 q1) he hpl
end
end L2
namespace HT
open PySem PyProof.Rows
def lexLt : List Int -> List Int -> Bool
 | [], [] => false
 | [], _ :: _ => true
 | _ :: _, [] => false
 | x :: xs, y :: ys => if x = y then lexLt xs ys else decide (x < y)
section
open PySem.SeqAt
open PySem.AutoSeq1 (wpAny_loadPart')
open PySem.MeetsSeq PySem.MeetsSeq2 PySem.MeetsSeq3
end
section
variable {prog : Program} {w : World} {A : Around} {E : Value -> Shared -> Prop} {s : Shared}
def sIx (n d : Nat) : Option Int -> Nat
 | none => d
 | some v => if v < 0 then (v + (n : Int)).toNat else min v.toNat n
theorem sIx_none (n d : Nat) : sIx n d none = d := rfl
theorem sIx_nat (n d k : Nat) : sIx n d (some (k : Int)) = min k n := by
 show (if (k : Int) < 0 then ((k : Int) + (n : Int)).toNat else min (k : Int).toNat n) = min k n
 rw [if_neg (by omega), Int.toNat_natCast]
end
end HT
namespace L2
open PySem PySem.Spec PyProof.Rows
abbrev TO := St -> Hp -> (Option Int -> Hp -> Prop) -> Prop
def PO (X : Cx) (e : Option Expr) (t : TO) : Prop :=
 ∀ (pins : List (Addr × Obj)) (s : Shared) (σ : St) (H : Hp) (Q : Option Int -> Hp -> Prop), Inv X pins σ H s -> t σ H Q ->
  wpAny (model X.prog X.w) X.A (evalPart e X.env) (fun u s' => ∃ o H', Inv X pins σ H' s' /\ IsPart u o /\ Q o H') X.xe s
def tNoPart : TO := fun _ H Q => Q none H
def tPart (t : TE) : TO := fun σ H Q => t σ H fun x H1 => ∃ i, x = .int i /\ Q (some i) H1
section
variable {X : Cx} {e : Expr} {te : TE} {lo hi : Option Expr} {tl th : TO} {pos p2 : Pos}
theorem po_none : PO X none tNoPart := by
 intro pins s σ H Q I h
 rw [evalPart_none]
 exact wpAny_pure ⟨none, H, I, .none, h⟩
theorem po_some (h : PE X e te) : PO X (some e) (tPart te) := by
 intro pins s σ H Q I hw
 rw [evalPart_some]
 refine thn (h pins s σ H _ I hw) fun u s1 ⟨x, H1, I1, r1, q1⟩ => ?_
 obtain ⟨i, rfl, q⟩ := q1
 obtain ⟨t, rfl⟩ := r1
 exact ⟨some i, H1, I1, .int i t, q⟩
def SlR (X : Cx) (r : V -> Option Int -> Option Int -> Hp -> VK -> Prop) : Prop :=
 ∀ (pins : List (Addr × Obj)) (s : Shared) (σ : St) (H : Hp) (x : V) (v vl vu : Value) (lo hi : Option Int) (sl : Addr) (Q : VK), Inv X pins σ H s -> RelV x v -> s.heap.IsSliceOf sl vl vu .none -> IsPart vl lo -> IsPart vu hi -> r x lo hi H Q ->
  ∃ T id, typeLookup (.type T) "__getitem__" = pure (some (.builtin id)) /\ s.TypeIs v T /\ wpAny (model X.prog X.w) X.A (getItem v (.ref sl)) (EP X pins σ Q) X.xe s
def tSl (r : V -> Option Int -> Option Int -> Hp -> VK -> Prop) (te : TE) (tl th : TO) : TE := fun σ H Q => te σ H fun x H1 => tl σ H1 fun l H2 => th σ H2 fun u H3 => r x l u H3 Q
theorem pe_slice {r : V -> Option Int -> Option Int -> Hp -> VK -> Prop} (hr : SlR X r) (he : PE X e te) (hl : PO X lo tl) (hu : PO X hi th) : PE X (.Subscript e (.Slice lo hi none p2) pos) (tSl r te tl th) := by
 intro pins s σ H Q I h
 refine Subscript_ (thn (he pins s σ H _ I h) fun v s1 ⟨x, H1, I1, r1, q1⟩ => ?_)
 refine wpAny_Slice (thn (hl pins s1 σ H1 _ I1 q1) fun vl s2 ⟨l, H2, I2, pl, q2⟩ => thn (hu pins s2 σ H2 _ I2 q2) fun vu s3 ⟨u, H3, I3, pu, q3⟩ => ?_)
 rw [evalPart_none]
 refine wpAny_pure ?_
 have I4 : Inv X pins σ H3 { s3 with heap := s3.heap.push { cls := .type "slice", data := .fields #[vl, vu, .none] } } := I3.kept (t' := s3.toks) fun b ob q => Heap.get?_push_of_some _ q
 obtain ⟨T, id, hT, ht, hg⟩ := hr pins { s3 with heap := s3.heap.push { cls := .type "slice", data := .fields #[vl, vu, .none] } } σ H3 x v vl vu l u s3.heap.objs.size Q I4 r1 (Heap.IsSliceOf.new ..) pl pu q3
 show wpAny (model X.prog X.w) X.A (subscriptTail e (.Slice lo hi none p2) v (.ref s3.heap.objs.size)) (EP X pins σ Q) X.xe { s3 with heap := s3.heap.push { cls := .type "slice", data := .fields #[vl, vu, .none] } }
 exact tail_any (ops := [.ref s3.heap.objs.size, v]) ht hT hg (by with_unfolding_all rfl)
def cutV (xs : List V) (lo hi : Option Int) : List V := (xs.drop (HT.sIx xs.length 0 lo)).take (HT.sIx xs.length xs.length hi - HT.sIx xs.length 0 lo)
theorem cutV_length (xs : List V) (lo hi : Option Int) : (cutV xs lo hi).length <= xs.length := by
 unfold cutV
 rw [List.length_take, List.length_drop]
 omega
def rSlT (K : PySem.W.Frag) : V -> Option Int -> Option Int -> Hp -> VK -> Prop := fun x lo hi H Q => ∃ a xs, x = .ref a /\ SqT K H a xs /\
 ¬ (HT.sIx xs.length 0 lo = 0 /\ HT.sIx xs.length xs.length hi = xs.length) /\ ∀ p, H p = none -> Q (.ref p) (upd H p (.tup (cutV xs lo hi)))
def rLtT (K : PySem.W.Frag) : R2 := fun x y H Q => ∃ a b ns ms, x = .ref a /\ y = .ref b /\ SqT K H a (ns.map V.int) /\ SqT K H b (ms.map V.int) /\ Q (.bl (HT.lexLt ns ms)) H
def rCatT (K : PySem.W.Frag) : R2 := fun x y H Q => ∃ a b xs ys, x = .ref a /\ y = .ref b /\ SqT K H a xs /\ SqT K H b ys /\ xs ≠ [] /\ xs.length + ys.length <= sizeLine /\
 (ys = [] -> Q (.ref a) H) /\ (ys ≠ [] -> ∀ p, H p = none -> Q (.ref p) (upd H p (.tup (xs ++ ys))))
end
end L2
namespace L2
open PySem PySem.Spec PyProof.Rows
def ixN (n : Nat) (i : Int) : Option Nat := if 0 <= i then (if i < n then some i.toNat else none) else if -(n : Int) <= i then some (i + n).toNat else none
def atI {α : Type} (xs : List α) (i : Int) : Option α := (ixN xs.length i).bind fun j => xs[j]?
theorem ixN_seq {n : Nat} {i : Int} {j : Nat} (h : ixN n i = some j) : seqIndex? i n = some j /\ j < n /\ -(n : Int) <= i /\ i < n := by
 unfold ixN at h
 by_cases h0 : 0 <= i
 ·rw [if_pos h0] at h
  by_cases h1 : i < n
  ·rw [if_pos h1] at h
   have e : i.toNat = j := Option.some.inj h
   exact ⟨by rw [seqIndex_of h0 h1, e], by omega, by omega, h1⟩
  ·rw [if_neg h1] at h; cases h
 ·rw [if_neg h0] at h
  by_cases h1 : -(n : Int) <= i
  ·rw [if_pos h1] at h
   have e : (i + n).toNat = j := Option.some.inj h
   exact ⟨by rw [seqIndex_neg (by omega) h1, e], by omega, h1, by omega⟩
  ·rw [if_neg h1] at h; cases h
theorem atI_get {α : Type} {xs : List α} {i : Int} {v : α} (h : atI xs i = some v) : ∃ j, seqIndex? i xs.length = some j /\ xs[j]? = some v /\ j < xs.length /\ -(xs.length : Int) <= i /\ i < xs.length := by
 unfold atI at h
 cases e : ixN xs.length i with
 | none => rw [e] at h; cases h
 | some j =>
  rw [e] at h
  obtain ⟨h1, h2, h3, h4⟩ := ixN_seq e
  exact ⟨j, h1, h, h2, h3, h4⟩
def PlainIx (b : Expr) : Prop := ∀ o i, subscripted b false o i = operate [o, i] (getItem o i)
def IxR (X : Cx) (r : R2) : Prop :=
 ∀ (value slice : Expr) (pins : List (Addr × Obj)) (s : Shared) (σ : St) (H : Hp) (x y : V) (v u : Value) (Q : VK), Inv X pins σ H s -> RelV x v -> RelV y u -> r x y H Q ->
  subscripted slice false v u = operate [v, u] (getItem v u) -> wpAny (model X.prog X.w) X.A (subscriptTail value slice v u) (EP X pins σ Q) X.xe s
def MtR (X : Cx) (id : String) (r : V -> List V -> Hp -> VK -> Prop) : Prop :=
 ∀ (pins : List (Addr × Obj)) (s : Shared) (σ : St) (H : Hp) (x : V) (xs : List V) (v : Value) (us : List Value) (Q : VK), Inv X pins σ H s -> RelV x v -> Vals xs us -> r x xs H Q ->
  wpAny (model X.prog X.w) X.A (call (.builtin id) (v :: us)) (EP X pins σ Q) X.xe s
section
variable {X : Cx} {a b : Expr} {ta tb : TE} {pos : Pos}
theorem pe_ix {r : R2} (hr : IxR X r) (ha : PE X a ta) (hb : PE X b tb) (hs : PlainIx b) : PE X (.Subscript a b pos) (tOp r ta tb) := by
 intro pins s σ H Q I h
 exact Subscript_ (binT ha hb I h fun v u s2 x y H2 I2 rx ry q => hr a b pins s2 σ H2 x y v u Q I2 rx ry q (hs _ _))
def rIxL (K : PySem.W.Frag) : R2 := fun x y H Q => ∃ p xs i v, x = .ref p /\ y = .int i /\ SqL K H p xs /\ atI xs i = some v /\ Q v H
def rIxT (K : PySem.W.Frag) : R2 := fun x y H Q => ∃ p xs i v, x = .ref p /\ y = .int i /\ SqT K H p xs /\ atI xs i = some v /\ Q v H
def rIxS : R2 := fun x y H Q => ∃ z i c, x = .str z /\ y = .int i /\ z.length <= sizeLine /\ atI z.cps.toList i = some c /\ Q (.str ⟨#[c]⟩) H
theorem ix_list : IxR X (rIxL X.K) := by
 intro value slice pins s σ H x y v u Q I rx ry h hs
 obtain ⟨p, xs, i, z, rfl, rfl, hq, he, q⟩ := h
 cases rx
 obtain ⟨t, rfl⟩ := ry
 obtain ⟨its, r, pl, hz⟩ := I.list hq
 obtain ⟨j, h1, h2, h3, h4, h5⟩ := atI_get he
 obtain ⟨w, ew, rw'⟩ := r.get h2
 have hl := r.length
 have hn := line63
 have fin : EP X pins σ Q w s := ⟨z, H, I, rw', q⟩
 by_cases h0 : 0 <= i
 ·have hj : i.toNat = j := by
   rw [seqIndex_of h0 h5] at h1
   exact Option.some.inj h1
  exact item_listR pl.isList h0 (by omega) (by rw [hj]; simpa using ew) fin hs
 ·have hj : (i + (its.toArray.size : Int)).toNat = j := by
   rw [seqIndex_neg (by omega) h4] at h1
   rw [List.size_toArray, <- hl]
   exact Option.some.inj h1
  exact subscriptTail_builtinR (x := w) pl.isList.typeIs slot_list_getitem.lookup
   (wpAny_getItem_list_neg (Q := fun r s' => r = w /\ EP X pins σ Q r s') pl.isList (by omega) (by rw [List.size_toArray] <;> omega) (by omega) (by rw [hj]; simpa using ew) ⟨rfl, fin⟩) hs
theorem ix_tup : IxR X (rIxT X.K) := by
 intro value slice pins s σ H x y v u Q I rx ry h hs
 obtain ⟨p, xs, i, z, rfl, rfl, hq, he, q⟩ := h
 cases rx
 obtain ⟨t, rfl⟩ := ry
 obtain ⟨its, r, pl, hz⟩ := I.tuple hq
 obtain ⟨j, h1, h2, h3, h4, h5⟩ := atI_get he
 obtain ⟨w, ew, rw'⟩ := r.get h2
 have hl := r.length
 have hn := line63
 have fin : EP X pins σ Q w s := ⟨z, H, I, rw', q⟩
 exact subscriptTail_builtinR (x := w) pl.typeIs slot_tuple_getitem.lookup
  (getItem_tuple (j := j) (Q := fun r s' => r = w /\ EP X pins σ Q r s') pl (by omega) (by omega) (by rw [List.size_toArray, <- hl]; exact h1) (by simpa using ew) ⟨rfl, fin⟩) hs
theorem ix_str : IxR X rIxS := by
 intro value slice pins s σ H x y v u Q I rx ry h hs
 obtain ⟨z, i, c, rfl, rfl, hz, he, q⟩ := h
 obtain ⟨t, rfl⟩ := rx
 obtain ⟨t', rfl⟩ := ry
 obtain ⟨j, h1, h2, h3, h4, h5⟩ := atI_get he
 have hl : z.cps.toList.length = z.length := by simp [Str.length]
 rw [hl] at h1 h4 h5
 have hn := line63
 exact tail_any (typeIs_str s z t) slot_str_getitem.lookup (getItem_str (c := c) (by
  have e1 : decide (i < -(2 ^ 63 : Int)) = false := decide_eq_false (by omega)
  have e2 : decide (i ≥ 2 ^ 63) = false := decide_eq_false (by omega)
  rw [e1, e2, Bool.or_false]) (by rw [h1]; simpa using h2) ⟨.str ⟨#[c]⟩, H, I.tok _, ⟨_, rfl⟩, q⟩) hs
def rIx (K : PySem.W.Frag) : R2 := fun x y H Q => rIxL K x y H Q ∨ rIxT K x y H Q ∨ rIxS x y H Q
theorem mapSeq_set (its : List Value) (n j : Nat) (u : Value) : Obj.mapSeq (·.setIfInBounds j u) { cls := .type "list", data := .seq its.toArray n } = { cls := .type "list", data := .seq (its.set j u).toArray n } := by
 simp [Obj.mapSeq]
theorem Inv.lst {pins : List (Addr × Obj)} {σ : St} {H : Hp} {s : Shared} {p : Addr} {xs : List V} (I : Inv X pins σ H s) (h : H p = some (.lst xs)) :
  ∃ (its : List Value) (n : Nat), Vals xs its /\ s.heap.get? p = some { cls := .type "list", data := .seq its.toArray n } /\ xs.length <= sizeLine := by
 obtain ⟨z, its, n, r, e⟩ := I.hok p _ h
 exact ⟨its, n, r, e, z⟩
theorem Inv.lstUpd {pins : List (Addr × Obj)} {σ : St} {H : Hp} {s : Shared} {p : Addr} {xs ys : List V} {its its' : List Value} {n n' : Nat} {f : Obj -> Obj} (I : Inv X pins σ H s) (h : H p = some (.lst xs))
  (ho : s.heap.get? p = some { cls := .type "list", data := .seq its.toArray n }) (hf : f { cls := .type "list", data := .seq its.toArray n } = { cls := .type "list", data := .seq its'.toArray n' }) (r : Vals ys its') (hz : ys.length <= sizeLine) (t : Nat) :
  Inv X pins σ (upd H p (.lst ys)) { s with heap := s.heap.update p f, toks := t } := by
 have e : (s.heap.update p f).get? p = some { cls := .type "list", data := .seq its'.toArray n' } := by
  rw [Heap.get?_update_self f ho (by rw [hf] <;> rfl), hf]
 refine I.write (x := p) (e := p) (by rw [h]; trivial) (.inl rfl) (fun b u hb q => (Heap.get?_update_other _ _ (Ne.symm hb)).trans q) ⟨_, e⟩ ?_
 exact ⟨hz, its', n', r, e⟩
def rSetL : V -> V -> V -> Hp -> (Hp -> Prop) -> Prop := fun o i v H Q => ∃ p xs k j, o = .ref p /\ i = .int k /\ H p = some (.lst xs) /\ ixN xs.length k = some j /\ Q (upd H p (.lst (xs.set j v)))
theorem set_list : PSet X rSetL := by
 intro pins s σ H o i v ov iv u Q I ro ri rv h
 obtain ⟨p, xs, k, j, rfl, rfl, hp, hj, q⟩ := h
 cases ro
 obtain ⟨t, rfl⟩ := ri
 obtain ⟨its, n, r, ho, hz⟩ := I.lst hp
 obtain ⟨h1, h2, h3, h4⟩ := ixN_seq hj
 have hl := r.length
 have hn := line63
 have I' : Inv X pins σ (upd H p (.lst (xs.set j v))) { s with heap := s.heap.update p (Obj.mapSeq (·.setIfInBounds j u)) } :=
  I.lstUpd hp ho (mapSeq_set its n j u) (r.set rv j) (by rw [List.length_set]; exact hz) s.toks
 by_cases h0 : 0 <= k
 ·have hk : k.toNat = j := by
   rw [seqIndex_of h0 h4] at h1
   exact Option.some.inj h1
  exact PySem.W.ki_setAt ho h0 (by omega) (by rw [List.size_toArray, <- hl]; exact h4) (by rw [hk]; exact ⟨_, I', q⟩)
 ·have hk : (k + (its.toArray.size : Int)).toNat = j := by
   rw [seqIndex_neg (by omega) h3] at h1
   rw [List.size_toArray, <- hl]
   exact Option.some.inj h1
  exact PySem.W.ki_setBack ho (by omega) (by rw [List.size_toArray, <- hl]; exact h3) (by omega) (by rw [hk]; exact ⟨_, I', q⟩)
theorem slice_bounds (lo hi : Option Int) (n : Nat) : (sliceBounds lo hi none n).1 = ((HT.sIx n 0 lo : Nat) : Int) /\ (sliceBounds lo hi none n).2.1 = ((HT.sIx n n hi : Nat) : Int) /\ (sliceBounds lo hi none n).2.2 = 1 := by
 refine ⟨?_, ?_, rfl⟩
 ·cases lo with
  | none => simp [sliceBounds, HT.sIx]
  | some i =>
   simp only [sliceBounds, HT.sIx, Option.getD_none, show (1 : Int) > 0 by decide, if_true]
   by_cases h : i < 0
   ·simp only [h, if_true] <;> omega
   ·simp only [h, if_false] <;> omega
 ·cases hi with
  | none => simp [sliceBounds, HT.sIx]
  | some i =>
   simp only [sliceBounds, HT.sIx, Option.getD_none, show (1 : Int) > 0 by decide, if_true]
   by_cases h : i < 0
   ·simp only [h, if_true] <;> omega
   ·simp only [h, if_false] <;> omega
theorem slicePick_cut (its : List Value) (lo hi : Option Int) : slicePick its.toArray lo hi none = ((its.drop (HT.sIx its.length 0 lo)).take (HT.sIx its.length its.length hi - HT.sIx its.length 0 lo)).toArray := by
 obtain ⟨h1, h2, h3⟩ := slice_bounds lo hi its.toArray.size
 unfold slicePick
 rw [h1, h2, h3]
 simp only [sliceRange_one, pick_run, List.size_toArray] <;> rfl
def rSlL (K : PySem.W.Frag) : V -> Option Int -> Option Int -> Hp -> VK -> Prop := fun x lo hi H Q => ∃ a xs, x = .ref a /\ SqL K H a xs /\ ∀ p, H p = none -> Q (.ref p) (upd H p (.lst (cutV xs lo hi)))
theorem sl_list : SlR X (rSlL X.K) := by
 intro pins s σ H x v vl vu lo hi sl Q I rx hs pl pu h
 obtain ⟨a, xs, rfl, hx, q⟩ := h
 cases rx
 obtain ⟨its, r, ht, hz⟩ := I.list hx
 have hlen := r.length
 refine ⟨"list", _, slot_list_getitem.lookup, ht.isList.typeIs, ?_⟩
 refine wpAny_getItem_list_slice ht.isList hs pl pu .none (by simp) ?_ (by rw [List.size_toArray] <;> omega)
 rw [slicePick_cut, <- hlen]
 refine ⟨.ref s.heap.objs.size, _, I.laid (t' := s.toks) (o := .lst (cutV xs lo hi)) (fun b ob q => Heap.get?_push_of_some _ q) (Nat.le_refl _) ?_, rfl, q _ (I.hok.fresh (Nat.le_refl _))⟩
 exact ⟨Nat.le_trans (cutV_length xs lo hi) hz, _, 0, (r.drop (HT.sIx xs.length 0 lo)).take (HT.sIx xs.length xs.length hi - HT.sIx xs.length 0 lo), Heap.get?_push_size _ rfl⟩
def flatV : V -> Bool
 | .non => true
 | .bl _ => true
 | .int _ => true
 | .str _ => true
 | _ => false
def eqV : V -> V -> Bool
 | .non, .non => true
 | .bl a, .bl b => a == b
 | .bl a, .int b => (if a then 1 else 0) == b
 | .int a, .bl b => a == (if b then 1 else 0)
 | .int a, .int b => a == b
 | .str a, .str b => a == b
 | _, _ => false
theorem eqAt_V {A : Around} {s : Shared} {y x : V} {u v : Value} (ry : RelV y u) (rx : RelV x v) (fy : flatV y = true) (fx : flatV x = true) : SeqAt.EqAt A s u v (eqV y x) := by
 cases y with
 | non =>
  cases ry
  cases x with
  | non => cases rx; exact SeqAt.EqAt.same _
  | bl b => cases rx; exact SeqAt.EqAt.none_bool b
  | int b => obtain ⟨t, rfl⟩ := rx; exact SeqAt.EqAt.none_int b t
  | str b => obtain ⟨t, rfl⟩ := rx; exact SeqAt.EqAt.none_str b t
  | _ => exact absurd (show false = true from fx) Bool.false_ne_true
 | bl a =>
  cases ry
  cases x with
  | non => cases rx; exact SeqAt.EqAt.bool_none a
  | bl b => cases rx; exact SeqAt.EqAt.bool_bool a b
  | int b => obtain ⟨t, rfl⟩ := rx; exact SeqAt.EqAt.bool_int a b t
  | str b => obtain ⟨t, rfl⟩ := rx; exact SeqAt.EqAt.bool_str a b t
  | _ => exact absurd (show false = true from fx) Bool.false_ne_true
 | int a =>
  obtain ⟨t', rfl⟩ := ry
  cases x with
  | non => cases rx; exact SeqAt.EqAt.int_none a t'
  | bl b => cases rx; exact SeqAt.EqAt.int_bool a t' b
  | int b => obtain ⟨t, rfl⟩ := rx; exact SeqAt.EqAt.int_int a t' b t
  | str b => obtain ⟨t, rfl⟩ := rx; exact SeqAt.EqAt.int_str a t' b t
  | _ => exact absurd (show false = true from fx) Bool.false_ne_true
 | str a =>
  obtain ⟨t', rfl⟩ := ry
  cases x with
  | non => cases rx; exact SeqAt.EqAt.str_none a t'
  | bl b => cases rx; exact SeqAt.EqAt.str_bool a t' b
  | int b => obtain ⟨t, rfl⟩ := rx; exact SeqAt.EqAt.str_int a t' b t
  | str b => obtain ⟨t, rfl⟩ := rx; exact SeqAt.EqAt.str_str a t' b t
  | _ => exact absurd (show false = true from fx) Bool.false_ne_true
 | _ => exact absurd (show false = true from fy) Bool.false_ne_true
def eqU (x : V) (u : Value) : Bool := match u with
 | .none => eqV .non x
 | .bool b => eqV (.bl b) x
 | .int i _ => eqV (.int i) x
 | .str z _ => eqV (.str z) x
 | _ => false
theorem eqU_of {x y : V} {u : Value} (r : RelV y u) (f : flatV y = true) : eqU x u = eqV y x := by
 cases y with
 | non => cases r; rfl
 | bl b => cases r; rfl
 | int i => obtain ⟨t, rfl⟩ := r; rfl
 | str z => obtain ⟨t, rfl⟩ := r; rfl
 | _ => exact absurd (show false = true from f) Bool.false_ne_true
theorem any_eqU {x : V} : ∀ {xs : List V} {us : List Value}, Vals xs us -> xs.all flatV = true -> us.any (eqU x) = xs.any fun y => eqV y x
 | _, _, .nil, _ => rfl
 | y :: xs, u :: us, .cons r t, f => by
  rw [List.all_cons, Bool.and_eq_true] at f
  rw [List.any_cons, List.any_cons, eqU_of r f.1, any_eqU t f.2]
theorem mem_eqAt {A : Around} {s : Shared} {x : V} {v : Value} (rx : RelV x v) (fx : flatV x = true) : ∀ {xs : List V} {us : List Value}, Vals xs us -> xs.all flatV = true -> ∀ u ∈ us, SeqAt.EqAt A s u v (eqU x u)
 | _, _, .nil, _ => fun u hu => by cases hu
 | y :: xs, u :: us, .cons r t, f => fun u' hu => by
  rw [List.all_cons, Bool.and_eq_true] at f
  rcases List.mem_cons.mp hu with rfl | hu
  ·rw [eqU_of r f.1]; exact eqAt_V r rx f.1 fx
  ·exact mem_eqAt rx fx t f.2 u' hu
def inV (x : V) (xs : List V) : Bool := xs.any fun y => eqV y x
def rIn (K : PySem.W.Frag) (neg : Bool) : R2 := fun x y H Q => ∃ p xs, y = .ref p /\ (SqL K H p xs ∨ SqT K H p xs) /\ flatV x = true /\ xs.all flatV = true /\ Q (.bl (if neg then !inV x xs else inV x xs)) H
theorem op_in_seq : OpR X (compareOp .In) (rIn X.K false) := by
 intro pins s σ H x y v u Q I rx ry h
 obtain ⟨p, xs, rfl, hq, fx, fs, q⟩ := h
 cases ry
 rcases hq with hq | hq
 ·obtain ⟨its, r, pl, hz⟩ := I.list hq
  refine SeqAt.in_listAt (eqU x) pl.isList (fun w hw => mem_eqAt rx fx r fs w (by simpa using hw)) ⟨.bl _, H, I, rfl, ?_⟩
  rw [show its.toArray.any (eqU x) = its.any (eqU x) by simp, any_eqU r fs]
  exact q
 ·obtain ⟨its, r, pl, hz⟩ := I.tuple hq
  refine SeqAt.in_tupleAt (eqU x) pl (fun w hw => mem_eqAt rx fx r fs w (by simpa using hw)) ⟨.bl _, H, I, rfl, ?_⟩
  rw [show its.toArray.any (eqU x) = its.any (eqU x) by simp, any_eqU r fs]
  exact q
theorem call_len_seq : CallR X (.builtin "len") (fun xs H Q => ∃ p ys, xs = [.ref p] /\ (SqL X.K H p ys ∨ SqT X.K H p ys) /\ Q (.int ys.length) H) := by
 intro pins s σ H xs us Q I r h
 obtain ⟨p, ys, rfl, hq, q⟩ := h
 obtain ⟨u, rfl, rx⟩ := vals1 r
 cases rx
 have hn := line63
 rcases hq with hq | hq
 ·obtain ⟨its, r', pl, hz⟩ := I.list hq
  have hlen := r'.length
  exact Calls.call_len_list pl.isList (by simp only [List.size_toArray] <;> omega) ⟨.int ys.length, H, I.tok _, ⟨s.toks + 1, by rw [List.size_toArray, hlen]⟩, q⟩
 ·obtain ⟨its, r', pl, hz⟩ := I.tuple hq
  have hlen := r'.length
  exact len_tuple pl (by simp only [List.size_toArray] <;> omega) ⟨.int ys.length, H, I.tok _, ⟨s.toks + 1, by rw [List.size_toArray, hlen]⟩, q⟩
theorem call_len_str : CallR X (.builtin "len") (fun xs H Q => ∃ z, xs = [.str z] /\ z.length <= sizeLine /\ Q (.int z.length) H) := by
 intro pins s σ H xs us Q I r h
 obtain ⟨z, rfl, hz, q⟩ := h
 obtain ⟨u, rfl, t, rfl⟩ := vals1 r
 have hn := line63
 exact len_str (by omega) ⟨.int z.length, H, I.tok _, ⟨_, rfl⟩, q⟩
def tyV (K : PySem.W.Frag) (T : String) (x : V) (H : Hp) : Prop := match x with
 | .str _ => T = "str"
 | .int _ => T = "int"
 | .ref p => (T = "list" /\ ∃ xs, SqL K H p xs) ∨ (T = "tuple" /\ ∃ o, K.lookup p = some o /\ o.cls = .type "tuple" /\ o.dict = none) ∨
   (T = "dict" /\ ((∃ kvs, H p = some (.dK kvs)) ∨ ∃ kvs, H p = some (.dT kvs))) ∨ (T = "set" /\ ∃ S n, H p = some (.set S n))
 | _ => False
theorem tyV_is {pins : List (Addr × Obj)} {σ : St} {H : Hp} {s : Shared} {T : String} {x : V} {v : Value} (I : Inv X pins σ H s) (r : RelV x v) (ty : tyV X.K T x H) :
  s.TypeIs v T /\ ∀ a, v = .ref a -> ∃ ob, s.heap.get? a = some ob /\ ob.dict = none := by
 cases x with
 | str z =>
  obtain ⟨t, rfl⟩ := r
  cases (show T = "str" from ty)
  exact ⟨typeIs_str s z t, fun _ e => nomatch e⟩
 | int i =>
  obtain ⟨t, rfl⟩ := r
  cases (show T = "int" from ty)
  exact ⟨typeIs_int s i t, fun _ e => nomatch e⟩
 | ref p =>
  cases r
  rcases ty with ⟨rfl, xs, hq⟩ | ⟨rfl, o, hk, hc, hd⟩ | ⟨rfl, hk⟩ | ⟨rfl, S, n, hk⟩
  ·obtain ⟨its, _, pl, _⟩ := I.list hq
   refine ⟨pl.isList.typeIs, fun a e => ?_⟩
   cases e
   obtain ⟨o, n, e, c, hd, _⟩ := pl
   exact ⟨o, e, hd⟩
  ·refine ⟨⟨o, I.kIn p o hk, hc⟩, fun a e => ?_⟩
   cases e
   exact ⟨o, I.kIn _ o hk, hd⟩
  ·have z : ∃ o, s.heap.get? p = some o /\ o.ExactDict := by
    rcases hk with ⟨kvs, hk⟩ | ⟨kvs, hk⟩
    ·obtain ⟨_, _, _, _, o, _, _, e, ex, _⟩ := I.hok p _ hk
     exact ⟨o, e, ex⟩
    ·obtain ⟨_, _, _, _, o, _, _, e, ex, _⟩ := I.hok p _ hk
     exact ⟨o, e, ex⟩
   obtain ⟨o, e, ex⟩ := z
   refine ⟨⟨o, e, ex.1⟩, fun a e2 => ?_⟩
   cases e2
   exact ⟨o, e, ex.2.1⟩
  ·obtain ⟨o, _, _, _, e, ex, _⟩ := I.hok p _ hk
   refine ⟨⟨o, e, ex.1⟩, fun a e2 => ?_⟩
   cases e2
   exact ⟨o, e, ex.2.1⟩
 | _ => exact False.elim ty
def tBM0 (K : PySem.W.Frag) (T : String) (r : V -> List V -> Hp -> VK -> Prop) (to : TE) : TE := fun σ H Q => to σ H fun x H1 => tyV K T x H1 /\ r x [] H1 Q
def tBM (K : PySem.W.Frag) (T : String) (r : V -> List V -> Hp -> VK -> Prop) (to : TE) (t : TA) : TE := fun σ H Q => to σ H fun x H1 => tyV K T x H1 /\ t σ H1 fun xs H2 => r x xs H2 Q
variable {o e : Expr} {es : List Expr} {to : TE} {t : TA} {name : Str} {apos cpos : Pos} {T id : String} {r : V -> List V -> Hp -> VK -> Prop}
theorem pe_bm (pa : PlainAttrs T) (slot : Slot T name id) (hty : typeOf (.builtin id) = pure (.type "method_descriptor")) (hm : MtR X id r) (ho : PE X o to) (ha : PA X (e :: es) t)
  (hbase : attributeBase o name X.env (eval o X.env) = eval o X.env := by rfl)
  (hfew : ((backTo cpos (starEach (e :: es) X.env)).all (fun x => !x.1) && (backToKw cpos (keywordEach [] X.env)).all (fun x => x.1.isSome)
   && decide ((e :: es).length + ([] : List Keyword).length + (if ([] : List Keyword).isEmpty then 0 else 1) < 30)) = true := by rfl)
  (hline : (apos.endLine == cpos.line) = true := by rfl) (hs : starEach (e :: es) X.env = (false, eval e X.env) :: starEach es X.env := by rfl) (hplain : (backTo cpos (starEach es X.env)).any (·.1) = false := by rfl) :
  PE X (.Call (.Attribute o name apos) (e :: es) [] cpos) (tBM X.K T r to t) := by
 intro pins s σ H Q I h
 refine wpAny_Call_method_late hbase hfew hline rfl (thn (ho pins s σ H _ I h) fun v s1 ⟨x, H1, I1, r1, ty, q1⟩ => ?_)
 obtain ⟨h1, h2⟩ := tyV_is I1 r1 ty
 refine ⟨T, id, pa, slot, hty, h1, h2, ?_⟩
 have hA := ha cpos pins s1 σ H1 _ I1 q1
 rw [hs] at hA ⊢
 refine Calls.callWith_builtin (by show (false || (backTo cpos (starEach es X.env)).any (·.1)) = false; rw [hplain] <;> rfl) (Calls.evalArgs_plain ?_)
 exact thn hA fun us s2 ⟨vs, H2, I2, r2, q2⟩ => hm pins s2 σ H2 x vs v us Q I2 r1 r2 q2
/- xs.append(e), list.index on a module's tuple .. are MtR facts of 06m -/
end
end L2
namespace L2
open PySem PySem.Spec PyProof.Rows
def MtM (X : Cx) (id : String) (r : V -> List V -> Hp -> VK -> Prop) : Prop :=
 ∀ (pins : List (Addr × Obj)) (s : Shared) (σ : St) (H : Hp) (x : V) (xs : List V) (v : Value) (us : List Value) (Q : VK), Inv X pins σ H s -> RelV x v -> Vals xs us -> r x xs H Q ->
  wpAny (model X.prog X.w) X.A (call (.builtin id) (v :: us)) (EP X pins σ Q) X.xe s
theorem Vals.one : ∀ {x : V} {us : List Value}, Vals [x] us -> ∃ u, us = [u] /\ RelV x u
 | _, _, .cons r .nil => ⟨_, rfl, r⟩
theorem Vals.two : ∀ {x y : V} {us : List Value}, Vals [x, y] us -> ∃ u v, us = [u, v] /\ RelV x u /\ RelV y v
 | _, _, _, .cons r (.cons q .nil) => ⟨_, _, rfl, r, q⟩
section
variable {X : Cx} {pins : List (Addr × Obj)} {σ : St} {H : Hp} {s : Shared} {l b : Addr} {xs ys zs : List V}
theorem Inv.lset {its its' : List Value} {n : Nat} {f : Array Value -> Array Value} {t' : Nat} (I : Inv X pins σ H s) (hH : H l = some (.lst xs))
  (e : s.heap.get? l = some { cls := .type "list", data := .seq its.toArray n }) (hf : f its.toArray = its'.toArray) (hv : Vals ys its') (hz : ys.length <= sizeLine) :
  Inv X pins σ (upd H l (.lst ys)) { s with heap := s.heap.update l (Obj.mapSeq f), toks := t' } := by
 have q := PySem.IsL.update e f
 rw [hf] at q
 refine I.write (x := l) (e := l) (by rw [hH]; exact trivial) (.inl rfl) (fun b' u hb hu => (Heap.get?_update_other s.heap (Obj.mapSeq f) (Ne.symm hb)).trans hu) ⟨_, q⟩ ?_
 exact ⟨hz, its', _, hv, q⟩
theorem Inv.lnew {its : List Value} {t' : Nat} (I : Inv X pins σ H s) (hv : Vals ys its) (hz : ys.length <= sizeLine) :
  Inv X pins σ (upd H s.heap.objs.size (.lst ys)) { s with heap := s.heap.push { cls := .type "list", data := .seq its.toArray }, toks := t' } :=
 I.laid (fun _ _ q => Heap.get?_push_of_some _ q) (Nat.le_refl _) ⟨hz, its, 0, hv, Heap.get?_push_size _ rfl⟩
theorem Inv.fresh (I : Inv X pins σ H s) : H s.heap.objs.size = none := I.hok.fresh (Nat.le_refl _)
theorem Inv.lstM (I : Inv X pins σ H s) (hH : H l = some (.lst xs)) : xs.length <= sizeLine /\ ∃ (its : List Value) (n : Nat), Vals xs its /\ xs.length = its.length /\ s.heap.get? l = some { cls := .type "list", data := .seq its.toArray n } := by
 obtain ⟨z, its, n, r, e⟩ := I.hok l _ hH
 exact ⟨z, its, n, r, r.length, e⟩
theorem notLongL {n : Nat} (h : n <= sizeLine) : Builtin.List.listTooLong n = false := by
 unfold Builtin.List.listTooLong
 exact decide_eq_false (by omega)
end
section
variable {X : Cx}
def rAppend : V -> List V -> Hp -> VK -> Prop := fun x vs H Q => ∃ l xs y, x = .ref l /\ vs = [y] /\ H l = some (.lst xs) /\ xs.length < sizeLine /\ Q .non (upd H l (.lst (xs ++ [y])))
theorem mt_append : MtM X "list.append" rAppend := by
 intro pins s σ H x vs v us Q I rx rv h
 obtain ⟨l, xs, y, rfl, rfl, hH, hz, q⟩ := h
 cases rx
 obtain ⟨u, rfl, ru⟩ := rv.one
 obtain ⟨z, its, n, r, hl, e⟩ := I.lstM hH
 refine call_meets F.slot_list_append ⟨_, e, rfl⟩ F.entry_list_append (F.args_list_append_2 _ _) (PySem.list_append l its.toArray n u (by rw [List.size_toArray]; omega)) ⟨e, ?_⟩
 refine ⟨.non, _, I.lset (its' := its ++ [u]) hH e (by simp) (r.append (.cons ru .nil)) ?_, rfl, q⟩
 rw [List.length_append, List.length_singleton]
 omega
def rExtend : V -> List V -> Hp -> VK -> Prop := fun x vs H Q => ∃ l b xs zs, x = .ref l /\ vs = [.ref b] /\ H l = some (.lst xs) /\ H b = some (.lst zs) /\ xs.length + zs.length <= sizeLine /\ Q .non (upd H l (.lst (xs ++ zs)))
theorem mt_extend : MtM X "list.extend" rExtend := by
 intro pins s σ H x vs v us Q I rx rv h
 obtain ⟨l, b, xs, zs, rfl, rfl, hH, hB, hz, q⟩ := h
 cases rx
 obtain ⟨u, rfl, ru⟩ := rv.one
 cases ru
 obtain ⟨z, its, n, r, hl, e⟩ := I.lstM hH
 obtain ⟨z2, its2, n2, r2, hl2, e2⟩ := I.lstM hB
 have hsz : its.toArray.size + its2.toArray.size <= sizeLine := by rw [List.size_toArray, List.size_toArray]; omega
 have hlong : ¬ (!its.toArray.isEmpty && Builtin.List.listTooLong (its.toArray.size + its2.toArray.size)) = true := by
  rw [notLongL hsz, Bool.and_false]
  exact Bool.false_ne_true
 refine call_meets F.slot_list_extend ⟨_, e, rfl⟩ F.entry_list_extend (F.args_list_extend_2 _ _)
  (AutoSeq1.list_extend_list_list_0 l its.toArray n b its2.toArray n2 hlong (by rw [List.size_toArray]; omega) (by omega)) ⟨e, e2, ?_⟩
 refine ⟨.non, _, I.lset (its' := its ++ its2) hH e (by simp) (r.append r2) ?_, rfl, q⟩
 rw [List.length_append]
 omega
def rPop : V -> List V -> Hp -> VK -> Prop := fun x vs H Q => ∃ l xs y, x = .ref l /\ vs = [] /\ H l = some (.lst xs) /\ xs[xs.length - 1]? = some y /\ Q y (upd H l (.lst xs.dropLast))
def rPopAt : V -> List V -> Hp -> VK -> Prop := fun x vs H Q => ∃ l xs i k y, x = .ref l /\ vs = [.int i] /\ H l = some (.lst xs) /\ -(2 ^ 63) <= i /\ i < 2 ^ 63 /\ seqIndex? i xs.length = some k /\ xs[k]? = some y /\ Q y (upd H l (.lst (xs.eraseIdx k)))
def rReverse : V -> List V -> Hp -> VK -> Prop := fun x vs H Q => ∃ l xs, x = .ref l /\ vs = [] /\ H l = some (.lst xs) /\ Q .non (upd H l (.lst xs.reverse))
def rClear : V -> List V -> Hp -> VK -> Prop := fun x vs H Q => ∃ l xs, x = .ref l /\ vs = [] /\ H l = some (.lst xs) /\ Q .non (upd H l (.lst []))
def rCat : R2 := fun x y H Q => ∃ l b xs zs, x = .ref l /\ y = .ref b /\ H l = some (.lst xs) /\ H b = some (.lst zs) /\ xs.length + zs.length <= sizeLine /\ ∀ p, H p = none -> Q (.ref p) (upd H p (.lst (xs ++ zs)))
theorem op_cat : OpR X (binaryOp .Add) rCat := by
 intro pins s σ H x y v u Q I rx ry h
 obtain ⟨l, b, xs, zs, rfl, rfl, hH, hB, hz, q⟩ := h
 cases rx
 cases ry
 obtain ⟨z, its, n, r, hl, e⟩ := I.lstM hH
 obtain ⟨z2, its2, n2, r2, hl2, e2⟩ := I.lstM hB
 refine PySem.P.add_list e e2 ?_ (by rw [List.size_toArray, List.size_toArray]; omega)
 have ea : its.toArray ++ its2.toArray = (its ++ its2).toArray := by simp
 rw [ea]
 exact ⟨.ref _, _, I.lnew (t' := s.toks) (r.append r2) (by rw [List.length_append]; omega), rfl, q _ I.fresh⟩
def rRep : R2 := fun x y H Q => ∃ l k xs, x = .ref l /\ y = .int k /\ H l = some (.lst xs) /\ -(2 ^ 63) <= k /\ k < 2 ^ 63 /\ xs.length * k.toNat <= sizeLine /\
 ∀ p, H p = none -> Q (.ref p) (upd H p (.lst (List.replicate k.toNat xs).flatten))
end
section
variable {prog : Program} {w : World} {A : Around} {E : Value -> Shared -> Prop} {s : Shared}
end
section
variable {X : Cx}
end
end L2
namespace L2
open PySem PySem.Spec PyProof.Rows
section
variable {κ : Type} [DecidableEq κ]
def valV (kvs : List (κ × V)) (k : κ) : Option V := (kvs.find? fun kv => decide (kv.1 = k)).map (·.2)
def putK (kvs : List (κ × V)) (k : κ) (v : V) : List (κ × V) :=
 if (kvs.any fun kv => decide (kv.1 = k)) = true then kvs.map (fun kv => if kv.1 = k then (kv.1, v) else kv) else kvs ++ [(k, v)]
def dropK (kvs : List (κ × V)) (k : κ) : List (κ × V) := kvs.filter fun kv => decide (kv.1 ≠ k)
theorem valV_pos {p : κ × V} {r : List (κ × V)} {k : κ} (e : p.1 = k) : valV (p :: r) k = some p.2 := by simp [valV, List.find?_cons, e]
theorem valV_neg {p : κ × V} {r : List (κ × V)} {k : κ} (e : ¬ p.1 = k) : valV (p :: r) k = valV r k := by simp [valV, List.find?_cons, e]
theorem valV_any (k : κ) : ∀ kvs : List (κ × V), (kvs.any fun kv => decide (kv.1 = k)) = (valV kvs k).isSome
 | [] => rfl
 | p :: r => by
  rw [List.any_cons]
  by_cases e : p.1 = k
  ·simp only [valV_pos e, decide_eq_true e, Bool.true_or, Option.isSome_some]
  ·rw [valV_neg e, decide_eq_false e, Bool.false_or]; exact valV_any k r
theorem length_putK (kvs : List (κ × V)) (k : κ) (v : V) : (putK kvs k v).length <= kvs.length + 1 := by
 unfold putK
 split
 ·rw [List.length_map]; omega
 ·rw [List.length_append, List.length_cons, List.length_nil]; omega
theorem putK_new {kvs : List (κ × V)} {k : κ} (v : V) (h : valV kvs k = none) : putK kvs k v = kvs ++ [(k, v)] := by
 unfold putK
 rw [valV_any, h]
 exact if_neg (by decide)
theorem RelO.isSome_eq {o : Option V} {u : Option Value} (r : RelO o u) : o.isSome = u.isSome := by
 cases o with
 | none => cases u with
  | none => rfl
  | some _ => exact (show False from r).elim
 | some _ => cases u with
  | none => exact (show False from r).elim
  | some _ => rfl
theorem RelO.getD {o : Option V} {u : Option Value} {d : V} {d' : Value} (r : RelO o u) (rd : RelV d d') : RelV (o.getD d) (u.getD d') := by
 cases o with
 | none => cases u with
  | none => exact rd
  | some _ => exact (show False from r).elim
 | some _ => cases u with
  | none => exact (show False from r).elim
  | some _ => exact r
theorem KV.val {kvs : List (κ × V)} {vs : List (κ × Value)} (r : KV kvs vs) (k : κ) : RelO (valV kvs k) (valueAt vs k) := by
 unfold KV at r
 induction r with
 | nil => exact True.intro
 | @cons p q ps qs h t ih =>
  obtain ⟨h1, h2⟩ := h
  by_cases e : p.1 = k
  ·have e' : q.1 = k := h1.symm.trans e
   have b : valueAt (q :: qs) k = some q.2 := by simp [valueAt, List.find?_cons, e']
   rw [valV_pos e, b]; exact h2
  ·have e' : ¬ q.1 = k := fun z => e (h1.trans z)
   have b : valueAt (q :: qs) k = valueAt qs k := by simp [valueAt, List.find?_cons, e']
   rw [valV_neg e, b]; exact ih
theorem KV.any {kvs : List (κ × V)} {vs : List (κ × Value)} (r : KV kvs vs) (k : κ) : (kvs.any fun kv => decide (kv.1 = k)) = vs.any fun kv => decide (kv.1 = k) := by
 unfold KV at r
 induction r with
 | nil => rfl
 | cons h t ih => rw [List.any_cons, List.any_cons, ih, h.1]
theorem KV.repl {kvs : List (κ × V)} {vs : List (κ × Value)} (r : KV kvs vs) (k : κ) {y : V} {u : Value} (ry : RelV y u) :
  KV (kvs.map fun kv => if kv.1 = k then (kv.1, y) else kv) (vs.map fun kv => if kv.1 = k then (kv.1, u) else kv) := by
 unfold KV at r ⊢
 induction r with
 | nil => exact .nil
 | @cons p q ps qs h t ih =>
  rw [List.map_cons, List.map_cons]
  refine .cons ?_ ih
  obtain ⟨h1, h2⟩ := h
  by_cases e : p.1 = k
  ·rw [if_pos e, if_pos (h1.symm.trans e)]; exact ⟨h1, ry⟩
  ·rw [if_neg e, if_neg (fun z => e (h1.trans z))]; exact ⟨h1, h2⟩
theorem KV.put {kvs : List (κ × V)} {vs : List (κ × Value)} (r : KV kvs vs) (k : κ) {y : V} {u : Value} (ry : RelV y u) : KV (putK kvs k y) (stored vs k u) := by
 unfold putK stored
 rw [r.any k]
 by_cases e : (vs.any fun kv => decide (kv.1 = k)) = true
 ·rw [if_pos e, if_pos e]; exact r.repl k ry
 ·rw [if_neg e, if_neg e]; exact Paired.snoc r ⟨rfl, ry⟩
theorem KV.keys {kvs : List (κ × V)} {vs : List (κ × Value)} (r : KV kvs vs) : kvs.map (·.1) = vs.map (·.1) := by
 unfold KV at r
 induction r with
 | nil => rfl
 | cons h t ih => rw [List.map_cons, List.map_cons, ih, h.1]
theorem KV.length {kvs : List (κ × V)} {vs : List (κ × Value)} (r : KV kvs vs) : kvs.length = vs.length := Paired.length r
end
theorem kV_is {P : Program} {w : World} {k : Key} {u : Value} (r : RelV (kV k) u) : (mixKind P w).is k u = true := by
 cases k with
 | inl i => obtain ⟨t, e⟩ := (show ∃ t, u = Value.int i t from r); subst e; exact mixKind_int P w i t
 | inr x => obtain ⟨t, e⟩ := (show ∃ t, u = Value.str x t from r); subst e; exact mixKind_str P w x t
theorem items_are {P : Program} {w : World} : ∀ {ks : List Key} {us : List Value}, Vals (ks.map kV) us -> ItemsAre (mixKind P w) ks us
 | [], _, r => by rw [List.map_nil] at r; cases r; exact .nil
 | k :: ks, _, r => by
  rw [List.map_cons] at r
  cases r with
  | cons h t => exact .cons (kV_is h) (items_are t)
abbrev KT (H : Hp) : List (List Key × V) -> List (List Key × Addr × Value) -> Prop := Paired fun p q => p.1 = q.1 /\ H q.2.1 = some (.tup (p.1.map kV)) /\ RelV p.2 q.2.2
theorem KT.val {H : Hp} {kvs : List (List Key × V)} {xs : List (List Key × Addr × Value)} (r : KT H kvs xs) (k : List Key) : RelO (valV kvs k) ((atKey xs k).map (·.2)) := by
 induction r with
 | nil => exact True.intro
 | @cons p q ps qs h t ih =>
  obtain ⟨h1, _, h2⟩ := h
  by_cases e : p.1 = k
  ·have e' : q.1 = k := h1.symm.trans e
   have b : atKey (q :: qs) k = some q.2 := by simp [atKey, List.find?_cons, e']
   rw [valV_pos e, b]; exact h2
  ·have e' : ¬ q.1 = k := fun z => e (h1.trans z)
   have b : atKey (q :: qs) k = atKey qs k := by simp [atKey, List.find?_cons, e']
   rw [valV_neg e, b]; exact ih
theorem KT.repl {H : Hp} {kvs : List (List Key × V)} {xs : List (List Key × Addr × Value)} (r : KT H kvs xs) (k : List Key) {y : V} {u : Value} (ry : RelV y u) :
  KT H (kvs.map fun kv => if kv.1 = k then (kv.1, y) else kv) (xs.map (putAt k u)) := by
 induction r with
 | nil => exact .nil
 | @cons p q ps qs h t ih =>
  rw [List.map_cons, List.map_cons]
  refine .cons ?_ ih
  obtain ⟨h1, h2, h3⟩ := h
  unfold putAt
  by_cases e : p.1 = k
  ·rw [if_pos e, if_pos (h1.symm.trans e)]; exact ⟨h1, h2, ry⟩
  ·rw [if_neg e, if_neg (fun z => e (h1.trans z))]; exact ⟨h1, h2, h3⟩
theorem KT.put {H : Hp} {kvs : List (List Key × V)} {xs : List (List Key × Addr × Value)} (r : KT H kvs xs) (k : List Key) {b : Addr} {y : V} {u : Value} (hb : H b = some (.tup (k.map kV))) (ry : RelV y u) :
  KT H (putK kvs k y) (storedH xs k b u) := by
 have e : (kvs.any fun kv => decide (kv.1 = k)) = (atKey xs k).isSome := by
  rw [valV_any, (r.val k).isSome_eq, Option.isSome_map]
 unfold putK storedH
 rw [e]
 by_cases q : (atKey xs k).isSome = true
 ·rw [if_pos q, if_pos q]; exact r.repl k ry
 ·rw [if_neg q, if_neg q]; exact Paired.snoc r ⟨rfl, hb, ry⟩
theorem KT.keeps {H H' : Hp} {kvs : List (List Key × V)} {xs : List (List Key × Addr × Value)} (r : KT H kvs xs) (ht : ∀ b ys, H b = some (.tup ys) -> H' b = some (.tup ys)) : KT H' kvs xs :=
 Paired.mapP r fun _ _ z => ⟨z.1, ht _ _ z.2.1, z.2.2⟩
section
variable {P : Program} {w : World} {H : Hp} {h : Heap} {a : Addr}
theorem rd_of {u : HO} (ok : HOk P w H h) (e : Rd H a u) : ObjOk P w H h a u := e.ok ok
theorem dk_rd {kvs : List (Key × V)} (ok : HOk P w H h) (e : Rd H a (.dK kvs)) : kvs.length <= sizeLine /\ (a == sysModules) = false /\ ∃ vs, KV kvs vs /\ h.DictOf (mixKind P w) a vs :=
 show ObjOk P w H h a (.dK kvs) from rd_of ok e
theorem dk_of {kvs : List (Key × V)} (ok : HOk P w H h) (e : H a = some (.dK kvs)) : kvs.length <= sizeLine /\ (a == sysModules) = false /\ ∃ vs, KV kvs vs /\ h.DictOf (mixKind P w) a vs := dk_rd ok (.inl e)
theorem key_of {ks : List Key} (ok : HOk P w H h) (e : H a = some (.tup (ks.map kV))) : (tupleKind (mixKind P w)).is h ks a := by
 obtain ⟨_, its, r, ⟨o, h1, h2, n, h3⟩, _⟩ := (show ObjOk P w H h a (.tup (ks.map kV)) from ok a _ e)
 exact ⟨o, its.toArray, n, h1, h2, h3, by simpa using items_are r⟩
theorem dt_rd {kvs : List (List Key × V)} (ok : HOk P w H h) (e : Rd H a (.dT kvs)) : kvs.length <= sizeLine /\ (a == sysModules) = false /\
  ∃ xs, KT H kvs xs /\ h.DictOfH (tupleKind (mixKind P w)) a xs := by
 obtain ⟨z, y, xs, r, o, es, ep, h1, h2, h3, h4, h5⟩ := (show ObjOk P w H h a (.dT kvs) from rd_of ok e)
 refine ⟨z, y, xs, r, o, es, ep, h1, h2, h3, h4, fun x hx => ?_, h5⟩
 have all : ∀ {l : List (List Key × V)} {m : List (List Key × Addr × Value)}, KT H l m -> ∀ x ∈ m, (tupleKind (mixKind P w)).is h x.1 x.2.1 := by
  intro l m q
  induction q with
  | nil => intro x hx; exact nomatch hx
  | @cons p q ps qs hq t ih =>
   intro x hx
   rcases List.mem_cons.mp hx with e | hx
   ·subst e
    exact key_of ok (by rw [<- hq.1]; exact hq.2.1)
   ·exact ih x hx
 exact all r x hx
theorem dt_of {kvs : List (List Key × V)} (ok : HOk P w H h) (e : H a = some (.dT kvs)) : kvs.length <= sizeLine /\ (a == sysModules) = false /\
  ∃ xs, KT H kvs xs /\ h.DictOfH (tupleKind (mixKind P w)) a xs := dt_rd ok (.inl e)
end
def DGet (H : Hp) (a : Addr) (y : V) (r : Option V) : Prop :=
 (∃ kvs k, Rd H a (.dK kvs) /\ y = kV k /\ r = valV kvs k) ∨ ∃ kvs k b, Rd H a (.dT kvs) /\ y = .ref b /\ H b = some (.tup (k.map kV)) /\ r = valV kvs k
def DPut (H : Hp) (a : Addr) (y v : V) (H' : Hp) : Prop :=
 (∃ kvs k, H a = some (.dK kvs) /\ y = kV k /\ kvs.length < sizeLine /\ H' = upd H a (.dK (putK kvs k v))) ∨
 ∃ kvs k b, H a = some (.dT kvs) /\ y = .ref b /\ H b = some (.tup (k.map kV)) /\ kvs.length < sizeLine /\ H' = upd H a (.dT (putK kvs k v))
theorem DGet.k {H : Hp} {a : Addr} {kvs : List (Key × V)} {k : Key} (e : H a = some (.dK kvs)) : DGet H a (kV k) (valV kvs k) := .inl ⟨kvs, k, .inl e, rfl, rfl⟩
theorem DGet.t {H : Hp} {a b : Addr} {kvs : List (List Key × V)} {k : List Key} (e : H a = some (.dT kvs)) (eb : H b = some (.tup (k.map kV))) : DGet H a (.ref b) (valV kvs k) := .inr ⟨kvs, k, b, .inl e, rfl, eb, rfl⟩
theorem DPut.k {H : Hp} {a : Addr} {kvs : List (Key × V)} {k : Key} {v : V} (e : H a = some (.dK kvs)) (hl : kvs.length < sizeLine) : DPut H a (kV k) v (upd H a (.dK (putK kvs k v))) := .inl ⟨kvs, k, e, rfl, hl, rfl⟩
theorem DPut.t {H : Hp} {a b : Addr} {kvs : List (List Key × V)} {k : List Key} {v : V} (e : H a = some (.dT kvs)) (eb : H b = some (.tup (k.map kV))) (hl : kvs.length < sizeLine) :
  DPut H a (.ref b) v (upd H a (.dT (putK kvs k v))) := .inr ⟨kvs, k, b, e, rfl, eb, hl, rfl⟩
section
variable {X : Cx} {pins : List (Addr × Obj)} {σ : St} {H : Hp} {s : Shared} {a : Addr} {y v : V} {u r : Value} {o : Option V} {A : Around} {E : Value -> Shared -> Prop}
theorem Inv.big (I : Inv X pins σ H s) : sysModules < s.heap.objs.size := by
 have h : mainGlobals < s.heap.objs.size := (I.mod.glob.keeps I.bk).lt
 exact Nat.lt_trans (by decide) h
theorem d_getItem {Q : Value -> Shared -> Prop} (hu : A.units + 1 < cLine) (I : Inv X pins σ H s) (g : DGet H a y (some v)) (ry : RelV y u) (h : ∀ w' s', Inv X pins σ H s' -> RelV v w' -> Q w' s') :
  wpAny (model X.prog X.w) A (getItem (.ref a) u) Q E s := by
 rcases g with ⟨kvs, k, e, ey, l⟩ | ⟨kvs, k, b, e, ey, eb, l⟩
 ·subst ey
  obtain ⟨z, hd, vs, rel, dd⟩ := dk_rd I.hok e
  obtain ⟨w', hw, rw'⟩ := RelO.some_of (v := v) (o := valueAt vs k) (by rw [l]; exact rel.val k)
  exact wpAny_getItem_of (kV_is ry) dd.mapOf hw (h w' _ (I.tok _) rw')
 ·subst ey
  cases (show u = Value.ref b from ry)
  obtain ⟨z, hd, xs, rel, dd⟩ := dt_rd I.hok e
  obtain ⟨w', hw, rw'⟩ := RelO.some_of (v := v) (o := (atKey xs k).map (·.2)) (by rw [l]; exact rel.val k)
  obtain ⟨p, hp, hp2⟩ := Option.map_eq_some_iff.mp hw
  refine wpAny_getItem_heap (tupleKind_room_in1 hu) (key_of I.hok eb) dd hp ?_
  rw [hp2]
  exact h w' _ (I.tok _) rw'
theorem d_in {Q : Value -> Shared -> Prop} (hu : A.units + 1 < cLine) (I : Inv X pins σ H s) (g : DGet H a y o) (ry : RelV y u) (h : ∀ s', Inv X pins σ H s' -> Q (.bool o.isSome) s') :
  wpAny (model X.prog X.w) A (compareOp .In u (.ref a)) Q E s := by
 rcases g with ⟨kvs, k, e, ey, l⟩ | ⟨kvs, k, b, e, ey, eb, l⟩
 ·subst ey
  obtain ⟨z, hd, vs, rel, dd⟩ := dk_rd I.hok e
  refine wpAny_in_of (kV_is ry) hd dd.mapOf ?_
  rw [<- (rel.val k).isSome_eq, <- l]
  exact h _ (I.tok _)
 ·subst ey
  cases (show u = Value.ref b from ry)
  obtain ⟨z, hd, xs, rel, dd⟩ := dt_rd I.hok e
  refine wpAny_in_heap (tupleKind_room_in1 hu) (key_of I.hok eb) hd dd ?_
  have q := (rel.val k).isSome_eq
  rw [Option.isSome_map] at q
  rw [<- q, <- l]
  exact h _ (I.tok _)
theorem d_notIn {Q : Value -> Shared -> Prop} (hu : A.units + 1 < cLine) (I : Inv X pins σ H s) (g : DGet H a y o) (ry : RelV y u) (h : ∀ s', Inv X pins σ H s' -> Q (.bool (!o.isSome)) s') :
  wpAny (model X.prog X.w) A (compareOp .NotIn u (.ref a)) Q E s := by
 rcases g with ⟨kvs, k, e, ey, l⟩ | ⟨kvs, k, b, e, ey, eb, l⟩
 ·subst ey
  obtain ⟨z, hd, vs, rel, dd⟩ := dk_rd I.hok e
  refine wpAny_notIn_of (kV_is ry) hd dd.mapOf ?_
  rw [<- (rel.val k).isSome_eq, <- l]
  exact h _ (I.tok _)
 ·subst ey
  cases (show u = Value.ref b from ry)
  obtain ⟨z, hd, xs, rel, dd⟩ := dt_rd I.hok e
  refine wpAny_notIn_heap (tupleKind_room_in1 hu) (key_of I.hok eb) hd dd ?_
  have q := (rel.val k).isSome_eq
  rw [Option.isSome_map] at q
  rw [<- q, <- l]
  exact h _ (I.tok _)
theorem d_write {h' : Heap} {t' : Nat} {ob : HO} (I : Inv X pins σ H s) (mu : Mut (H a)) (hs : Heap.SameBut a s.heap h') (he : ∃ q, h'.get? a = some q) (new : ObjOk X.prog X.w (upd H a ob) h' a ob) :
  Inv X pins σ (upd H a ob) { s with heap := h', toks := t' } :=
 I.write (x := a) (e := a) mu (.inl rfl) (fun b q hb z => (hs.2 b hb).trans z) he new
theorem dk_new {P : Program} {w : World} {H' : Hp} {h' : Heap} {kvs : List (Key × V)} {vs : List (Key × Value)} (z : kvs.length <= sizeLine) (hd : (a == sysModules) = false) (rel : KV kvs vs) (dd : h'.DictOf (mixKind P w) a vs) :
  ObjOk P w H' h' a (.dK kvs) := ⟨z, hd, vs, rel, dd⟩
theorem d_setItem {H' : Hp} {Q : Unit -> Shared -> Prop} (hu : A.units + 1 < cLine) (I : Inv X pins σ H s) (g : DPut H a y v H') (ry : RelV y u) (rv : RelV v r) (h : ∀ s', Inv X pins σ H' s' -> Q () s') :
  wpAny (model X.prog X.w) A (setItem (.ref a) u r) Q E s := by
 rcases g with ⟨kvs, k, e, ey, l, eH⟩ | ⟨kvs, k, b, e, ey, eb, l, eH⟩
 ·subst ey eH
  obtain ⟨z, hd, vs, rel, dd⟩ := dk_of I.hok e
  have hz : vs.length <= sizeLine := by rw [<- rel.length]; exact z
  have hl : (putK kvs k v).length <= sizeLine := by have := length_putK kvs k v; omega
  refine wpAny_setItem_pairs (hsz := hz) (kV_is ry) dd fun h' dd' hs => h _ ?_
  have he : ∃ q, h'.get? a = some q := let ⟨q, _, _, hq, _⟩ := dd'; ⟨q, hq⟩
  exact d_write I (by rw [e]; exact True.intro) hs he (dk_new hl hd (rel.put k rv) dd')
 ·subst ey eH
  cases (show u = Value.ref b from ry)
  obtain ⟨z, hd, xs, rel, dd⟩ := dt_of I.hok e
  have hz : xs.length <= sizeLine := by rw [<- Paired.length rel]; exact z
  have hl : (putK kvs k v).length <= sizeLine := by have := length_putK kvs k v; omega
  refine wpAny_setItem_heap (hsz := hz) (tupleKind_room_in1 hu) (key_of I.hok eb) dd fun h' dd' hs => h _ ?_
  obtain ⟨q, es, ep, hq, h2, h3, h4, _, h5⟩ := dd'
  refine d_write I (by rw [e]; exact True.intro) hs ⟨q, hq⟩ ⟨hl, hd, _, (rel.put k eb rv).keeps fun c ys ec => ?_, q, es, ep, hq, h2, h3, h4, h5⟩
  rw [upd_ne (ne_of ec e (fun z => nomatch z))]
  exact ec
end
section
variable {X : Cx} {pins : List (Addr × Obj)} {σ : St} {H : Hp} {s : Shared} {a : Addr} {kvs : List (Key × V)} {k : Key} {u : Value} {A : Around} {E : Value -> Shared -> Prop}
theorem d_len {Q : Value -> Shared -> Prop} (I : Inv X pins σ H s) (e : Rd H a (.dK kvs)) (h : ∀ t s', Inv X pins σ H s' -> Q (.int kvs.length t) s') : wpAny (model X.prog X.w) A (call (.builtin "len") [.ref a]) Q E s := by
 obtain ⟨z, hd, vs, rel, dd⟩ := dk_rd I.hok e
 refine call_len_dict hd dd (by rw [<- rel.length]; rw [sizeLine_eq] at z; omega) ?_
 rw [<- rel.length]
 exact h _ _ (I.tok _)
end
def NoSl (i : Expr) : Prop := ∀ ov iv, subscripted i false ov iv = operate [ov, iv] (getItem ov iv)
theorem subD_of {prog : Program} {w : World} {A : Around} {E : Value -> Shared -> Prop} {s : Shared} {env : Env} {value slice : Expr} {pos : Pos} {T id : String} {Q : Value -> Shared -> Prop}
  (hl : typeLookup (.type T) "__getitem__" = pure (some (.builtin id))) (hs : NoSl slice)
  (h : wpAny (model prog w) A (eval value env) (fun o s₁ => wpAny (model prog w) A (eval slice env) (fun i s₂ => s₂.TypeIs o T /\ wpAny (model prog w) A (getItem o i) Q E s₂) E s₁) E s) :
  wpAny (model prog w) A (eval (.Subscript value slice pos) env) Q E s := by
 refine Subscript_ (wpAny_mono h (fun o s₁ h₁ => wpAny_mono h₁ (fun i s₂ h₂ => ?_) fun _ _ x => x) fun _ _ x => x)
 obtain ⟨hT, h₂⟩ := h₂
 unfold subscriptTail
 refine wpAny_bind ?_
 rw [getitemInPython_of_ne hT.not_modules]
 refine wpAny_bind (wpAny_specialOf hT hl ?_)
 have fin : wpAny (model prog w) A (subscripted slice false o i) (fun r s₃ => wpAny (model prog w) A (letTemporaryGo value o r >>= fun _ => pure r) Q E s₃) E s₂ := by
  rw [hs o i]
  exact wpAny_operating (wpAny_mono h₂ (fun r s₃ h₃ => wpAny_bind (wpAny_letTemporaryGo (wpAny_pure h₃))) fun _ _ x => x)
 first
  | exact wpAny_pure (wpAny_bind fin)
  | exact wpAny_bind (wpAny_pure (wpAny_bind fin))
  | exact wpAny_bind fin
theorem dict_typeIs {X : Cx} {pins : List (Addr × Obj)} {σ : St} {H : Hp} {s : Shared} {a : Addr} {y : V} {o : Option V} (I : Inv X pins σ H s) (g : DGet H a y o) : s.TypeIs (.ref a) "dict" := by
 rcases g with ⟨kvs, k, e, _, _⟩ | ⟨kvs, k, b, e, _, _, _⟩
 ·obtain ⟨_, _, vs, _, dd⟩ := dk_rd I.hok e
  exact dd.typeIs
 ·obtain ⟨_, _, xs, _, dd⟩ := dt_rd I.hok e
  exact dd.typeIs
def tDGet (td ty : TE) : TE := fun σ H Q => td σ H fun x H1 => ty σ H1 fun y H2 => ∃ a v, x = .ref a /\ DGet H2 a y (some v) /\ Q v H2
def tDIn (ty td : TE) : TE := fun σ H Q => ty σ H fun y H1 => td σ H1 fun x H2 => ∃ a o, x = .ref a /\ DGet H2 a y o /\ Q (.bl o.isSome) H2
def tDNotIn (ty td : TE) : TE := fun σ H Q => ty σ H fun y H1 => td σ H1 fun x H2 => ∃ a o, x = .ref a /\ DGet H2 a y o /\ Q (.bl (!o.isSome)) H2
def sDPut (td ty tv : TE) : TS := fun D σ H => tv σ H fun v H1 => td σ H1 fun x H2 => ty σ H2 fun y H3 => ∃ a H4, x = .ref a /\ DPut H3 a y v H4 /\ D.nx σ H4
def sDAug (td ty tv : TE) (rd : V -> V -> Hp -> VK -> Prop) : TS := fun D σ H => td σ H fun x H1 => ty σ H1 fun y H2 => ∃ a v, x = .ref a /\ DGet H2 a y (some v) /\
 tv σ H2 fun y2 H3 => rd v y2 H3 fun z H4 => ∃ H5, DPut H4 a y z H5 /\ D.nx σ H5
def sDDel (td ty : TE) : TS := fun D σ H => td σ H fun x H1 => ty σ H1 fun y H2 => ∃ a kvs k, x = .ref a /\ H2 a = some (.dK kvs) /\ y = kV k /\ (valV kvs k).isSome = true /\ D.nx σ (upd H2 a (.dK (dropK kvs k)))
section
variable {X : Cx} {o i e value : Expr} {pos pos' tpos : Pos} {td ty tv : TE}
theorem pe_dget (hu : X.A.units + 1 < cLine) (ho : PE X o td) (hi : PE X i ty) (hs : NoSl i) : PE X (.Subscript o i pos) (tDGet td ty) := by
 intro pins s σ H Q I h
 refine subD_of PySem.F.slot_dict_getitem.lookup hs (thn (ho pins s σ H _ I h) fun u s1 ⟨x, H1, I1, rx, q1⟩ => thn (hi pins s1 σ H1 _ I1 q1) fun iv s2 ⟨y, H2, I2, ry, a, v, ex, g, q2⟩ => ?_)
 subst ex
 obtain rfl : u = Value.ref a := rx
 exact ⟨dict_typeIs I2 g, d_getItem hu I2 g ry fun w' s3 I3 rw' => ⟨v, H2, I3, rw', q2⟩⟩
theorem pc_din (hu : X.A.units + 1 < cLine) (hi : PE X i ty) (ho : PE X o td) : PC X .In i o (tDIn ty td) := by
 intro pins s σ H Q I h
 refine thn (hi pins s σ H _ I h) fun iv s1 ⟨y, H1, I1, ry, q1⟩ => thn (ho pins s1 σ H1 _ I1 q1) fun u s2 ⟨x, H2, I2, rx, a, ov, ex, g, q2⟩ => ?_
 subst ex
 obtain rfl : u = Value.ref a := rx
 exact d_in hu I2 g ry fun s3 I3 => ⟨.bl ov.isSome, H2, I3, rfl, q2⟩
theorem pc_dnotin (hu : X.A.units + 1 < cLine) (hi : PE X i ty) (ho : PE X o td) : PC X .NotIn i o (tDNotIn ty td) := by
 intro pins s σ H Q I h
 refine thn (hi pins s σ H _ I h) fun iv s1 ⟨y, H1, I1, ry, q1⟩ => thn (ho pins s1 σ H1 _ I1 q1) fun u s2 ⟨x, H2, I2, rx, a, ov, ex, g, q2⟩ => ?_
 subst ex
 obtain rfl : u = Value.ref a := rx
 exact d_notIn hu I2 g ry fun s3 I3 => ⟨.bl (!ov.isSome), H2, I3, rfl, q2⟩
theorem ps_dput (hu : X.A.units + 1 < cLine) (ho : PE X o td) (hi : PE X i ty) (hv : PE X value tv) (hs : swapsWith value (some (.Subscript o i pos')) pos.line X.env = pure false) :
  PS X (.Assign [.Subscript o i pos'] value pos) (sDPut td ty tv) := by
 intro pins s σ H D I h
 refine wpAny_Assign_Subscript (thn (hv pins s σ H _ I h) fun r s1 ⟨v, H1, I1, rv, q1⟩ => thn (ho pins s1 σ H1 _ I1 q1) fun u s2 ⟨x, H2, I2, rx, q2⟩ => thn (hi pins s2 σ H2 _ I2 q2) fun iv s3 ⟨y, H3, I3, ry, a, H4, ex, g, q3⟩ => ?_) hs
 subst ex
 obtain rfl : u = Value.ref a := rx
 exact d_setItem hu I3 g ry rv fun s4 I4 => ⟨σ, H4, I4, q3⟩
end
theorem dk_empty {P : Program} {w : World} {H : Hp} (h : Heap) (hb : sysModules < h.objs.size) : ObjOk P w H (h.push { cls := .type "dict", data := .dict #[] }) h.objs.size (.dK []) :=
 ⟨Nat.zero_le _, beq_eq_false_iff_ne.mpr (Ne.symm (Nat.ne_of_lt hb)), [], .nil, Heap.DictOf.new h⟩
theorem dt_empty {P : Program} {w : World} {H : Hp} (h : Heap) (hb : sysModules < h.objs.size) : ObjOk P w H (h.push { cls := .type "dict", data := .dict #[] }) h.objs.size (.dT []) :=
 ⟨Nat.zero_le _, beq_eq_false_iff_ne.mpr (Ne.symm (Nat.ne_of_lt hb)), [], .nil, _, #[], 0, Heap.get?_push_size _ rfl, ⟨rfl, rfl, rfl⟩, rfl, rfl, List.nodup_nil⟩
def tDNewK : TE := fun _ H Q => ∀ p, H p = none -> Q (.ref p) (upd H p (.dK []))
def tDNewT : TE := fun _ H Q => ∀ p, H p = none -> Q (.ref p) (upd H p (.dT []))
section
variable {X : Cx} {pos : Pos}
theorem pe_dnewK : PE X (.Dict [] [] pos) tDNewK := fun pins s σ H Q I h =>
 wpAny_Dict_empty ⟨.ref s.heap.objs.size, _, I.laid (a := s.heap.objs.size) (o := .dK []) (t' := s.toks) (fun _ _ q => Heap.get?_push_of_some _ q) (Nat.le_refl _) (dk_empty s.heap I.big), rfl, h _ (I.hok.fresh (Nat.le_refl _))⟩
theorem pe_dnewT : PE X (.Dict [] [] pos) tDNewT := fun pins s σ H Q I h =>
 wpAny_Dict_empty ⟨.ref s.heap.objs.size, _, I.laid (a := s.heap.objs.size) (o := .dT []) (t' := s.toks) (fun _ _ q => Heap.get?_push_of_some _ q) (Nat.le_refl _) (dt_empty s.heap I.big), rfl, h _ (I.hok.fresh (Nat.le_refl _))⟩
end
def tPairs : List (TE × TE) -> St -> Hp -> (List (V × V) -> Hp -> Prop) -> Prop
 | [], _, H, Q => Q [] H
 | (tk, tv) :: r, σ, H, Q => tk σ H fun x H1 => tv σ H1 fun y H2 => tPairs r σ H2 fun ps H3 => Q ((x, y) :: ps) H3
abbrev VV : List (V × V) -> List (Value × Value) -> Prop := Paired fun p q => RelV p.1 q.1 /\ RelV p.2 q.2
def PPs (X : Cx) (pos : Pos) (keys : List (Option Expr)) (values : List Expr) (trs : List (TE × TE)) : Prop :=
 ∀ (pins : List (Addr × Obj)) (s : Shared) (σ : St) (H : Hp) (Q : List (V × V) -> Hp -> Prop), Inv X pins σ H s -> tPairs trs σ H Q ->
  wpAny (model X.prog X.w) X.A (evalPairs (pairTrees keys values X.env pos)) (fun vs s' => ∃ ps H', Inv X pins σ H' s' /\ VV ps vs /\ Q ps H') X.xe s
def mergeK (kvs more : List (Key × V)) : List (Key × V) := more.foldl (fun acc kv => putK acc kv.1 kv.2) kvs
theorem length_mergeK : ∀ (more kvs : List (Key × V)), (mergeK kvs more).length <= kvs.length + more.length
 | [], kvs => by show kvs.length <= kvs.length + 0; omega
 | p :: r, kvs => by
  have h1 := length_mergeK r (putK kvs p.1 p.2)
  have h2 := length_putK kvs p.1 p.2
  show (mergeK (putK kvs p.1 p.2) r).length <= _
  rw [List.length_cons]; omega
def tDisp (trs : List (TE × TE)) : TE := fun σ H Q => ∀ p, H p = none -> tPairs trs σ (upd H p (.dK [])) fun ps H2 => H2 p = some (.dK []) /\ ∃ kvs : List (Key × V), ps = kvs.map (fun kv => (kV kv.1, kv.2)) /\ kvs.length <= 15 /\ Q (.ref p) (upd H2 p (.dK (mergeK [] kvs)))
structure M1 (X : Cx) (o : Expr) (m : Str) (apos : Pos) (e : Expr) (cpos : Pos) : Prop where
 base : attributeBase o m X.env (eval o X.env) = eval o X.env
 few : ((backTo cpos (starEach [e] X.env)).all (fun x => !x.1) && (backToKw cpos (keywordEach [] X.env)).all (fun x => x.1.isSome)
  && decide (([e] : List Expr).length + ([] : List Keyword).length + (if ([] : List Keyword).isEmpty then 0 else 1) < 30)) = true
 line : (apos.endLine == cpos.line) = true
 trees : backTo cpos (starEach [e] X.env) = [(false, eval e X.env)]
structure M2 (X : Cx) (o : Expr) (m : Str) (apos : Pos) (e f : Expr) (cpos : Pos) : Prop where
 base : attributeBase o m X.env (eval o X.env) = eval o X.env
 few : ((backTo cpos (starEach [e, f] X.env)).all (fun x => !x.1) && (backToKw cpos (keywordEach [] X.env)).all (fun x => x.1.isSome)
  && decide (([e, f] : List Expr).length + ([] : List Keyword).length + (if ([] : List Keyword).isEmpty then 0 else 1) < 30)) = true
 line : (apos.endLine == cpos.line) = true
 trees : backTo cpos (starEach [e, f] X.env) = [(false, eval e X.env), (false, eval f X.env)]
def IsD (H : Hp) (a : Addr) : Prop := (∃ kvs, Rd H a (.dK kvs)) ∨ ∃ kvs, Rd H a (.dT kvs)
theorem isD_at {X : Cx} {pins : List (Addr × Obj)} {σ : St} {H : Hp} {s : Shared} {a : Addr} (I : Inv X pins σ H s) (d : IsD H a) :
  s.TypeIs (.ref a) "dict" /\ (∀ b, Value.ref a = .ref b -> ∃ ob, s.heap.get? b = some ob /\ ob.dict = none) /\ (a == sysModules) = false := by
 rcases d with ⟨kvs, e⟩ | ⟨kvs, e⟩
 ·obtain ⟨_, hd, vs, _, dd⟩ := dk_rd I.hok e
  refine ⟨dd.typeIs, fun b q => ?_, hd⟩
  cases q
  obtain ⟨ob, _, _, h1, h2, _⟩ := dd
  exact ⟨ob, h1, h2.2.1⟩
 ·obtain ⟨_, hd, xs, _, dd⟩ := dt_rd I.hok e
  refine ⟨dd.typeIs, fun b q => ?_, hd⟩
  cases q
  obtain ⟨ob, _, _, h1, h2, _⟩ := dd
  exact ⟨ob, h1, h2.2.1⟩
section
variable {X : Cx} {pins : List (Addr × Obj)} {σ : St} {H : Hp} {s : Shared} {a : Addr} {y d : V} {u r : Value} {o : Option V} {A : Around} {E : Value -> Shared -> Prop}
theorem d_get2 {Q : Value -> Shared -> Prop} (hu : A.units + 1 < cLine) (I : Inv X pins σ H s) (g : DGet H a y o) (ry : RelV y u) (rd : RelV d r) (h : ∀ w' s', Inv X pins σ H s' -> RelV (o.getD d) w' -> Q w' s') :
  wpAny (model X.prog X.w) A (call (.builtin "dict.get") [.ref a, u, r]) Q E s := by
 rcases g with ⟨kvs, k, e, ey, l⟩ | ⟨kvs, k, b, e, ey, eb, l⟩
 ·subst ey
  obtain ⟨z, hd, vs, rel, dd⟩ := dk_rd I.hok e
  refine call_meetsIn PySem.F.slot_dict_get dd.typeIs PySem.F.entry_dict_get (PySem.F.args_dict_get_3 _ _ _) (meets_dict_get_default (mixKind X.prog X.w) a (kV_is ry) hd r) ⟨_, dd.mapOf, h _ _ (I.tok _) ?_⟩
  rw [l]
  exact (rel.val k).getD rd
 ·subst ey
  cases (show u = Value.ref b from ry)
  obtain ⟨z, hd, xs, rel, dd⟩ := dt_rd I.hok e
  refine call_meetsIn PySem.F.slot_dict_get dd.typeIs PySem.F.entry_dict_get (PySem.F.args_dict_get_3 _ _ _) (meetsH_dict_get_default (tupleKind (mixKind X.prog X.w)) a b hd r) ⟨tupleKind_room_in1 hu, k, xs, key_of I.hok eb, dd, h _ _ (I.tok _) ?_⟩
  rw [l]
  exact (rel.val k).getD rd
end
def tDGet1 (td ty : TE) : TE := fun σ H Q => td σ H fun x H1 => ∃ a, x = .ref a /\ IsD H1 a /\ ty σ H1 fun y H2 => ∃ o, DGet H2 a y o /\ Q (o.getD .non) H2
def tDGet2 (td ty tx : TE) : TE := fun σ H Q => td σ H fun x H1 => ∃ a, x = .ref a /\ IsD H1 a /\ ty σ H1 fun y H2 => tx σ H2 fun z H3 => ∃ o, DGet H3 a y o /\ Q (o.getD z) H3
def tDPop1 (td ty : TE) : TE := fun σ H Q => td σ H fun x H1 => ∃ a, x = .ref a /\ IsD H1 a /\ ty σ H1 fun y H2 => ∃ kvs k v, H2 a = some (.dK kvs) /\ y = kV k /\ valV kvs k = some v /\ Q v (upd H2 a (.dK (dropK kvs k)))
def tDPop2 (td ty tx : TE) : TE := fun σ H Q => td σ H fun x H1 => ∃ a, x = .ref a /\ IsD H1 a /\ ty σ H1 fun y H2 => tx σ H2 fun z H3 => ∃ kvs k, H3 a = some (.dK kvs) /\ y = kV k /\
 (∀ v, valV kvs k = some v -> Q v (upd H3 a (.dK (dropK kvs k)))) /\ (valV kvs k = none -> Q z H3)
section
variable {X : Cx} {o e f : Expr} {apos cpos : Pos} {td ty tx : TE}
theorem pe_dget2 (hu : X.A.units + 1 < cLine) (ho : PE X o td) (he : PE X e ty) (hf : PE X f tx) (m : M2 X o "get" apos e f cpos) : PE X (.Call (.Attribute o "get" apos) [e, f] [] cpos) (tDGet2 td ty tx) := by
 intro pins s σ H Q I h
 refine wpAny_Call_method m.base m.few m.line PySem.F.plainAttrs_dict PySem.F.slot_dict_get PySem.F.type_dict_get (thn (ho pins s σ H _ I h) fun u s1 ⟨x, H1, I1, rx, a, ex, d, q1⟩ => ?_)
 subst ex
 obtain rfl : u = Value.ref a := rx
 obtain ⟨t1, t2, _⟩ := isD_at I1 d
 refine ⟨t1, t2, ?_⟩
 rw [m.trees]
 refine Calls.callWith_builtin rfl (Calls.evalArgs_plain (Calls.spliced_cons (thn (he pins s1 σ H1 _ I1 q1) fun iv s2 ⟨y, H2, I2, ry, q2⟩ =>
  Calls.spliced_cons (thn (hf pins s2 σ H2 _ I2 q2) fun fv s3 ⟨z, H3, I3, rz, ov, g, q3⟩ => Calls.spliced_nil ?_))))
 exact d_get2 hu I3 g ry rz fun w' s4 I4 rw' => ⟨_, H3, I4, rw', q3⟩
end
section
variable {X : Cx} {pins : List (Addr × Obj)} {σ : St} {H : Hp} {s : Shared} {a : Addr} {kvs : List (Key × V)} {A : Around} {E : Value -> Shared -> Prop}
theorem d_copyOf {Q : Value -> Shared -> Prop} (I : Inv X pins σ H s) (e : Rd H a (.dK kvs)) (h : ∀ p s', H p = none -> Inv X pins σ (upd H p (.dK kvs)) s' -> Q (.ref p) s') : wpAny (model X.prog X.w) A (call (.type "dict") [.ref a]) Q E s := by
 obtain ⟨z, hd, vs, rel, dd⟩ := dk_rd I.hok e
 refine kt_call_dict hd dd (by rw [<- rel.length]; exact z) fun h' dd' hs => ?_
 refine h _ _ (I.hok.fresh (Nat.le_refl _)) (I.laid (a := s.heap.objs.size) (o := .dK kvs) (t' := s.toks) (fun b q hq => ?_) (Nat.le_refl _) (dk_new z (beq_eq_false_iff_ne.mpr (Ne.symm (Nat.ne_of_lt I.big))) rel dd'))
 exact (hs.2 b (Nat.ne_of_lt (Heap.lt_size hq))).trans (Heap.get?_push_of_some _ hq)
end
section
variable {X : Cx} {pins : List (Addr × Obj)} {σ : St} {H : Hp} {s : Shared} {a : Addr} {y : V} {u : Value} {A : Around} {E : Value -> Shared -> Prop}
end
end L2
namespace Att
open PySem PySem.W PySem.Calls PyProof.Rows
theorem ints_of_wellAll {P : Params} {h : Heap} : ∀ (ns : List Int) (vs : List Value), WellAll P h vs (ns.map WData.int) -> IntsAre vs ns := by
 intro ns
 induction ns with
 | nil =>
  intro vs w
  rw [List.map_nil] at w
  cases w
  exact .nil
 | cons n ns ih =>
  intro vs w
  rw [List.map_cons] at w
  cases w with
  | cons a b =>
   cases a
   exact .cons _ _ (ih _ b)
theorem script_of {l : OpenLaw} {n : Nat} (hn : l.most = some n) {P : Params} {h : Heap} {args : List WData} {vals : List Value}
  (hpre : l.row.toRowW.claim.pre args = true) (hwl : WellAll P h vals args) :
  ∃ a vs ns, vals = [Value.ref a] /\ args = [WData.list (ns.map WData.int)] /\ h.get? a = some { cls := .type "list", data := .seq vs.toArray } /\ IntsAre vs ns /\ ns.length <= n := by
 have hsh : WShape.hasAll [] args [.list .int] = true := (pre_splitW hpre).1
 have hc : l.pre.holds [] { args := args } = true := (pre_splitW hpre).2
 obtain ⟨d, r, rfl, h1, h2⟩ := hasAllW_cons hsh
 obtain rfl := hasAllW_nil h2
 obtain ⟨xs, rfl, h3⟩ := hasW_list h1
 obtain ⟨ns, rfl⟩ := items_int h3
 have hlen : ns.length <= n := by
  unfold OpenLaw.pre at hc
  have h4 : (WTm.not (.lt (.lit (.int (n : Int))) (.len (.arg 0)))).holds [] { args := [.list (ns.map .int)] } = true := by
   have h4 := (holds_andW hc).1
   rw [hn] at h4
   exact h4
  have h5 := condW_of h4 (w_not (w_lt w_lit (w_len_list (w_arg rfl))))
  rw [List.length_map] at h5
  refine Nat.le_of_not_lt fun q => ?_
  have q' : (n : Int) < ((ns.length : Nat) : Int) := by omega
  first
   | (rw [decide_eq_true q'] at h5; exact absurd h5 (by decide))
   | (simp at h5; omega)
 cases hwl with
 | cons w1 w2 =>
  cases w2
  cases w1 with
  | list ho hall => exact ⟨_, _, ns, rfl, rfl, ho, ints_of_wellAll ns _ hall, hlen⟩
theorem post_true (l : OpenLaw) (args : List WData) : l.row.toRowW.claim.post args (.bool true) args = true :=
 postW_of (r := l.row.toRowW) (X := (true == true))
  (show WShape.has [] (.bool true) .bool = true by first | rfl | decide | simp [WShape.has, WShape.arms, WShape.armsAll])
  (show (WTm.eq .res (.lit (.bool true))).value [] { args := args, res := some (.bool true), after := args } = some (.bool (true == true)) from w_eq_bool (w_res rfl) w_lit) rfl
theorem attach_call {l : OpenLaw} {n : Nat} {q : Program} {loose : List Str} {XP : (Str -> Option Value) -> Heap -> Prop} {YP : World -> Heap -> Prop} {d : DefRec}
  (hn : l.most = some n) (hdf : d.params.defaults = [])
  (call : ∀ (w : World) (s₀ s₁ : Shared) (mg mb : Str -> Option Value) (fa : Addr) (o : Obj) (pm cd doc : Value) (a : Addr) (vs : List Value) (ns : List Int),
   Ground q loose [] XP w s₀ mg mb s₁.heap -> YP w s₁.heap ->
   s₁.heap.get? fa = some o -> o.data = .func (docDef d.name d.params d.body d.scope pm cd doc) -> s₁.heap.CodeRec cd d.name -> mg d.name = some (.ref fa) ->
   s₁.heap.get? a = some { cls := .type "list", data := .seq vs.toArray } -> IntsAre vs ns -> ns.length <= n -> s₁.gens = #[] ->
   codeAny (model l.prog w) callerA (.call (.ref fa) ⟨[.ref a], []⟩) (fun r s' => r = .ok (.ret (.bool true)) /\ OldK s₁.heap s'.heap /\ s'.os = s₁.os /\ AllBare s'.gens) s₁) :
  WalkO q loose XP YP l.row.toRowW d [] (fun f vs => PySem.call f vs) := by
 intro w s₀ s₁ mg mb G Y fa o pm cd doc dV kV ho hd hcd hD hmg hg args vals as hpre hlay hrd hwl hlo
 obtain rfl : dV = .none := Dflts.none hD hdf
 obtain rfl : kV = .none := Dflts.noKw hD
 obtain ⟨a, vs, ns, rfl, rfl, hobj, hints, hlen⟩ := script_of hn hpre hwl
 refine enter_call (codeAny_mono (call w s₀ s₁ mg mb fa o pm cd doc a vs ns G Y ho (fd_plain hd) hcd hmg hobj hints hlen hg) fun r s' hq => ?_)
 obtain ⟨rfl, h2, h3, h4⟩ := hq
 exact ⟨.inl ⟨.bool true, .bool true, [], rfl, fun _ => rfl, .bool true, post_true l _, fun _ => ⟨List.Pairwise.nil, fun _ hm => (nomatch hm)⟩⟩, h2, h3, h4⟩
section
variable {prog : Program} {w : World} {A : Around} {E : Value -> Shared -> Prop} {s : Shared} {K : Frag}
def noObjs (h : Heap) : Heap := { h with objs := #[] }
def ledger (h : Heap) (L d : Addr) : List (Addr × Obj) := (List.range h.objs.size).filterMap fun a => if a = L ∨ a = d then none else (h.get? a).map fun o => (a, o)
end
end Att
namespace L2
open PySem PySem.Spec PyProof.Rows
theorem vals_ints : ∀ {vs : List Value} {ns : List Int}, IntsAre vs ns -> Vals (ns.map V.int) vs
 | _, _, .nil => .nil
 | _, _, .cons n t h => .cons ⟨t, rfl⟩ (vals_ints h)
def Only (H : Hp) : Prop := ∀ b, H b = none ∨ ∃ o xs, H b = some (.frz o (.lst xs))
theorem law_call {P : Program} {w : World} {K : PySem.W.Frag} {mg mb : Str -> Option Value} {CX : CXT} {k : Nat} {fa a : Addr} {fd : FuncData} {x : Str} {sp : Sp} {s₁ : Shared} {vs : List Value} {ns : List Int}
  (KX : K.In s₁.heap) (hns : s₁.heap.Ns mainGlobals mg) (hb : s₁.heap.Ns builtinsNs mb) (hbb : ∀ x : Str, x ≠ "__name__" -> mb x = bootBuiltins x) (hlim : s₁.heap.NoLimit) (hg : s₁.gens = #[])
  (ha : s₁.heap.get? a = some { cls := .type "list", data := .seq vs.toArray }) (hi : IntsAre vs ns) (hl : ns.length <= sizeLine) (hr : Room k callerA)
  (F : ∀ base : Heap, K.In base -> base.Ns mainGlobals mg -> FnOk P w K mg base CX k fa fd [x] sp) (hbind : ∀ (s : Shared) (u : Value), BindsTo s fd ⟨[u], []⟩ [(x, u)])
  (hsp : ∀ H : Hp, Only H -> SqL K H a (ns.map V.int) -> sp [.ref a] H (fun v _ => v = .bl true) fun _ _ _ => False)
  (hCX : ∀ H e s', CX [] H s₁ (fun _ _ _ => False) e s' -> False) :
  codeAny (model P w) callerA (.call (.ref fa) ⟨[.ref a], []⟩) (fun r s' => r = .ok (.ret (.bool true)) /\ OldK s₁.heap s'.heap /\ s'.os = s₁.os /\ AllBare s'.gens) s₁ := by
 have rv := vals_ints hi
 have lenV := hi.length
 have core : ∀ H : Hp, Only H -> SqL K H a (ns.map V.int) -> HOk P w H s₁.heap -> (∀ b, H b ≠ none -> b = a) -> (H a ≠ none -> K.lookup a = none) ->
   codeAny (model P w) callerA (.call (.ref fa) ⟨[.ref a], []⟩) (fun r s' => r = .ok (.ret (.bool true)) /\ OldK s₁.heap s'.heap /\ s'.os = s₁.os /\ AllBare s'.gens) s₁ := by
  intro H hO hS hok hA hK
  have base_of : ∀ {b : Addr} {o : Obj}, s₁.heap.get? b = some o -> H b = none -> (hidT s₁.heap H).get? b = some o := fun e n => hidT_get e n
  have noA : ∀ {b : Addr} {o : Obj} {es : Array DictEntry} {ep : Nat}, s₁.heap.get? b = some o -> o.data = .dict es ep -> H b = none := fun {b o es ep} e d => by
   cases q : H b with
   | none => rfl
   | some u =>
    have e' : b = a := hA b (by rw [q]; simp)
    subst e'
    rw [ha] at e; cases e
    have d' : Data.seq vs.toArray _ = Data.dict es ep := d
    cases d'
  have nsK : ∀ {b : Addr} {m : Str -> Option Value}, s₁.heap.Ns b m -> (hidT s₁.heap H).Ns b m := fun {b m} ⟨o, es, ep, e, d, r⟩ => ⟨o, es, ep, base_of e (noA e d), d, r⟩
  have hKb : K.In (hidT s₁.heap H) := fun b o e => base_of (KX b o e) (by
   cases q : H b with
   | none => rfl
   | some u =>
    have e' : b = a := hA b (by rw [q]; simp)
    subst e'
    rw [hK (by rw [q]; simp)] at e; cases e)
  have hM : Mod K mg (hidT s₁.heap H) := ⟨hKb, nsK hns, ⟨mb, nsK hb, hbb⟩, let ⟨mc, h1, h2⟩ := hlim; ⟨mc, nsK h1, h2⟩⟩
  have e0 : Env0 P w K mg (hidT s₁.heap H) callerA [] s₁ H := ⟨rfl, hM, fun b o e => of_hidT e, Nat.le_of_eq (hidT_size _ _), trivial, fun b hb => absurd (show b ∈ ([] : List Addr) from hb) (by simp), hok, .of_eq hg⟩
  refine codeAny_mono ((F _ hKb (nsK hns)).run callerA [] s₁ H ⟨[.ref a], []⟩ [.ref a] [.ref a] _ _ hr e0 (hbind s₁ (.ref a)) (.cons rfl .nil) (hsp H hO hS)) fun r s' h => ?_
  cases r with
  | error e => exact (hCX H e s' h).elim
  | ok fl =>
   cases fl with
   | next => exact False.elim h
   | brk => exact False.elim h
   | cont => exact False.elim h
   | ret u =>
    obtain ⟨v, H', os, bare, un, hok', r', q⟩ := h
    have q' : v = .bl true := q
    subst q'
    obtain rfl : u = Value.bool true := r'
    refine ⟨rfl, OldK.of_keep fun b o e => ?_, os, bare⟩
    cases q : H b with
    | none => exact un.keep b o e q (by intro z; exact absurd (show b ∈ ([] : List Addr) from z) (by simp)) (by simp)
    | some u =>
     rcases hO b with z | ⟨ob, xs, z⟩
     ·rw [q] at z; cases z
     ·have z2 := un.frzs b ob _ z
      obtain ⟨e1, _⟩ := hok b _ z
      obtain ⟨e2, _⟩ := hok' b _ z2
      rw [e] at e1; cases e1
      exact e2
 cases hk : K.lookup a with
 | some o =>
  have e := KX a o hk
  rw [ha] at e
  cases e
  refine core (fun _ => none) (fun _ => .inl rfl) (.inr ⟨_, vs.toArray, _, hk, rfl, rfl, rfl, by rw [List.size_toArray, lenV]; exact hl, by simpa using rv⟩) (fun b u z => by have z' : (none : Option HO) = some u := z; cases z') (fun b z => absurd rfl z) fun z => absurd rfl z
 | none =>
  refine core (fun b => if b = a then some (.frz { cls := .type "list", data := .seq vs.toArray } (.lst (ns.map V.int))) else none) (fun b => ?_) (.inl (.inr ⟨{ cls := .type "list", data := .seq vs.toArray }, if_pos rfl⟩)) (fun b u z => ?_) (fun b z => ?_) fun _ => hk
  ·by_cases hb : b = a
   ·exact .inr ⟨_, _, if_pos hb⟩
   ·exact .inl (if_neg hb)
  ·by_cases hb : b = a
   ·have z' := (if_pos hb).symm.trans z
    cases z'
    subst hb
    exact ⟨ha, by rw [List.length_map]; exact hl, vs, _, rv, ha⟩
   ·have z' := (if_neg hb).symm.trans z
    cases z'
  ·by_cases hb : b = a
   ·exact hb
   ·exact absurd (if_neg hb) z
end L2
namespace L2
open PySem PySem.Spec PyProof.Rows
abbrev KOf {K : PySem.W.Frag} {h : Heap} (_ : K.In h) : PySem.W.Frag := K
theorem walk_of {l : PySem.W.OpenLaw} {n k : Nat} {q : Program} {loose : List Str} {XP : (Str -> Option Value) -> Heap -> Prop} {YP : World -> Heap -> Prop} {d : DefRec} {K : Params -> PySem.W.Frag} {CX : World -> CXT} {sp : World -> Sp} {x : Str}
  (hn : l.most = some n) (hn2 : n <= sizeLine) (hdf : d.params.defaults = []) (hr : Room k callerA)
  (hY : ∀ (w : World) (h : Heap), YP w h -> (K w.params).In h)
  (F : ∀ (w : World) (mg : Str -> Option Value) (fa : Addr) (h : Heap), (K w.params).In h -> h.Ns mainGlobals mg -> mg d.name = some (.ref fa) ->
   ∃ fd : FuncData, (∀ (s : Shared) (u : Value), BindsTo s fd ⟨[u], []⟩ [(x, u)]) /\
    ∀ base : Heap, (K w.params).In base -> base.Ns mainGlobals mg -> FnOk l.prog w (K w.params) mg base (CX w) k fa fd [x] (sp w))
  (hsp : ∀ (w : World) (H : Hp) (a : Addr) (ns : List Int), ns.length <= n -> Only H -> SqL (K w.params) H a (ns.map V.int) -> sp w [.ref a] H (fun v _ => v = .bl true) fun _ _ _ => False)
  (hCX : ∀ (w : World) (H : Hp) (s : Shared) (e : Value) (s' : Shared), CX w [] H s (fun _ _ _ => False) e s' -> False) :
  PySem.W.WalkO q loose XP YP l.row.toRowW d [] (fun f vs => PySem.call f vs) := by
 refine Att.attach_call hn hdf fun w s₀ s₁ mg mb fa o pm cd doc a vs ns G Y ho hd hcd hmg hobj hints hlen hg => ?_
 have KX := hY w _ Y
 obtain ⟨fd, hb, hF⟩ := F w mg fa _ KX G.T.g hmg
 exact law_call KX G.T.g G.T.b G.T.builtins G.T.nolimit hg hobj hints (Nat.le_trans hlen hn2) hr hF hb (fun H hO hS => hsp w H a ns hlen hO hS) fun H e s' => hCX w H s₁ e s'
end L2
/- THE LAST THEOREM (shape; LID, My.* are yours):
  My.Adr: a structure of the addresses that your layer names (classes, functions); My.Txt K t: a structure (Prop) of the equations over K;
  My.txt_mk : {K} {implicit addresses ..} (e1 : nsIn K mainGlobals "law" = some (some (.ref f))) (e2 : K.lookup f = some ⟨oc, od, .func (fnOf "law" "law" params body scope dV kV doc pm an cdv ct), sl⟩) (e3 : codeIn K cdv "law" = true) .. : ∃ t, My.Txt K t
set_option maxRecDepth 100000 in
set_option maxHeartbeats 0 in
theorem PySem.Challenge.cw_LID_holds : PySem.Challenge.rw_LID.Holds := by
 w_on; o_law; k_head; (case hw => w_witness2)
 k_fill
 refine L2.walk_of (l := PySem.Challenge.rw_LID) (n := 63) (k := 40) (x := "script") (CX := fun w => ..) (sp := fun _ => My.sp_law) rfl (by decide) rfl ⟨rfl, by decide, by decide⟩ (fun w h Y => PySem.W.kIn_of Y) ?F ?S ?C
 case F =>
  intro w mg fa h KX G hmg
  have T : ∃ t, My.Txt (L2.KOf KX) t := by
   dsimp only [L2.KOf]                          -- K must stand as «<heap const> w.params» for k_is
   refine' My.txt_mk ?e1 ?e2 ?e3 ..
   (case e1 => PySem.W.k_is)                    -- in the order: a name -> its address -> its object -> its parts
   (case e2 => PySem.W.k_is)
   ..
  obtain ⟨t, T⟩ := T
  have e0 := hmg.symm.trans (PySem.W.mg_of KX G T.law)
  cases e0                                       -- fa is the law's own address
  exact ⟨_, fun s u => .of_eq rfl, fun base kb nb => My.law_fn T kb nb⟩     -- if «.of_eq rfl» comes too early: refine' ⟨_, ?b, fun base kb nb => My.law_fn T kb nb⟩; exact fun s u => .of_eq rfl
 case S => exact fun w H a ns hl hO hS => ..
 case C => exact ..
(the tactic k_is has no namespace: write k_is) -/
namespace L2
open PySem PySem.Spec PyProof.Rows
def inClass (s : Stmt) (j : Nat) : Stmt := match s with
 | .ClassDef _ _ _ body _ _ _ _ _ _ _ => body.getD j (.Pass ⟨0, 0, 0, 0⟩)
 | _ => .Pass ⟨0, 0, 0, 0⟩
def defArgs (s : Stmt) : Arguments := match s with
 | .FunctionDef _ a _ _ _ _ _ _ _ _ => a
 | _ => { posonlyargs := [], args := [], vararg := none, kwonlyargs := [], kw_defaults := [], kwarg := none, defaults := [] }
def defBody (s : Stmt) : List Stmt := match s with
 | .FunctionDef _ _ b _ _ _ _ _ _ _ => b
 | _ => []
def defScope (s : Stmt) : Scope := match s with
 | .FunctionDef _ _ _ _ _ _ sc _ _ _ => sc
 | _ => { kind := .function, names := [], isGenerator := false, isCoroutine := false }
abbrev CX0 : CXT := fun _ _ _ _ _ _ => False
abbrev E0 : XK := fun _ _ _ => False
theorem pass0 {X : Cx} : Passes CX0 X E0 := fun _ _ _ _ _ _ _ h => h.elim
structure Fun (K : PySem.W.Frag) (x qual : Str) (st : Stmt) (f : Addr) (fd : FuncData) : Prop where
 ex : ∃ (oc : Value) (od : Option Addr) (kV doc pm : Value) (an : Option Addr) (cdv ct : Value) (osl : Array (Option Value)),
  fd = PySem.W.fnOf x qual (defArgs st) (defBody st) (defScope st) .none kV doc pm an cdv ct /\ K.lookup f = some ⟨oc, od, .func fd, osl⟩ /\ PySem.W.codeIn K cdv qual = true
 kp : PySem.W.keepIn K (.ref f) = true
section
variable {P : Program} {w : World} {K : PySem.W.Frag} {mg : Str -> Option Value} {base : Heap}
theorem Fun.ok {x qual : Str} {st : Stmt} {f : Addr} {fd : FuncData} {N ps : List Str} {k : Nat} {sp : Sp} (F : Fun K x qual st f fd) (S : FnScope N ps (defScope st)) (len : ∀ vs H Q E, sp vs H Q E -> vs.length = ps.length)
  (hbody : ∀ (cdv : Value) (A : Around) (outer : List Env) (s : Shared) (H : Hp) (vs : List V) (Q : VK) (E : XK), Room k (A.deeper (envOfC qual (defScope st) s.heap.objs.size f cdv)) -> sp vs H Q E ->
   ∃ t, PSs (cxOf CX0 P w K mg base N qual (defScope st) f cdv A outer s H E).nox (defBody st) t /\ t { nx := fun _ H' => Q .non H', rt := Q } (start N vs) H) : FnOk P w K mg base CX0 (k + 1) f fd ps sp := by
 obtain ⟨oc, od, kV, doc, pm, an, cdv, ct, osl, rfl, lk, hcd⟩ := F.ex
 refine fn_of lk hcd S len fun A outer s H vs Q E hr hsp => ?_
 obtain ⟨t, h, q⟩ := hbody cdv A outer s H vs Q E hr hsp
 exact ⟨t, h.nox, q⟩
theorem Fun.binds {x qual : Str} {st : Stmt} {f : Addr} {fd : FuncData} {ps : List Str} (F : Fun K x qual st f fd)
  (h : ∀ (kV doc pm : Value) (an : Option Addr) (cdv ct : Value) (us : List Value), us.length = ps.length -> bindArgs (PySem.W.fnOf x qual (defArgs st) (defBody st) (defScope st) .none kV doc pm an cdv ct) ⟨us, []⟩ = pure (ps.zip us)) : Binds K fd ps [] := by
 obtain ⟨oc, od, kV, doc, pm, an, cdv, ct, osl, rfl, lk, hcd⟩ := F.ex
 exact .all (h kV doc pm an cdv ct)
theorem fun_mk {x qual : Str} {st : Stmt} {f : Addr} {oc : Value} {od an : Option Addr} {osl : Array (Option Value)} {kV doc pm cdv ct : Value} (l : K.lookup f = some ⟨oc, od, .func (PySem.W.fnOf x qual (defArgs st) (defBody st) (defScope st) .none kV doc pm an cdv ct), osl⟩)
  (c : PySem.W.codeIn K cdv qual = true) (k : PySem.W.keepIn K (.ref f) = true) : Fun K x qual st f (PySem.W.fnOf x qual (defArgs st) (defBody st) (defScope st) .none kV doc pm an cdv ct) := ⟨⟨oc, od, kV, doc, pm, an, cdv, ct, osl, rfl, l, c⟩, k⟩
end
theorem hu_of {A : Around} {k : Nat} (hr : Room k A) : A.units + 1 < cLine := Nat.lt_of_le_of_lt (Nat.add_le_add_left (by decide : 1 <= 64) _) hr.units
section
variable {X : Cx}
theorem pv (i : Nat) {x : Str} {pos : Pos} (hN : X.N[i]? = some x := by rfl) (hv : Vis X.env.scope x := by first | exact Or.inl rfl | exact Or.inr (Or.inl rfl) | exact Or.inr (Or.inr rfl)) (hd : (x == ("__debug__" : Str)) = false := by decide)
  (hcd : (x == ("__classdict__" : Str)) = false := by decide) : PE X (.Name x pos) (tVar i) := pe_var hN hv hd hcd
theorem call_lenD : CallR X (.builtin "len") (fun xs H Q => ∃ a kvs, xs = [V.ref a] /\ H a = some (.dK kvs) /\ Q (.int kvs.length) H) := by
 intro pins s σ H xs us Q I r h
 obtain ⟨a, kvs, rfl, ha, q⟩ := h
 obtain ⟨u, rfl, ru⟩ := vals1 r
 cases ru
 exact d_len I (.inl ha) fun t s' I' => ⟨.int kvs.length, H, I', ⟨t, rfl⟩, q⟩
end
theorem iteF {A B : Prop} (h : B) : if false = true then A else B := by
 rw [if_neg Bool.false_ne_true]
 exact h
theorem iteT {A B : Prop} (h : A) : if true = true then A else B := by
 rw [if_pos rfl]
 exact h
theorem ite2 {c A B : Prop} [Decidable c] (h1 : c -> A) (h2 : ¬ c -> B) : if c then A else B := by
 by_cases h : c
 ·rw [if_pos h]
  exact h1 h
 ·rw [if_neg h]
  exact h2 h
theorem iteNS {c A B : Prop} [Decidable c] (hc : c) (h : B) : if (!decide c) = true then A else B := by
 rw [decide_eq_true hc]
 exact iteF h
def Same (H H' : Hp) : Prop := ∀ b o, H b = some o -> H' b = some o
theorem Same.refl (H : Hp) : Same H H := fun _ _ h => h
theorem Same.trans {H H1 H2 : Hp} (a : Same H H1) (b : Same H1 H2) : Same H H2 := fun c o h => b c o (a c o h)
theorem Same.free {H H' : Hp} (e : Same H H') {l : Addr} (h : H' l = Option.none) : H l = Option.none := by
 cases q : H l with
 | none => rfl
 | some o =>
  rw [e l o q] at h
  cases h
theorem Same.seq {K : PySem.W.Frag} {H H' : Hp} {a : Addr} {xs : List V} (e : Same H H') (h : SqL K H a xs) : SqL K H' a xs := by
 rcases h with (h | ⟨o, h⟩) | h
 ·exact .inl (.inl (e _ _ h))
 ·exact .inl (.inr ⟨o, e _ _ h⟩)
 ·exact .inr h
section
variable {κ : Type} [DecidableEq κ]
theorem valV_in {kvs : List (κ × V)} {k : κ} {v : V} (h : valV kvs k = some v) : k ∈ kvs.map (·.1) := by
 have q : (kvs.any fun kv => decide (kv.1 = k)) = true := by
  rw [valV_any, h]
  all_goals rfl
 obtain ⟨p, hp, e⟩ := List.any_eq_true.mp q
 exact List.mem_map.mpr ⟨p, hp, of_decide_eq_true e⟩
theorem nd_snoc : ∀ {l : List κ} {k : κ}, l.Nodup -> ¬ k ∈ l -> (l ++ [k]).Nodup
 | [], k, _, _ => by simp
 | a :: r, k, h, hk => by
  obtain ⟨h1, h2⟩ := List.nodup_cons.mp h
  show (a :: (r ++ [k])).Nodup
  refine List.nodup_cons.mpr ⟨fun m => ?_, nd_snoc h2 fun m => hk (List.mem_cons.mpr (Or.inr m))⟩
  rcases List.mem_append.mp m with q | q
  ·exact h1 q
  ·exact hk (List.mem_cons.mpr (Or.inl (List.mem_singleton.mp q).symm))
end
end L2
set_option Elab.async false
set_option linter.all false
set_option maxRecDepth 100000
namespace L2
open PySem PySem.Spec PyProof.Rows
def closOf (env : Env) : List (Str × NameKind) -> List (Str × Addr) -> List (Str × Addr)
 | [], cs => cs
 | (n, k) :: r, cs => closOf env r (if k == .free then (n, (env.cells.lookup n).getD 0) :: cs else cs)
theorem closureFor_go {env : Env} (f : Str × NameKind -> List (Str × Addr) -> Sem (ForInStep (List (Str × Addr))))
  (hf : ∀ n k cs, f (n, k) cs = if (k == .free) = true then (do let a <- cellOf env n; pure (.yield ((n, a) :: cs))) else pure (.yield cs)) :
  ∀ (names : List (Str × NameKind)) (cs : List (Str × Addr)), (∀ x ∈ names, x.2 = .free -> ∃ c, env.cells.lookup x.1 = some c) -> forIn names cs f = (pure (closOf env names cs) : Sem _)
 | [], cs, _ => by rw [List.forIn_nil]; rfl
 | (n, k) :: r, cs, h => by
  rw [List.forIn_cons, hf]
  have hr : ∀ x ∈ r, x.2 = .free -> ∃ c, env.cells.lookup x.1 = some c := fun x hx => h x (List.mem_cons_of_mem _ hx)
  unfold closOf
  by_cases hk : (k == NameKind.free) = true
  ·obtain ⟨c, hc⟩ := h (n, k) List.mem_cons_self (by simpa using hk)
   have hc : env.cells.lookup n = some c := hc
   rw [if_pos hk, if_pos hk]
   have e : cellOf env n = pure c := by unfold cellOf; rw [hc]
   rw [e]
   simp only [pure_bind]
   rw [closureFor_go f hf r _ hr, hc]
   rfl
  ·rw [if_neg hk, if_neg hk]
   simp only [pure_bind]
   exact closureFor_go f hf r _ hr
theorem closureFor_eq {scope : Scope} {env : Env} (h : ∀ x ∈ scope.names, x.2 = .free -> ∃ c, env.cells.lookup x.1 = some c) : closureFor scope env = pure (closOf env scope.names []) := by
 simp only [closureFor]
 rw [closureFor_go (env := env) _ (fun n k cs => by by_cases hk : (k == NameKind.free) = true <;> simp [hk]) scope.names [] h]
 simp only [pure_bind]
theorem mem_closOf {env : Env} : ∀ {names : List (Str × NameKind)} {cs : List (Str × Addr)} {x : Str} {c : Addr}, (x, c) ∈ closOf env names cs -> (x, c) ∈ cs ∨ ((x, NameKind.free) ∈ names /\ c = (env.cells.lookup x).getD 0)
 | [], cs, x, c, h => .inl h
 | (n, k) :: r, cs, x, c, h => by
  unfold closOf at h
  rcases mem_closOf h with h | ⟨h, e⟩
  ·by_cases hk : (k == NameKind.free) = true
   ·rw [if_pos hk] at h
    rcases List.mem_cons.mp h with q | q
    ·cases q
     have : k = .free := by simpa using hk
     subst this
     exact .inr ⟨List.mem_cons_self, rfl⟩
    ·exact .inl q
   ·rw [if_neg hk] at h
    exact .inl h
  ·exact .inr ⟨List.mem_cons_of_mem _ h, e⟩
theorem closOf_has {env : Env} : ∀ {names : List (Str × NameKind)} {cs : List (Str × Addr)} {x : Str}, (x, NameKind.free) ∈ names ∨ (∃ c, (x, c) ∈ cs) -> ∃ c, (x, c) ∈ closOf env names cs
 | [], cs, x, h => by
  rcases h with h | h
  ·cases h
  ·exact h
 | (n, k) :: r, cs, x, h => by
  unfold closOf
  refine closOf_has ?_
  rcases h with h | ⟨c, h⟩
  ·rcases List.mem_cons.mp h with e | h
   ·cases e
    exact .inr ⟨(env.cells.lookup n).getD 0, by rw [if_pos (by decide)]; exact List.mem_cons_self⟩
   ·exact .inl h
  ·refine .inr ⟨c, ?_⟩
   split
   ·exact List.mem_cons_of_mem _ h
   ·exact h
theorem cellsFrom_app : ∀ (names : List (Str × NameKind)) (n : Nat) (acc cl : List (Str × Addr)), cellsFrom n names (acc ++ cl) = cellsFrom n names acc ++ cl
 | [], _, _, _ => rfl
 | (x, k) :: r, n, acc, cl => by
  unfold cellsFrom
  split
  ·exact cellsFrom_app r (n + 1) ((x, n) :: acc) cl
  ·exact cellsFrom_app r n acc cl
theorem mem_cellsFrom : ∀ {names : List (Str × NameKind)} {n : Nat} {acc : List (Str × Addr)} {x : Str} {c : Addr}, (x, c) ∈ cellsFrom n names acc -> (x, c) ∈ acc ∨ (x, NameKind.cell) ∈ names
 | [], _, _, _, _, h => .inl h
 | (y, k) :: r, n, acc, x, c, h => by
  unfold cellsFrom at h
  by_cases hk : (k == NameKind.cell) = true
  ·rw [if_pos hk] at h
   rcases mem_cellsFrom h with h | h
   ·rcases List.mem_cons.mp h with e | h
    ·cases e
     have : k = .cell := by simpa using hk
     subst this
     exact .inr List.mem_cons_self
    ·exact .inl h
   ·exact .inr (List.mem_cons_of_mem _ h)
  ·rw [if_neg hk] at h
   rcases mem_cellsFrom h with h | h
   ·exact .inl h
   ·exact .inr (List.mem_cons_of_mem _ h)
theorem lookup_of_mem {α : Type} : ∀ {l : List (Str × α)} {x : Str} {c : α}, (x, c) ∈ l -> ∃ c', l.lookup x = some c'
 | (k, v) :: r, x, c, h => by
  rw [List.lookup_cons]
  cases hb : x == k with
  | true => exact ⟨v, rfl⟩
  | false =>
   rcases List.mem_cons.mp h with e | h
   ·cases e
    simp at hb
   ·exact lookup_of_mem h
def cpEnv (scope : Scope) (C : Addr) (env : Env) : Env :=
 { scope := relabel scope env, locals := C, globals := env.globals, cells := cellsFrom (C + 1) scope.names (closOf env scope.names []), qual := env.qual, func := none, code := env.code, frame := env.frame, builtins := env.builtins }
theorem newEnv_comp {M : Model} {A : Around} {E : Value -> Shared -> Prop} {s : Shared} {scope : Scope} {cl : List (Str × Addr)} {env : Env} {Q : Env -> Shared -> Prop}
  (h : Q { scope := scope, locals := s.heap.objs.size, globals := env.globals, cells := cellsFrom (s.heap.objs.size + 1) scope.names cl, qual := env.qual, func := none, code := env.code, frame := env.frame, builtins := env.builtins }
   { s with heap := pushCells (s.heap.push { cls := .type "dict", data := .dict #[] }) scope.names }) :
  wpAny M A (newFunctionEnv scope env.globals cl [] env.qual none .none (some env)) Q E s := by
 simp only [newFunctionEnv, Option.isSome_some, if_true]
 refine wpAny_bind (wpAny_alloc ?_)
 refine wpAny_bind (wpAny_layCells _ (fun name kind cells => by cases hkc : kind == NameKind.cell <;> simp [hkc]) _ _ _ _ ?_)
 rw [show ({ s with heap := s.heap.push { cls := .type "dict", data := .dict #[] } } : Shared).heap.objs.size = s.heap.objs.size + 1 from Heap.size_push ..]
 rw [List.forIn_nil]
 exact wpAny_bind (wpAny_pure (wpAny_pure h))
def cpCheck (PN : List Str) (ps : Scope) (N : List Str) (own : Nat) (fr : List Nat) (scope : Scope) : Bool :=
 decide (scope.kind = .function) && decide N.Nodup && decide (own + fr.length = N.length)
 && (scope.names.all fun y => decide (scope.names.lookup y.1 = some y.2))
 && (scope.names.all fun y => if y.2 = .free then decide (ps.names.lookup y.1 = some .cell) || decide (ps.names.lookup y.1 = some .free) else true)
 && ((fr.map fun j => PN[j]?) == (N.drop own).map some)
 && ((N.drop own).all fun x => decide (scope.names.lookup x = some .free))
structure CpOk (PN : List Str) (ps : Scope) (N : List Str) (own : Nat) (fr : List Nat) (scope : Scope) : Prop where
 kind : scope.kind = .function
 nd : N.Nodup
 len : own + fr.length = N.length
 look : ∀ y ∈ scope.names, scope.names.lookup y.1 = some y.2
 par : ∀ y ∈ scope.names, y.2 = .free -> ps.names.lookup y.1 = some .cell ∨ ps.names.lookup y.1 = some .free
 frs : (fr.map fun j => PN[j]?) = (N.drop own).map some
 frk : ∀ x ∈ N.drop own, scope.names.lookup x = some .free
theorem CpOk.of {PN : List Str} {ps : Scope} {N : List Str} {own : Nat} {fr : List Nat} {scope : Scope} (h : cpCheck PN ps N own fr scope = true) : CpOk PN ps N own fr scope := by
 unfold cpCheck at h
 simp only [Bool.and_eq_true, decide_eq_true_eq, List.all_eq_true, beq_iff_eq] at h
 obtain ⟨⟨⟨⟨⟨⟨h1, h2⟩, h3⟩, h4⟩, h5⟩, h6⟩, h7⟩ := h
 refine ⟨h1, h2, h3, h4, fun y hy e => ?_, h6, h7⟩
 have q := h5 y hy
 rw [if_pos e] at q
 simpa using q
def cpStart (own : Nat) (fr : List Nat) (σ : St) : St := List.replicate own none ++ fr.map fun j => (σ[j]?).join
def cxComp (X : Cx) (N : List Str) (scope : Scope) (fp : List Addr) (s : Shared) (H : Hp) : Cx where
 prog := X.prog
 w := X.w
 K := X.K
 mg := X.mg
 base := X.base
 A := X.A
 N := N
 s₀ := s
 H₀ := H
 env := cpEnv scope s.heap.objs.size X.env
 outer := X.stack
 stack := X.stack
 ex := fp
 fn := fun x => decide (scope.names.lookup x = some .local) || decide (scope.names.lookup x = some .cell)
 calm := X.calm
 pn := []
 xe := fun _ _ => False
theorem relabel_look {ps : Scope} {env : Env} (he : env.scope = ps) {x : Str} : ∀ {names : List (Str × NameKind)} {k : NameKind}, names.lookup x = some k ->
  (names.map fun (n, k) => if (k == NameKind.free && env.scope.kind == .function && env.kindOf n == some .cell) then (n, NameKind.cell) else (n, k)).lookup x =
   some (if (k == NameKind.free && env.scope.kind == .function && env.kindOf x == some .cell) then .cell else k)
 | (n, k') :: r, k, h => by
  rw [List.lookup_cons] at h
  rw [List.map_cons]
  cases hb : x == n with
  | true =>
   rw [hb] at h
   cases h
   have e : x = n := by simpa using hb
   subst e
   dsimp only
   split <;> simp [List.lookup_cons]
  | false =>
   rw [hb] at h
   have ih := relabel_look he (env := env) h
   dsimp only
   split <;> (rw [List.lookup_cons, hb]; exact ih)
theorem relabel_of {env : Env} {x : Str} : ∀ {names : List (Str × NameKind)} {k : NameKind}, (names.map fun (n, k) => if (k == NameKind.free && env.scope.kind == .function && env.kindOf n == some .cell) then (n, NameKind.cell) else (n, k)).lookup x = some k -> ∃ k', names.lookup x = some k' /\ (k' = k ∨ (k' = .free /\ k = .cell))
 | (n, k') :: r, k, h => by
  rw [List.map_cons] at h
  rw [List.lookup_cons]
  dsimp only at h
  cases hb : x == n with
  | true =>
   refine ⟨k', rfl, ?_⟩
   by_cases hc : (k' == NameKind.free && env.scope.kind == .function && env.kindOf n == some .cell) = true
   ·rw [if_pos hc, List.lookup_cons, hb] at h
    cases h
    simp only [Bool.and_eq_true, beq_iff_eq] at hc
    exact .inr ⟨hc.1.1, rfl⟩
   ·rw [if_neg hc, List.lookup_cons, hb] at h
    cases h
    exact .inl rfl
  | false =>
   have h' : (r.map fun (n, k) => if (k == NameKind.free && env.scope.kind == .function && env.kindOf n == some .cell) then (n, NameKind.cell) else (n, k)).lookup x = some k := by
    split at h <;> (rw [List.lookup_cons, hb] at h; exact h)
   exact relabel_of h'
theorem of_lookup_app {α : Type} {x : Str} {c : α} : ∀ {l r : List (Str × α)}, (l ++ r).lookup x = some c -> (x, c) ∈ l ∨ (x, c) ∈ r := fun h => List.mem_append.mp (PySem.mem_of_lookup h)
section
variable {X : Cx} {pins : List (Addr × Obj)} {σ : St} {H : Hp} {s : Shared} {N : List Str} {own : Nat} {fr : List Nat} {scope : Scope} {fp : List Addr}
theorem closCell (I : Inv X pins σ H s) (S : CpOk X.N X.env.scope N own fr scope) {x : Str} {c : Addr} (h : (x, c) ∈ closOf X.env scope.names []) : X.env.cells.lookup x = some c /\ (x, NameKind.free) ∈ scope.names := by
 rcases mem_closOf h with h | ⟨h, e⟩
 ·cases h
 ·obtain ⟨c', hc⟩ := I.ok.has x (S.par _ h rfl)
  refine ⟨?_, h⟩
  rw [e, hc]
  rfl
theorem Inv.block (I : Inv X pins σ H s) (S : CpOk X.N X.env.scope N own fr scope) (hfp : ∀ b ∈ fp, FpOk X pins H b) (hfo : ∀ b ∈ fp, ∃ o, s.heap.get? b = some o) :
  Inv (cxComp X N scope fp s H) [] (cpStart own fr σ) H { s with heap := pushCells (s.heap.push { cls := .type "dict", data := .dict #[] }) scope.names } := by
 have kept : ∀ b o, s.heap.get? b = some o -> (pushCells (s.heap.push { cls := .type "dict", data := .dict #[] }) scope.names).get? b = some o := fun b o e => pushCells_keeps _ _ b o (Heap.get?_push_of_some _ e)
 have cok := cellsFrom_ok scope.names (s.heap.push { cls := .type "dict", data := .dict #[] }) (s.heap.objs.size + 1) [] ⟨fun _ _ hm => (nomatch hm), List.Pairwise.nil⟩ (by rw [Heap.size_push]; exact Nat.le_refl _)
 rw [Heap.size_push] at cok
 have ecs : cellsFrom (s.heap.objs.size + 1) scope.names (closOf X.env scope.names []) = cellsFrom (s.heap.objs.size + 1) scope.names [] ++ closOf X.env scope.names [] := cellsFrom_app _ _ [] _
 have lookC : ∀ {x c}, (cellsFrom (s.heap.objs.size + 1) scope.names (closOf X.env scope.names [])).lookup x = some c -> ((x, c) ∈ cellsFrom (s.heap.objs.size + 1) scope.names [] /\ (x, NameKind.cell) ∈ scope.names /\ s.heap.objs.size + 1 <= c) ∨ (X.env.cells.lookup x = some c /\ (x, NameKind.free) ∈ scope.names) := fun {x c} h => by
  rw [ecs] at h
  rcases of_lookup_app h with h | h
  ·refine .inl ⟨h, ?_, (cok.empty _ _ h).2⟩
   rcases mem_cellsFrom h with q | q
   ·cases q
   ·exact q
  ·exact .inr (closCell I S h)
 have oldC : ∀ {x c}, X.env.cells.lookup x = some c -> c < s.heap.objs.size := fun {x c} h => by
  obtain ⟨v, hv⟩ := I.cell x c h
  exact hv.lt
 have hb : ∀ b ∈ fp, b < s.heap.objs.size := fun b hb => let ⟨o, e⟩ := hfo b hb; Heap.lt_size e
 refine ⟨⟨I.ok.mod, S.kind, I.ok.glob, I.ok.blt, Nat.le_refl _, fun x y c h1 h2 => ?_, fun x hx => ?_, fun x c hf h => ?_, I.ok.hd, I.ok.frames, .inl rfl, fun b hb' => ⟨Nat.ne_of_lt (hb b hb'), fun x c h => ?_⟩, I.bs, ?_, fun b o e hb' => ?_, fun b hb' hs => ?_, I.stack, I.stkFree⟩,
  rfl, I.bare, Un.kept kept, ⟨_, (Heap.Ns.new s.heap (.type "dict")).keeps (pushCells_keeps _ _), fun i x v h1 h2 h3 => ?_⟩, fun x c h => ?_, I.hok.fresh (Nat.le_refl _), fun x c h => ?_, fun p hp => absurd (show p ∈ ([] : List (Addr × Obj)) from hp) (by simp), I.hok.kept kept, ?_⟩
 ·-- inj
  rcases lookC h1 with ⟨m1, k1, l1⟩ | ⟨m1, k1⟩ <;> rcases lookC h2 with ⟨m2, k2, l2⟩ | ⟨m2, k2⟩
  ·exact name_of_addr cok.apart m1 m2
  ·exact absurd (oldC m2) (Nat.not_lt.mpr (Nat.le_of_succ_le l1))
  ·exact absurd (oldC m1) (Nat.not_lt.mpr (Nat.le_of_succ_le l2))
  ·exact I.ok.inj x y c m1 m2
 ·-- has
  have key : (x, NameKind.cell) ∈ scope.names ∨ (x, NameKind.free) ∈ scope.names := by
   rcases hx with hx | hx
   ·obtain ⟨k', e, q⟩ := relabel_of (env := X.env) (show _ = some NameKind.cell from hx)
    have m := PySem.mem_of_lookup e
    rcases q with q | ⟨q, _⟩
    ·exact .inl (q ▸ m)
    ·exact .inr (q ▸ m)
   ·obtain ⟨k', e, q⟩ := relabel_of (env := X.env) (show _ = some NameKind.free from hx)
    have m := PySem.mem_of_lookup e
    rcases q with q | ⟨_, q⟩
    ·exact .inr (q ▸ m)
    ·cases q
  show ∃ c, (cellsFrom (s.heap.objs.size + 1) scope.names (closOf X.env scope.names [])).lookup x = some c
  have : ((cellsFrom (s.heap.objs.size + 1) scope.names (closOf X.env scope.names [])).lookup x).isSome = true := by
   refine PySem.W.cellsFrom_some _ _ _ ?_
   rcases key with q | q
   ·exact .inl (S.look _ q)
   ·obtain ⟨c, m⟩ := closOf_has (env := X.env) (names := scope.names) (cs := []) (x := x) (.inl q)
    obtain ⟨c', e⟩ := lookup_of_mem m
    exact .inr (by rw [e]; rfl)
  exact Option.isSome_iff_exists.mp this
 ·-- cab
  rcases lookC h with ⟨_, _, l⟩ | ⟨_, k⟩
  ·exact Nat.le_of_succ_le l
  ·have e := S.look _ k
   have hf : (decide (scope.names.lookup x = some .local) || decide (scope.names.lookup x = some .cell)) = true := hf
   rw [show scope.names.lookup x = some .free from e] at hf
   exact absurd hf (by decide)
 ·rcases lookC h with ⟨_, _, l⟩ | ⟨q, _⟩
  ·exact Nat.ne_of_gt (Nat.lt_of_lt_of_le (hb b hb') (Nat.le_of_succ_le l))
  ·exact (hfp b hb').2.2.2.2.1 x c q
 ·exact Nat.le_trans I.ok.bsz I.sz
 ·rcases (hfp b hb').2.2.2.1 with q | q
  ·exact I.ok.noex b o e q
  ·exact absurd (Nat.lt_of_lt_of_le (Heap.lt_size e) I.ok.bsz) (by omega)
 ·rcases List.mem_cons.mp (I.stkSub b hs) with q | q
  ·exact (hfp b hb').2.1 q
  ·exact (hfp b hb').2.2.1 q
 ·-- names
  have hi : own <= i := by
   refine Nat.le_of_not_lt fun hlt => ?_
   unfold cpStart at h2
   rw [List.getElem?_append_left (by rw [List.length_replicate]; exact hlt), List.getElem?_replicate, if_pos hlt] at h2
   cases h2
  have h2' : (fr.map fun j => (σ[j]?).join)[i - own]? = some (some v) := by
   unfold cpStart at h2
   rw [List.getElem?_append_right (by rw [List.length_replicate]; exact hi), List.length_replicate] at h2
   exact h2
  have h1 : N[i]? = some x := h1
  have hx : (N.drop own)[i - own]? = some x := by rw [List.getElem?_drop, show own + (i - own) = i by omega]; exact h1
  rw [List.getElem?_map] at h2'
  cases ej : fr[i - own]? with
  | none => rw [ej] at h2'; cases h2'
  | some j =>
   rw [ej] at h2'
   have h2' : (σ[j]?).join = some v := Option.some.inj h2'
   have hσ : σ[j]? = some (some v) := by
    cases q : σ[j]? with
    | none => rw [q] at h2'; cases h2'
    | some o => rw [q] at h2'; exact congrArg some h2'
   have hN : X.N[j]? = some x := by
    have q := congrArg (fun l => l[i - own]?) S.frs
    simp only [List.getElem?_map, ej, hx, Option.map_some] at q
    exact Option.some.inj q
   have kf := S.frk x (List.mem_of_getElem? hx)
   have mf := PySem.mem_of_lookup kf
   obtain ⟨m, hm, hv⟩ := I.loc
   have pk := S.par _ mf rfl
   obtain ⟨u, ru, lk⟩ := hv j x v hN hσ (pk.elim (fun q => .inr (.inl q)) fun q => .inr (.inr q))
   refine ⟨u, ru, ?_⟩
   have pk' : X.env.kindOf x = some .cell ∨ X.env.kindOf x = some .free := pk
   rcases lk with ⟨k, _⟩ | ⟨_, c, hc, hcell⟩
   ·rw [k] at pk'
    rcases pk' with q | q <;> cases q
   ·obtain ⟨c', m1⟩ := closOf_has (env := X.env) (names := scope.names) (cs := []) (x := x) (.inl mf)
    have e1 := (closCell I S m1).1
    rw [hc] at e1
    cases e1
    refine .inr ⟨?_, c, ?_, hcell.keeps kept⟩
    ·have q := relabel_look (env := X.env) rfl kf
     show (relabel scope X.env).names.lookup x = some .cell ∨ (relabel scope X.env).names.lookup x = some .free
     unfold relabel
     rw [q]
     split
     ·exact .inl rfl
     ·exact .inr rfl
    ·obtain ⟨c2, e2⟩ := Option.isSome_iff_exists.mp (PySem.W.cellsFrom_some (x := x) scope.names (s.heap.objs.size + 1) (closOf X.env scope.names []) (.inr (by obtain ⟨c', e⟩ := lookup_of_mem m1; rw [e]; rfl)))
     show (cellsFrom (s.heap.objs.size + 1) scope.names (closOf X.env scope.names [])).lookup x = some c
     rcases lookC e2 with ⟨_, q, _⟩ | ⟨q, _⟩
     ·have := S.look _ q
      rw [show scope.names.lookup x = some .free from kf] at this
      cases this
     ·rw [hc] at q
      cases q
      exact e2
 ·-- cells
  rcases lookC h with ⟨q, _, _⟩ | ⟨q, _⟩
  ·exact ⟨_, (cok.empty _ _ q).1⟩
  ·obtain ⟨v, hv⟩ := I.cell x c q
   exact ⟨v, hv.keeps kept⟩
 ·rcases lookC h with ⟨q, _, l⟩ | ⟨q, _⟩
  ·exact I.hok.fresh (by omega)
  ·exact I.freeC x c q
 ·show (cpStart own fr σ).length = N.length
  unfold cpStart
  rw [List.length_append, List.length_replicate, List.length_map]
  exact S.len
end
def PTs (X : Cx) (ifs : List Expr) (t : TT) : Prop :=
 ∀ (pins : List (Addr × Obj)) (s : Shared) (σ : St) (H : Hp) (Q : Bool -> Hp -> Prop), Inv X pins σ H s -> t σ H Q ->
  wpAny (model X.prog X.w) X.A (forIn ifs true fun c r => if r = true then do let ok <- isTrue c X.env (eval c X.env); pure (ForInStep.yield ok) else pure (ForInStep.yield r)) (TP X pins σ Q) X.xe s
def tYes : TT := fun _ H Q => Q true H
theorem yesT {σ : St} {H : Hp} {A B : Hp -> Prop} (h : A H) : tYes σ H fun b H4 => if b = true then A H4 else B H4 := by
 unfold tYes
 exact iteT h
theorem pts_nil {X : Cx} : PTs X [] tYes := fun _ _ _ H _ I h => wpAny_tests_nil ⟨H, I, h⟩
theorem pts_one {X : Cx} {c : Expr} {t : TT} (h : PT X c t) : PTs X [c] t := fun pins s σ H Q I q => wpAny_tests_one (h pins s σ H Q I q)
def CompW (J : It) (g : TG) (tc : TT) (te : TE) (σ0 : St) (D : Addr) (H1 : Hp) (Q : VK) : Prop := ∃ W : Nat -> Nat -> St -> Hp -> Prop,
 (∃ m, W 0 m σ0 (upd H1 D (.lst []))) /\ ∀ i m σ' H', W i m σ' H' -> (J.stop i H' /\ Q (.ref D) H') ∨
  (J.go i H' /\ ∃ Nx : St -> Hp -> Prop, (∀ σ2 H2, Nx σ2 H2 -> ∃ m', m' < m /\ W (i + 1) m' σ2 H2) /\
   ∀ x H2, J.yld i H' x H2 -> g x σ' H2 fun σ3 H3 => tc σ3 H3 fun b H4 => if b = true then te σ3 H4 fun y H5 => ∃ out, H5 D = some (.lst out) /\ out.length < sizeLine /\ Nx σ3 (upd H5 D (.lst (out ++ [y]))) else Nx σ3 H4)
def tComp (wi : TI) (own : Nat) (fr : List Nat) (g : TG) (tc : TT) (te : TE) : TE := fun σ H Q => wi σ H fun J H1 => ∀ D, H1 D = none -> CompW J g tc te (cpStart own fr σ) D H1 Q
section
variable {X : Cx} {tg iter elt : Expr} {ifs : List Expr} {scope : Scope} {pos : Pos} {wi : TI} {g : TG} {tc : TT} {te : TE} {N : List Str}
theorem comp_go {R : Result -> Shared -> Prop} {own : Nat} {fr : List Nat} {pins : List (Addr × Obj)} {σ : St} {H1 : Hp} {s2 : Shared} {it : Addr} {fp : List Addr} {tn : Nat -> Heap -> Prop} {J : It} {D : Addr} {Q : VK}
  (S : CpOk X.N X.env.scope N own fr scope) (hc : X.calm = true) (hg : ∀ fp s H, PG (cxComp X N scope fp s H) tg g) (ht : ∀ fp s H, PTs (cxComp X N scope fp s H) ifs tc) (he : ∀ fp s H, PE (cxComp X N scope fp s H) elt te)
  (I3 : Inv X pins σ (upd H1 D (.lst [])) s2) (T : Turn X.prog X.w X.K tg J fp it tn) (st : tn 0 s2.heap) (f2 : ∀ b ∈ fp, FpOk X pins (upd H1 D (.lst [])) b)
  (k : CompW J g tc te (cpStart own fr σ) D H1 Q)
  (hR : ∀ H' s', Inv X pins σ H' s' -> (∃ m, s'.heap.Ns s2.heap.objs.size m) -> H' s2.heap.objs.size = none -> Q (.ref D) H' -> R (.ok .next) s') :
  codeAny (model X.prog X.w) X.A (.compStart (.ListComp elt [⟨tg, iter, ifs, 0⟩] scope pos) 0 (.ref it) (.ref D) (cpEnv scope s2.heap.objs.size X.env)) R
   { s2 with heap := pushCells (s2.heap.push { cls := .type "dict", data := .dict #[] }) scope.names } := by
 obtain ⟨W, ⟨m0, w0⟩, turn⟩ := k
 have I4 := I3.block (N := N) S f2 (fun b hb => let ⟨o, e, _⟩ := T.obj _ _ st b hb; ⟨o, e⟩)
 have kept : ∀ b o, s2.heap.get? b = some o -> (pushCells (s2.heap.push { cls := .type "dict", data := .dict #[] }) scope.names).get? b = some o := fun b o e => pushCells_keeps _ _ b o (Heap.get?_push_of_some _ e)
 have st4 : tn 0 (pushCells (s2.heap.push { cls := .type "dict", data := .dict #[] }) scope.names) := T.keep _ _ _ st fun b hb o e => kept b o e
 have fx : ∀ {H' : Hp}, (∀ b ∈ fp, H' b = none) -> ∀ b ∈ fp, FpOk (cxComp X N scope fp s2 (upd H1 D (.lst []))) [] H' b := fun hn b hb =>
  ⟨hn b hb, (I4.ok.exf b hb).1, I4.ok.exfs b hb, .inl hb, (I4.ok.exf b hb).2, fun p hp => absurd (show p ∈ ([] : List (Addr × Obj)) from hp) (by simp)⟩
 have loop : codeAny (model X.prog X.w) X.A (.compLoop (.ListComp elt [⟨tg, iter, ifs, 0⟩] scope pos) 0 (.ref it) (.ref D) (cpEnv scope s2.heap.objs.size X.env)) R
   { s2 with heap := pushCells (s2.heap.push { cls := .type "dict", data := .dict #[] }) scope.names } := by
  refine codeAny_loop rfl (fun n s' => ∃ i σ' H', Inv (cxComp X N scope fp s2 (upd H1 D (.lst []))) [] σ' H' s' /\ tn i s'.heap /\ (∀ b ∈ fp, H' b = none) /\ W i n σ' H') (fun n s' hI => ?_) m0 ⟨0, _, _, I4, st4, fun b hb => (f2 b hb).1, w0⟩
  obtain ⟨i, σ', H', I5, st5, fr5, w5⟩ := hI
  show wpAny _ X.A ((compTurn (.ListComp elt [⟨tg, iter, ifs, 0⟩] scope pos) 0 (.ref it) (.ref D) (cpEnv scope s2.heap.objs.size X.env)).onRaise (fun x => do noteFrame x (cpEnv scope s2.heap.objs.size X.env); theTreesLotGoes x)) _ _ s'
  refine wpAny_noted (wpAny_mono (E := fun _ _ => False) ?_ (fun _ _ q => q) fun _ _ q => q.elim)
  rw [compTurn_list]
  refine wpAny_bind (wpAny_standAt (wpAny_bind ?_))
  rcases turn i n σ' H' w5 with ⟨stop, q⟩ | ⟨go, Nx, hN, step⟩
  ·refine thn (T.done (cxComp X N scope fp s2 (upd H1 D (.lst []))) rfl rfl rfl hc i [] s' σ' H' _ I5 (fx fr5) st5 stop) fun r s6 ⟨hr, I6⟩ => ?_
   subst hr
   refine wpAny_pure (hR H' s6 (I3.call' I6.os I6.base I6.hok I6.bare fun b hb => ?_) ?_ I6.free q)
   ·exact ⟨(f2 b hb).2.2.2.1, (f2 b hb).2.1, (f2 b hb).2.2.2.2.1, (f2 b hb).2.2.2.2.2⟩
   ·obtain ⟨m, hm, _⟩ := I6.loc
    exact ⟨m, hm⟩
  ·refine thn (T.item (cxComp X N scope fp s2 (upd H1 D (.lst []))) rfl rfl rfl hc i [] s' σ' H' _ I5 (fx fr5) st5 go) fun r s6 ⟨u, hr, h6⟩ => ?_
   subst hr
   refine wpAny_bind (thn h6 fun _ s7 ⟨x, H7, I7, r7, y7, st7, fr7⟩ => ?_)
   have I7' := I7.pinned (fx fr7) (T.obj _ _ st7)
   have back : ∀ {σ8 : St} {H8 : Hp} {s8 : Shared}, Inv (cxComp X N scope fp s2 (upd H1 D (.lst []))) ([] ++ pinsAt fp s7.heap) σ8 H8 s8 -> Nx σ8 H8 -> ∃ m, m < n /\ ∃ i σ' H', Inv (cxComp X N scope fp s2 (upd H1 D (.lst []))) [] σ' H' s8 /\ tn i s8.heap /\ (∀ b ∈ fp, H' b = none) /\ W i m σ' H' := fun {σ8 H8 s8} I8 n8 => by
    obtain ⟨m', hm, w8⟩ := hN σ8 H8 n8
    refine ⟨m', hm, i + 1, σ8, H8, I8.unpinned, T.keep _ _ _ st7 fun b hb o e => (I8.pin (b, o) (List.mem_append_right _ (List.mem_append_right _ (mem_pinsAt hb e)))).1, fun b hb => ?_, w8⟩
    obtain ⟨o, e, d⟩ := T.obj _ _ st7 b hb
    exact (I8.pin (b, o) (List.mem_append_right _ (List.mem_append_right _ (mem_pinsAt hb e)))).2.1
   refine wpAny_bind (thn (hg fp s2 (upd H1 D (.lst [])) _ s7 σ' H7 x u _ I7' r7 (step x H7 y7)) fun _ s8 ⟨σ8, H8, I8, q8⟩ => ?_)
   refine wpAny_bind (thn (ht fp s2 (upd H1 D (.lst [])) _ s8 σ8 H8 _ I8 q8) fun b s9 ⟨H9, I9, q9⟩ => ?_)
   cases b with
   | false =>
    simp only [Bool.false_eq_true, if_false] at q9 ⊢
    exact wpAny_pure ⟨rfl, back I9 q9⟩
   | true =>
    simp only [if_true] at q9 ⊢
    refine wpAny_bind (wpAny_bind (thn (he fp s2 (upd H1 D (.lst [])) _ s9 σ8 H9 _ I9 q9) fun y s10 ⟨yv, H10, I10, r10, out, hD, hz, q10⟩ => ?_))
    refine wpAny_bind (thn (mt_append (X := cxComp X N scope fp s2 (upd H1 D (.lst []))) _ s10 σ8 H10 (.ref D) [yv] (.ref D) [y] (fun _ H' => Nx σ8 H') I10 rfl (.cons r10 .nil) ⟨D, out, yv, rfl, rfl, hD, hz, q10⟩) fun _ s11 ⟨_, H11, I11, _, q11⟩ => ?_)
    exact wpAny_pure (wpAny_pure ⟨rfl, back I11 q11⟩)
 exact codeAny_compStart_list loop (T.self _ 0 _ _ _ st4 loop)
theorem pe_comp (N : List Str) (own : Nat) (fr : List Nat) (hi : PI X tg iter wi) (hg : ∀ fp s H, PG (cxComp X N scope fp s H) tg g) (ht : ∀ fp s H, PTs (cxComp X N scope fp s H) ifs tc) (he : ∀ fp s H, PE (cxComp X N scope fp s H) elt te)
  (S : cpCheck X.N X.env.scope N own fr scope = true := by kernel_rfl) (hc : X.calm = true := by rfl) (hs : ∀ x, foldedSetIterable iter X.env x = pure x := by intro _; rfl) :
  PE X (.ListComp elt [⟨tg, iter, ifs, 0⟩] scope pos) (tComp wi own fr g tc te) := by
 intro pins s σ H Q I h
 have S' := CpOk.of S
 rw [eval_ListComp]
 have hclos : closureFor scope X.env = pure (closOf X.env scope.names []) := closureFor_eq fun x hx e => I.ok.has x.1 (S'.par x hx e)
 refine wpAny_comprehension_free (use := none) rfl hs hclos S'.kind (fun x hx e => by rw [S'.look x hx, e]) (thn (hi pins s σ H _ I h) fun v s1 h1 => thn h1 fun itv s2 h2 => ?_)
 obtain ⟨it, fp, tn, J, H1, rfl, I2, T, st2, f2, k⟩ := h2
 refine wpAny_newObj_type (newEnv_comp ?_)
 have hD : H1 s2.heap.objs.size = none := I2.fresh
 have I3 := I2.lnew (ys := []) (its := []) (t' := s2.toks) .nil (Nat.zero_le _)
 have kept : ∀ b o, s2.heap.get? b = some o -> (s2.heap.push { cls := .type "list", data := .seq ([] : List Value).toArray }).get? b = some o := fun b o e => Heap.get?_push_of_some _ e
 refine comp_go (own := own) (fr := fr) (Q := Q) S' hc hg ht he I3 T (T.keep _ _ _ st2 fun b hb o e => kept b o e) (fun b hb => ?_) (k _ hD) ?_
 ·refine ⟨?_, (f2 b hb).2⟩
  obtain ⟨o, e, _⟩ := T.obj _ _ st2 b hb
  rw [upd_ne (Nat.ne_of_lt (Heap.lt_size e))]
  exact (f2 b hb).1
 ·rintro H' s' I' ⟨m, hm⟩ hn q
  refine ⟨m, hm, fun h' hs' => ⟨.ref s2.heap.objs.size, H', ?_, rfl, q⟩⟩
  exact I'.turned (t' := s'.toks) (fun b o hb e => hs'.extBut b o hb e) hn (Nat.ne_of_gt I3.lt) (.inr I3.sz) (fun x c hcx e => by
   obtain ⟨v, hv⟩ := I3.cell x c hcx
   exact absurd hv.lt (by rw [e]; exact Nat.lt_irrefl _)) fun p hp e => by
    have := (I3.pin p hp).1
    rw [e] at this
    exact absurd (Heap.lt_size this) (Nat.lt_irrefl _)
def tAsgC (i : Nat) (te : TE) : TS := fun D σ H => te σ H fun x H1 => D.nx (σ.set i (some x)) H1
theorem ps_setC {i : Nat} {x : Str} {px : Pos} (N : List Str) (own : Nat) (fr : List Nat) (hN : X.N.Nodup) (hi' : X.N[i]? = some x) (hx : Loc X.env.scope x)
  (hi : PI X tg iter wi) (hg : ∀ fp s H, PG (cxComp X N scope fp s H) tg g) (ht : ∀ fp s H, PTs (cxComp X N scope fp s H) ifs tc) (he : ∀ fp s H, PE (cxComp X N scope fp s H) elt te) {pos' : Pos}
  (S : cpCheck X.N X.env.scope N own fr scope = true := by kernel_rfl) (hc : X.calm = true := by rfl) (hs : ∀ x, foldedSetIterable iter X.env x = pure x := by intro _; rfl)
  (hf : X.fn x = true ∨ X.env.scope.names.lookup x = some .local := by first | exact .inl rfl | exact .inr rfl | assumption)
  (hsw : swapsWith (.ListComp elt [⟨tg, iter, ifs, 0⟩] scope pos) (some (.Name x px)) pos'.line X.env = pure true := by rfl) :
  PS X (.Assign [.Name x px] (.ListComp elt [⟨tg, iter, ifs, 0⟩] scope pos) pos') (tAsgC i (tComp wi own fr g tc te)) := by
 intro pins s σ H E I h
 have S' := CpOk.of S
 rw [exec_Assign_Name_used _ _ _ _ hsw]
 refine wpAny_bind (wpAny_standAt (wpAny_bind ?_))
 show wpAny _ X.A (do let _ <- comprehension (.ListComp elt [⟨tg, iter, ifs, 0⟩] scope pos) scope X.env _ (newList []) false (eval iter X.env) (some (assign (.Name x px) X.env))) _ _ s
 have hclos : closureFor scope X.env = pure (closOf X.env scope.names []) := closureFor_eq fun x hx e => I.ok.has x.1 (S'.par x hx e)
 refine wpAny_bind (wpAny_mono (wpAny_comprehension_free (use := some (assign (.Name x px) X.env)) (Q := fun _ s' => SP X pins E .next s') rfl hs hclos S'.kind (fun x hx e => by rw [S'.look x hx, e]) (thn (hi pins s σ H _ I h) fun v s1 h1 => thn h1 fun itv s2 h2 => ?_))
  (fun _ s' hq => wpAny_pure (wpAny_pure hq)) fun _ _ e => e)
 obtain ⟨it, fp, tn, J, H1, rfl, I2, T, st2, f2, k⟩ := h2
 refine wpAny_newObj_type (newEnv_comp ?_)
 have hD : H1 s2.heap.objs.size = none := I2.fresh
 have I3 := I2.lnew (ys := []) (its := []) (t' := s2.toks) .nil (Nat.zero_le _)
 have kept : ∀ b o, s2.heap.get? b = some o -> (s2.heap.push { cls := .type "list", data := .seq ([] : List Value).toArray }).get? b = some o := fun b o e => Heap.get?_push_of_some _ e
 refine comp_go (own := own) (fr := fr) (Q := fun x H1 => E.nx (σ.set i (some x)) H1) S' hc hg ht he I3 T (T.keep _ _ _ st2 fun b hb o e => kept b o e) (fun b hb => ?_) (k _ hD) ?_
 ·refine ⟨?_, (f2 b hb).2⟩
  obtain ⟨o, e, _⟩ := T.obj _ _ st2 b hb
  rw [upd_ne (Nat.ne_of_lt (Heap.lt_size e))]
  exact (f2 b hb).1
 ·rintro H' s' I' ⟨m, hm⟩ hn q
  have cne : ∀ y c, X.env.cells.lookup y = some c -> c ≠ (s2.heap.push { cls := .type "list", data := .seq ([] : List Value).toArray }).objs.size := fun y c hcx e => by
   obtain ⟨v, hv⟩ := I3.cell y c hcx
   exact absurd hv.lt (by rw [e]; exact Nat.lt_irrefl _)
  show wpAny _ X.A (assign (.Name x px) X.env (.ref s2.heap.objs.size)) _ _ s'
  refine wpAny_assign_Name (store_ok2 (v := V.ref s2.heap.objs.size) I' hN hi' hx rfl (fun s'' I'' ⟨a, hs2, ha⟩ => ?_) hf)
  have hCa : (s2.heap.push { cls := .type "list", data := .seq ([] : List Value).toArray }).objs.size ≠ a := by
   rcases ha with e | e
   ·rw [e]
    exact Nat.ne_of_gt I3.lt
   ·exact (cne x a e).symm
  refine ⟨m, hm.sameBut hs2 hCa, fun h' hs' => ⟨_, H', ?_, q⟩⟩
  exact I''.turned (t' := s''.toks) (fun b o hb e => hs'.extBut b o hb e) hn (Nat.ne_of_gt I3.lt) (.inr I3.sz) cne fun p hp e => by
    have := (I3.pin p hp).1
    rw [e] at this
    exact absurd (Heap.lt_size this) (Nat.lt_irrefl _)
end
def GOk (g : TG) (own : Nat) (fv : List (Option V)) (dec : V -> Hp -> List (Option V) -> Prop) : Prop :=
 ∀ (x : V) (o : List (Option V)) (H : Hp) (k : St -> Hp -> Prop) (o3 : List (Option V)), o.length = own -> dec x H o3 -> k (o3 ++ fv) H -> g x (o ++ fv) H k
theorem gok1 {fv : List (Option V)} : GOk (gName 0) 1 fv (fun x _ o3 => o3 = [some x]) := fun x o H k o3 hl e h => by
 subst e
 match o, hl with
 | [a], _ => exact h
def dec2 (K : PySem.W.Frag) : V -> Hp -> List (Option V) -> Prop := fun x H o3 => ∃ p u v, x = .ref p /\ SqT K H p [u, v] /\ o3 = [some u, some v]
def dec3 (K : PySem.W.Frag) : V -> Hp -> List (Option V) -> Prop := fun x H o3 => ∃ p u v w, x = .ref p /\ SqT K H p [u, v, w] /\ o3 = [some u, some v, some w]
theorem gok3 {K : PySem.W.Frag} {fv : List (Option V)} : GOk (gTup K 3 (gCons (gName 0) (gCons (gName 1) (gCons (gName 2) gNil)))) 3 fv (dec3 K) := fun x o H k o3 hl e h => by
 obtain ⟨p, u, v, w, rfl, hp, rfl⟩ := e
 match o, hl with
 | [a, b, c], _ => exact ⟨p, [u, v, w], rfl, hp, rfl, u, [v, w], rfl, v, [w], rfl, w, [], rfl, rfl, h⟩
theorem comp_it {J : It} {g : TG} {tc : TT} {te : TE} {own : Nat} {fv : List (Option V)} {dec : V -> Hp -> List (Option V) -> Prop} {D : Addr} {H : Hp} {Q : VK} {σ0 : St} (hσ : σ0 = List.replicate own none ++ fv) (G : GOk g own fv dec) (n : Nat) (Pv : Nat -> List V -> Hp -> Prop)
  (h0 : Pv 0 [] (upd H D (.lst []))) (hstop : ∀ out H', Pv n out H' -> J.stop n H' /\ Q (.ref D) H')
  (hgo : ∀ i out H', i < n -> Pv i out H' -> J.go i H' /\ ∀ x H2, J.yld i H' x H2 -> ∃ o3, dec x H2 o3 /\ o3.length = own /\ ∀ Nx : Hp -> Prop, (∀ out' H2, Pv (i + 1) out' H2 -> Nx H2) ->
   tc (o3 ++ fv) H2 fun b H4 => if b = true then te (o3 ++ fv) H4 fun y H5 => ∃ out2, H5 D = some (.lst out2) /\ out2.length < sizeLine /\ Nx (upd H5 D (.lst (out2 ++ [y]))) else Nx H4) :
  CompW J g tc te σ0 D H Q := by
 subst hσ
 refine ⟨fun i m σ' H' => m = n - i /\ i <= n /\ (∃ o : List (Option V), σ' = o ++ fv /\ o.length = own) /\ ∃ out, Pv i out H', ⟨n, by simp, Nat.zero_le _, ⟨_, rfl, List.length_replicate⟩, _, h0⟩, ?_⟩
 rintro i m σ' H' ⟨rfl, hi, ⟨o, rfl, ho⟩, out, p⟩
 by_cases hlt : i < n
 ·obtain ⟨go, k⟩ := hgo i out H' hlt p
  refine .inr ⟨go, fun σ2 H2 => (∃ o : List (Option V), σ2 = o ++ fv /\ o.length = own) /\ ∃ out, Pv (i + 1) out H2, fun σ2 H2 q => ⟨n - (i + 1), by omega, rfl, hlt, q⟩, fun x H2 y => ?_⟩
  obtain ⟨o3, d, l3, q⟩ := k x H2 y
  exact G x o H2 _ o3 ho d (q (fun H2 => (∃ o : List (Option V), o3 ++ fv = o ++ fv /\ o.length = own) /\ ∃ out, Pv (i + 1) out H2) fun out' H2 z => ⟨⟨o3, rfl, l3⟩, out', z⟩)
 ·have e : i = n := by omega
  subst e
  exact .inl (hstop out H' p)
theorem comp_list {K : PySem.W.Frag} {a : Addr} {xs : List V} {g : TG} {tc : TT} {te : TE} {own : Nat} {fv : List (Option V)} {dec : V -> Hp -> List (Option V) -> Prop} {D : Addr} {H : Hp} {Q : VK} {σ0 : St} (hσ : σ0 = List.replicate own none ++ fv) (G : GOk g own fv dec) (Pv : Nat -> List V -> Hp -> Prop)
  (h0 : Pv 0 [] (upd H D (.lst []))) (hl : ∀ i out H', i <= xs.length -> Pv i out H' -> SqL K H' a xs) (hd : ∀ out H', Pv xs.length out H' -> Q (.ref D) H')
  (hgo : ∀ i x out H', xs[i]? = some x -> Pv i out H' -> ∃ o3, dec x H' o3 /\ o3.length = own /\ ∀ Nx : Hp -> Prop, (∀ out' H2, Pv (i + 1) out' H2 -> Nx H2) ->
   tc (o3 ++ fv) H' fun b H4 => if b = true then te (o3 ++ fv) H4 fun y H5 => ∃ out2, H5 D = some (.lst out2) /\ out2.length < sizeLine /\ Nx (upd H5 D (.lst (out2 ++ [y]))) else Nx H4) :
  CompW (Itl K a) g tc te σ0 D H Q := by
 refine comp_it hσ G xs.length Pv h0 (fun out H' p => ⟨⟨xs, hl _ _ _ (Nat.le_refl _) p, Nat.le_refl _⟩, hd out H' p⟩) fun i out H' hi p => ?_
 have q := hl i out H' (Nat.le_of_lt hi) p
 refine ⟨⟨xs, xs[i], q, by simp [hi]⟩, fun x H2 y => ?_⟩
 obtain ⟨e, y⟩ := y
 subst e
 exact hgo i x out _ (y xs q) p
end L2
set_option Elab.async false
set_option linter.all false
set_option maxRecDepth 100000
namespace EvS
open PySem PySem.W PyProof.Rows
def Ok {α : Type} (f : Nat -> Nat -> Bool) (n : Nat) : KasT α -> (α -> Prop) -> Prop
 | .ret a, Q => Q a
 | .ask i j k, Q => i < n /\ j < n /\ Ok f n (k (f i j)) Q
theorem Ok.bind {α β : Type} {f : Nat -> Nat -> Bool} {n : Nat} {g : α -> KasT β} {Q : β -> Prop} : ∀ {t : KasT α} {R : α -> Prop}, Ok f n t R -> (∀ a, R a -> Ok f n (g a) Q) -> Ok f n (t.bind g) Q
 | .ret a, R, h, k => k a h
 | .ask i j t, R, h, k => ⟨h.1, h.2.1, Ok.bind h.2.2 k⟩
theorem Ok.imp {α : Type} {f : Nat -> Nat -> Bool} {n : Nat} {Q R : α -> Prop} (k : ∀ a, Q a -> R a) : ∀ {t : KasT α}, Ok f n t Q -> Ok f n t R
 | .ret a, h => k a h
 | .ask i j t, h => ⟨h.1, h.2.1, Ok.imp k h.2.2⟩
theorem Ok.wp {α : Type} {f : Nat -> Nat -> Bool} {n : Nat} {cmp : Nat -> Nat -> (Bool -> Shared -> Prop) -> Shared -> Prop} {s : Shared} (hc : ∀ i j C, i < n -> j < n -> C (f i j) s -> cmp i j C s) {Q : α -> Prop} {G : α -> Shared -> Prop} (k : ∀ a, Q a -> G a s) :
  ∀ {t : KasT α}, Ok f n t Q -> t.kasWp cmp G s
 | .ret a, h => k a h
 | .ask i j t, h => hc i j _ h.1 h.2.1 (Ok.wp hc k h.2.2)
structure Ord (f : Nat -> Nat -> Bool) : Prop where
 rfl' : ∀ i, f i i = false
 trans : ∀ {i j k}, f j i = false -> f k j = false -> f k i = false
 tot : ∀ {i j}, f i j = true -> f j i = false
section
variable {f : Nat -> Nat -> Bool} (O : Ord f) {N : Nat}
abbrev at' (p : Array Nat) (i : Nat) : Nat := p.getD i 0
def Up (f : Nat -> Nat -> Bool) (p : Array Nat) (k : Nat) : Prop := ∀ i j, i <= j -> j < k -> f (at' p j) (at' p i) = false
def Down (f : Nat -> Nat -> Bool) (p : Array Nat) (k : Nat) : Prop := ∀ i j, i <= j -> j < k -> f (at' p i) (at' p j) = false
def Like (f : Nat -> Nat -> Bool) (p : Array Nat) (lo k : Nat) : Prop := ∀ i, lo <= i -> i < k -> f (at' p i) (at' p (k - 1)) = false /\ f (at' p (k - 1)) (at' p i) = false
def Good (N : Nat) (p : Array Nat) : Prop := p.Perm (List.range N).toArray
theorem Good.size {p : Array Nat} (h : Good N p) : p.size = N := by
 have := h.size_eq
 simpa using this
theorem Good.lt {p : Array Nat} (h : Good N p) (hN : 0 < N) (i : Nat) : at' p i < N := by
 unfold at'
 by_cases hi : i < p.size
 ·have e : p.getD i 0 = p[i] := by simp [Array.getD, hi]
  rw [e]
  have m : p[i] ∈ (List.range N).toArray := h.mem_iff.mp (Array.getElem_mem hi)
  simpa using m
 ·have e : p.getD i 0 = 0 := by simp [Array.getD, hi]
  rw [e]
  exact hN
theorem Good.rev {p : Array Nat} (h : Good N p) (i j : Nat) : Good N (kas_rev p i j) := (mirror_perm _ _ _ _).trans h
theorem Good.bub {p : Array Nat} (h : Good N p) (i j : Nat) : Good N (bubble p i j) := (bubble_perm _ _ _).trans h
theorem getD_of {p q : Array Nat} {i j : Nat} (h : p[i]? = q[j]?) : at' p i = at' q j := by
 unfold at'
 rw [Array.getD_eq_getD_getElem?, Array.getD_eq_getD_getElem?, h]
theorem at_rev {p : Array Nat} {i j : Nat} (hj : j <= p.size) (k : Nat) : at' (kas_rev p i j) k = if i <= k /\ k < j then at' p (i + j - 1 - k) else at' p k := by
 have e := getElem?_mirror_all (i := i) hj k
 unfold kas_rev
 split
 ·rename_i c
  rw [if_pos c] at e
  exact getD_of e
 ·rename_i c
  rw [if_neg c] at e
  exact getD_of e
theorem at_bub {p : Array Nat} {k l : Nat} (hk : k < p.size) (hl : l <= k) (i : Nat) : at' (bubble p k (k - l)) i = if i = l then at' p k else if l < i /\ i <= k then at' p (i - 1) else at' p i := by
 have e := getElem?_bubble hk (k - l) (by omega) i
 rw [show k - (k - l) = l by omega] at e
 by_cases c : i = l
 ·rw [if_pos c] at e ⊢
  exact getD_of e
 ·rw [if_neg c] at e ⊢
  split
  ·rename_i d
   rw [if_pos d] at e
   exact getD_of e
  ·rename_i d
   rw [if_neg d] at e
   exact getD_of e
include O
theorem Up.more {p : Array Nat} {n : Nat} (h : Up f p n) (h1 : 1 <= n) (c : f (at' p n) (at' p (n - 1)) = false) : Up f p (n + 1) := fun i j hij hj => by
 by_cases e : j < n
 ·exact h i j hij e
 ·have e : j = n := by omega
  subst e
  by_cases e2 : i = j
  ·subst e2
   exact O.rfl' _
  ·exact O.trans (h i (j - 1) (by omega) (by omega)) c
theorem Down.more {p : Array Nat} {n : Nat} (h : Down f p n) (h1 : 1 <= n) (c : f (at' p (n - 1)) (at' p n) = false) : Down f p (n + 1) := fun i j hij hj => by
 by_cases e : j < n
 ·exact h i j hij e
 ·have e : j = n := by omega
  subst e
  by_cases e2 : i = j
  ·subst e2
   exact O.rfl' _
  ·exact O.trans c (h i (j - 1) (by omega) (by omega))
theorem asc_ok {p : Array Nat} (g : Good N p) (hN : 0 < N) : ∀ (m n : Nat), 1 <= n -> Up f p n -> Ok f N (kas_asc p m n) fun r => n <= r /\ r <= n + m /\ Up f p r /\ (r < n + m -> f (at' p r) (at' p (r - 1)) = true)
 | 0, n, _, h => ⟨Nat.le_refl _, Nat.le_refl _, h, fun q => absurd q (by omega)⟩
 | m + 1, n, h1, h => by
  refine ⟨g.lt hN _, g.lt hN _, ?_⟩
  dsimp only
  by_cases c : f (at' p n) (at' p (n - 1)) = true
  ·rw [if_pos c]
   exact ⟨Nat.le_refl _, by omega, h, fun _ => c⟩
  ·rw [if_neg c]
   refine (asc_ok g hN m (n + 1) (by omega) (h.more O h1 (by simpa using c))).imp fun r ⟨a, b, u, z⟩ => ⟨by omega, by omega, u, fun q => z (by omega)⟩
theorem Like.rev {p : Array Nat} {lo k : Nat} (h : Like f p lo k) (hk : k <= p.size) (i : Nat) : f (at' (kas_rev p lo k) i) (at' p i) = false /\ f (at' p i) (at' (kas_rev p lo k) i) = false := by
 rw [at_rev hk]
 split
 ·rename_i c
  obtain ⟨a1, a2⟩ := h i c.1 c.2
  obtain ⟨b1, b2⟩ := h (lo + k - 1 - i) (by omega) (by omega)
  exact ⟨O.trans a2 b1, O.trans b2 a1⟩
 ·exact ⟨O.rfl' _, O.rfl' _⟩
theorem Down.rev {p : Array Nat} {lo k n : Nat} (h : Down f p n) (l : Like f p lo k) (hk : k <= p.size) : Down f (kas_rev p lo k) n := fun i j hij hj => by
 obtain ⟨a1, _⟩ := l.rev O hk i
 obtain ⟨_, b2⟩ := l.rev O hk j
 exact O.trans (O.trans b2 (h i j hij hj)) a1
theorem desc_ok (hN : 0 < N) : ∀ (m : Nat) (p : Array Nat) (n q : Nat), Good N p -> 1 <= n -> q + 1 <= n -> n + m <= N -> Down f p n -> Like f p (n - (q + 1)) n ->
  Ok f N (kas_desc m p n q) fun r => Good N r.1 /\ n <= r.2.1 /\ r.2.1 <= n + m /\ Down f r.1 r.2.1 /\ r.2.2 + 1 <= r.2.1 /\ Like f r.1 (r.2.1 - (r.2.2 + 1)) r.2.1
 | 0, p, n, q, g, h1, hq, hn, d, l => ⟨g, Nat.le_refl _, Nat.le_refl _, d, hq, l⟩
 | m + 1, p, n, q, g, h1, hq, hn, d, l => by
  refine ⟨g.lt hN _, g.lt hN _, ?_⟩
  dsimp only
  by_cases c : f (at' p n) (at' p (n - 1)) = true
  ·rw [if_pos c]
   have d2 : Down f p (n + 1) := d.more O h1 (O.tot c)
   have one : ∀ p' : Array Nat, Like f p' (n + 1 - (0 + 1)) (n + 1) := fun p' i h2 h3 => by
    have e : i = n + 1 - 1 := by omega
    subst e
    exact ⟨O.rfl' _, O.rfl' _⟩
   by_cases hq0 : q > 0
   ·rw [if_pos hq0]
    have hk : n <= p.size := by rw [g.size]; omega
    exact (desc_ok hN m _ (n + 1) 0 (g.rev _ _) (by omega) (by omega) (by omega) (d2.rev O l hk) (one _)).imp fun r ⟨a, b, b2, z⟩ => ⟨a, by omega, by omega, z⟩
   ·rw [if_neg hq0]
    exact (desc_ok hN m _ (n + 1) 0 g (by omega) (by omega) (by omega) d2 (one _)).imp fun r ⟨a, b, b2, z⟩ => ⟨a, by omega, by omega, z⟩
  ·rw [if_neg c]
   refine ⟨g.lt hN _, g.lt hN _, ?_⟩
   dsimp only
   have c : f (at' p n) (at' p (n - 1)) = false := by simpa using c
   by_cases e : f (at' p (n - 1)) (at' p n) = true
   ·rw [if_pos e]
    exact ⟨g, Nat.le_refl _, by show n <= n + (m + 1); omega, d, hq, l⟩
   ·rw [if_neg e]
    have e : f (at' p (n - 1)) (at' p n) = false := by simpa using e
    refine (desc_ok hN m p (n + 1) (q + 1) g (by omega) (by omega) (by omega) (d.more O h1 e) fun i h2 h3 => ?_).imp fun r ⟨a, b, b2, z⟩ => ⟨a, by omega, by omega, z⟩
    show f (at' p i) (at' p n) = false /\ f (at' p n) (at' p i) = false
    by_cases ei : i = n
    ·subst ei
     exact ⟨O.rfl' _, O.rfl' _⟩
    ·obtain ⟨a1, a2⟩ := l i (by omega) (by omega)
     exact ⟨O.trans e a1, O.trans a2 c⟩
def Counted (f : Nat -> Nat -> Bool) (N nrem : Nat) (r : Nat × Array Nat) : Prop := Good N r.2 /\ 1 <= r.1 /\ r.1 <= nrem /\ Up f r.2 r.1
theorem tail_ok (hN : 0 < N) {p : Array Nat} {n nrem : Nat} (g : Good N p) (h1 : 1 <= n) (hn : n <= nrem) (hr : nrem <= N) (d : Down f p n) : Ok f N (kas_tail3 n nrem p) (Counted f N nrem) := by
 unfold kas_tail3
 have u : Up f (kas_rev p 0 n) n := fun i j hij hj => by
  rw [at_rev (by rw [g.size]; omega), at_rev (by rw [g.size]; omega), if_pos (by omega), if_pos (by omega)]
  exact d _ _ (by omega) (by omega)
 exact (asc_ok O (g.rev _ _) hN (nrem - n) n h1 u).bind fun m ⟨a, b, u, _⟩ => ⟨g.rev _ _, by show 1 <= m; omega, by show m <= nrem; omega, u⟩
theorem descPart_ok (hN : 0 < N) {p : Array Nat} {n nrem : Nat} (g : Good N p) (hn : n + 1 <= nrem) (hr : nrem <= N) (d : Down f p (n + 1)) : Ok f N (kas_descPart n nrem p) (Counted f N nrem) := by
 unfold kas_descPart
 refine (desc_ok O hN (nrem - (n + 1)) p (n + 1) 0 g (by omega) (by omega) (by omega) d fun i h2 h3 => ?_).bind fun r ⟨g', a, b, d', hq, l⟩ => ?_
 ·have e : i = n + 1 - 1 := by omega
  subst e
  exact ⟨O.rfl' _, O.rfl' _⟩
 ·split
  ·exact tail_ok O hN (g'.rev _ _) (by omega) (by omega) hr (d'.rev O l (by rw [g'.size]; omega))
  ·exact tail_ok O hN g' (by omega) (by omega) hr d'
theorem count_ok (hN : 0 < N) {p : Array Nat} {nrem : Nat} (g : Good N p) (h1 : 1 <= nrem) (hr : nrem <= N) : Ok f N (kas_count nrem p) (Counted f N nrem) := by
 unfold kas_count
 refine (asc_ok O g hN (nrem - 1) 1 (Nat.le_refl _) fun i j hij hj => ?_).bind fun n ⟨a, b, u, st⟩ => ?_
 ·have e : i = j := by omega
  subst e
  exact O.rfl' _
 ·by_cases e : (n == nrem) = true
  ·rw [if_pos e]
   exact ⟨g, a, by show n <= nrem; omega, u⟩
  ·rw [if_neg e]
   have e : n ≠ nrem := by simpa using e
   have c := st (by omega)
   by_cases h2 : n > 1
   ·rw [if_pos h2]
    refine ⟨g.lt hN _, g.lt hN _, ?_⟩
    dsimp only
    by_cases c2 : f (at' p 0) (at' p (n - 1)) = true
    ·rw [if_pos c2]
     exact ⟨g, a, by show n <= nrem; omega, u⟩
    ·rw [if_neg c2]
     have c2 : f (at' p 0) (at' p (n - 1)) = false := by simpa using c2
     refine descPart_ok O hN (g.rev _ _) (by omega) hr fun i j hij hj => ?_
     by_cases ej : j < n
     ·rw [at_rev (by rw [g.size]; omega), at_rev (by rw [g.size]; omega), if_pos (by omega), if_pos (by omega)]
      exact u _ _ (by omega) (by omega)
     ·have ej : j = n := by omega
      subst ej
      by_cases ei : i = j
      ·subst ei
       exact O.rfl' _
      ·rw [at_rev (by rw [g.size]; omega), at_rev (by rw [g.size]; omega), if_pos (by omega), if_neg (by omega)]
       exact O.trans (O.trans (O.tot c) c2) (u 0 _ (by omega) (by omega))
   ·rw [if_neg h2]
    have e1 : n = 1 := by omega
    subst e1
    refine descPart_ok O hN g (by omega) hr fun i j hij hj => ?_
    by_cases ei : i = j
    ·subst ei
     exact O.rfl' _
    ·have q1 : i = 0 := by omega
     have q2 : j = 1 := by omega
     subst q1
     subst q2
     exact O.tot c
theorem place_ok (hN : 0 < N) {p : Array Nat} {k : Nat} (g : Good N p) (u : Up f p k) : ∀ (m l r : Nat), r - l <= m -> l <= r -> r <= k -> (∀ i, i < l -> f (at' p k) (at' p i) = false) -> (∀ i, r <= i -> i < k -> f (at' p k) (at' p i) = true) ->
  Ok f N (kas_place p k m l r) fun x => x <= k /\ (∀ i, i < x -> f (at' p k) (at' p i) = false) /\ ∀ i, x <= i -> i < k -> f (at' p k) (at' p i) = true
 | 0, l, r, hm, hl, hr, h1, h2 => by
  have e : l = r := by omega
  subst e
  exact ⟨hr, h1, h2⟩
 | m + 1, l, r, hm, hl, hr, h1, h2 => by
  unfold kas_place
  by_cases e : l ≥ r
  ·rw [if_pos e]
   have e : l = r := by omega
   subst e
   exact ⟨hr, h1, h2⟩
  ·rw [if_neg e]
   refine ⟨g.lt hN _, g.lt hN _, ?_⟩
   dsimp only
   by_cases c : f (at' p k) (at' p ((l + r) / 2)) = true
   ·rw [if_pos c]
    refine place_ok hN g u m l _ (by omega) (by omega) (by omega) h1 fun i h3 h4 => ?_
    by_cases ei : f (at' p k) (at' p i) = true
    ·exact ei
    ·have ei : f (at' p k) (at' p i) = false := by simpa using ei
     have := O.trans (u _ i h3 h4) ei
     rw [c] at this
     cases this
   ·rw [if_neg c]
    have c : f (at' p k) (at' p ((l + r) / 2)) = false := by simpa using c
    exact place_ok hN g u m _ r (by omega) (by omega) hr (fun i h3 => O.trans (u i _ (by omega) (by omega)) c) h2
theorem bin_ok (hN : 0 < N) : ∀ (m : Nat) (p : Array Nat) (k : Nat), Good N p -> k + m = N -> Up f p k -> Ok f N (kas_bin m p k) fun r => Good N r /\ Up f r N
 | 0, p, k, g, e, u => by
  have e : k = N := by omega
  subst e
  exact ⟨g, u⟩
 | m + 1, p, k, g, e, u => by
  unfold kas_bin
  refine (place_ok O hN g u k 0 k (by omega) (by omega) (Nat.le_refl _) (fun i h => absurd h (by omega)) fun i h1 h2 => absurd h2 (by omega)).bind fun l ⟨hl, h1, h2⟩ => ?_
  have hk : k < p.size := by rw [g.size]; omega
  refine bin_ok hN m _ (k + 1) (g.bub _ _) (by omega) fun i j hij hj => ?_
  rw [at_bub hk hl, at_bub hk hl]
  by_cases ej : j = l
  ·rw [if_pos ej]
   by_cases ei : i = l
   ·rw [if_pos ei]
    exact O.rfl' _
   ·rw [if_neg ei, if_neg (by omega)]
    exact h1 i (by omega)
  ·rw [if_neg ej]
   by_cases ej2 : l < j /\ j <= k
   ·rw [if_pos ej2]
    by_cases ei : i = l
    ·rw [if_pos ei]
     exact O.tot (h2 (j - 1) (by omega) (by omega))
    ·rw [if_neg ei]
     by_cases ei2 : l < i /\ i <= k
     ·rw [if_pos ei2]
      exact u _ _ (by omega) (by omega)
     ·rw [if_neg ei2]
      exact u _ _ (by omega) (by omega)
   ·rw [if_neg ej2]
    rw [if_neg (show ¬ i = l by omega), if_neg (show ¬ (l < i /\ i <= k) by omega)]
    exact u _ _ (by omega) (by omega)
theorem sort_ok (hN : 0 < N) : Ok f N (kas_sort N) fun p => Good N p /\ Up f p N := by
 unfold kas_sort
 refine (count_ok O hN (p := (List.range N).toArray) (Array.Perm.refl _) hN (Nat.le_refl _)).bind fun r ⟨g, h1, h2, u⟩ => ?_
 split
 ·rename_i c
  rw [show max r.1 1 = r.1 by omega]
  exact bin_ok O hN _ _ _ g (by omega) u
 ·rename_i c
  have e : r.1 = N := by omega
  exact ⟨g, e ▸ u⟩
end
end EvS
set_option Elab.async false
set_option linter.all false
set_option maxRecDepth 100000
namespace EvS
open PySem PySem.W PyProof.Rows
section
variable {prog : Program} {w : World} {A : Around} {E : Value -> Shared -> Prop} {s : Shared}
def Asks (prog : Program) (w : World) (A : Around) (f : Nat -> Nat -> Bool) (vs : List Value) (s : Shared) : Prop :=
 ∃ κ, (∀ Q : SortKind -> Shared -> Prop, Q κ s -> wpAny (model prog w) A (keyKind' vs.toArray) Q (fun _ _ => False) s) /\ ∀ i j C, i < vs.length -> j < vs.length -> C (f i j) s -> kas_ask prog w A κ vs i j C s
def KeptBut (a : Addr) (h h' : Heap) : Prop := ∀ b o, b ≠ a -> h.get? b = some o -> h'.get? b = some o
def putBy (p : Array Nat) (vs : List Value) : List Value := p.toList.map fun i => vs.getD i Value.none
theorem putBy_range (vs : List Value) : putBy (List.range vs.length).toArray vs = vs := by
 unfold putBy
 apply List.ext_getElem?
 intro i
 simp only [List.getElem?_map]
 by_cases h : i < vs.length
 ·simp [h]
 ·simp [Nat.le_of_not_lt h]
theorem sort_raw {a : Addr} {vs : List Value} {n : Nat} {f : Nat -> Nat -> Bool} {P : Fin -> Shared -> Prop} (O : Ord f) (ho : s.heap.get? a = some (seqObj "list" vs.toArray n)) (h64 : vs.length < 64)
  (hask : 2 <= vs.length -> ∀ h', KeptBut a s.heap h' -> Asks prog w A f vs { s with heap := h' })
  (h : ∀ (p : Array Nat) (h' : Heap) (e : Nat), Good vs.length p -> Up f p vs.length -> h'.get? a = some (seqObj "list" (putBy p vs).toArray e) -> KeptBut a s.heap h' -> P (.done (.ret .none)) { s with heap := h' }) :
  wpAny (model prog w) A (Builtin.«list.sort» ⟨[.ref a], []⟩) P E s := by
 have haz : a < s.heap.objs.size := Heap.lt_size ho
 obtain ⟨e1, ho1⟩ : ∃ e1, (s.heap.update a (Obj.mapSeq fun _ => (#[] : Array Value))).get? a = some (seqObj "list" #[] e1) := ⟨_, get?_update_seq ho (fun _ => #[])⟩
 have l64 : vs.length <= sizeLine := by
  have := sizeLine_eq
  omega
 rw [list_sort_plain]
 refine wpAny_bind (listItems_at ho rfl (wpAny_bind (listUpdate_at ho rfl (wpAny_bind (seqEpoch_at ho1 rfl (wpAny_bind (wpAny_newTuple (wpAny_bind (wpAny_newList (wpAny_holding ?_) (Nat.zero_le _))) l64)))) (by simpa using l64) (Nat.zero_le _))))
 have keep : ∀ g : Array Value -> Array Value, KeptBut a s.heap ((((s.heap.update a (Obj.mapSeq fun _ => (#[] : Array Value))).push (seqObj "tuple" vs.toArray 0)).push (seqObj "list" #[] 0)).update a (Obj.mapSeq g)) := fun g b o hb e => by
  refine (Heap.get?_update_other _ _ (Ne.symm hb)).trans (Heap.get?_push_of_some _ (Heap.get?_push_of_some _ ?_))
  exact (Heap.get?_update_other _ _ (Ne.symm hb)).trans e
 have keep0 : KeptBut a s.heap (((s.heap.update a (Obj.mapSeq fun _ => (#[] : Array Value))).push (seqObj "tuple" vs.toArray 0)).push (seqObj "list" #[] 0)) := fun b o hb e =>
  Heap.get?_push_of_some _ (Heap.get?_push_of_some _ ((Heap.get?_update_other _ _ (Ne.symm hb)).trans e))
 have hoB : (((s.heap.update a (Obj.mapSeq fun _ => (#[] : Array Value))).push (seqObj "tuple" vs.toArray 0)).push (seqObj "list" #[] 0)).get? a = some (seqObj "list" #[] e1) := Heap.get?_push_of_some _ (Heap.get?_push_of_some _ ho1)
 show wpAny (model prog w) A _ P E { s with heap := ((s.heap.update a (Obj.mapSeq fun _ => (#[] : Array Value))).push (seqObj "tuple" vs.toArray 0)).push (seqObj "list" #[] 0) }
 dsimp only
 by_cases h2 : vs.toArray.size < 2
 ·rw [if_pos h2, if_pos h2]
  refine wpAny_bind (wpAny_pure ?_)
  rw [StateT.run_pure]
  have eout : ((vs.toArray.zip vs.toArray).map fun x : Keyed => x.2) = (putBy (List.range vs.length).toArray vs).toArray := by
   rw [putBy_range]
   apply Array.ext'
   simp [List.map_snd_zip]
  refine wpAny_bind (wpAny_pure (wpAny_bind (seqEpoch_at hoB rfl (wpAny_bind (listUpdate_at hoB rfl ?_ (Nat.zero_le _) ?_)))))
  ·simp only [bne_self_eq_false, Bool.false_eq_true, if_false]
   refine wpAny_pure (h (List.range vs.length).toArray _ _ (Array.Perm.refl _) (fun i j hij hj => ?_) ((get?_update_seq hoB _).trans (congrArg (fun z => some (seqObj "list" z _)) eout)) (keep _))
   ·have e : i = j := by
     simp only [List.size_toArray] at h2
     omega
    subst e
    exact O.rfl' _
  ·have e : ((vs.toArray.zip vs.toArray).map fun x : Keyed => x.2).size <= sizeLine + 1 := by
    simp only [Array.size_map, Array.size_zip, List.size_toArray]
    omega
   exact e
 ·rw [if_neg h2, if_neg h2]
  have h2' : 2 <= vs.length := by
   simp only [List.size_toArray] at h2
   omega
  obtain ⟨κ, hk, hc⟩ := hask h2' _ keep0
  refine wpAny_bind (wpAny_mono (hk (fun k s' => k = κ /\ s' = _) ⟨rfl, rfl⟩) (fun k s' hks => ?_) fun _ _ x => x.elim)
  obtain ⟨rfl, rfl⟩ := hks
  refine wpAny_bind (wpAny_mono (kat_run (ks := vs) (vs := vs) (G := fun p s' => s' = { s with heap := ((s.heap.update a (Obj.mapSeq fun _ => (#[] : Array Value))).push (seqObj "tuple" vs.toArray 0)).push (seqObj "list" #[] 0) } /\ Good vs.length p /\ Up f p vs.length)
   (Q := fun st' s' => ∃ p : Array Nat, arrOf st' = p.map (kas_item (vs.toArray.zip vs.toArray)) /\ failedOf st' = none /\ s' = { s with heap := ((s.heap.update a (Obj.mapSeq fun _ => (#[] : Array Value))).push (seqObj "tuple" vs.toArray 0)).push (seqObj "list" #[] 0) } /\ Good vs.length p /\ Up f p vs.length)
   rfl h2' h64 (fun p st' s' _ q1 q2 q3 => ⟨p, q1, q2, q3⟩) (Ok.wp hc (fun p q => ⟨rfl, q⟩) (sort_ok O (by omega)))) ?_ fun _ _ x => x)
  rintro ⟨⟨⟩, st'⟩ s' ⟨p, har, hf, hs', g, u⟩
  have hs' : s' = { s with heap := ((s.heap.update a (Obj.mapSeq fun _ => (#[] : Array Value))).push (seqObj "tuple" vs.toArray 0)).push (seqObj "list" #[] 0) } := hs'
  subst hs'
  have eout : ((arrOf st').map fun x : Keyed => x.2) = (putBy p vs).toArray := by
   rw [har]
   apply Array.ext'
   unfold putBy
   simp only [Array.map_map, Array.toList_map, List.toList_toArray]
   refine List.map_congr_left fun i _ => ?_
   show (kas_item (vs.toArray.zip vs.toArray) i).2 = _
   unfold kas_item
   by_cases hi : i < vs.length
   ·simp [Array.getD, hi]
   ·simp [Array.getD, hi, Nat.le_of_not_lt hi]
  have esz : ((arrOf st').map fun x : Keyed => x.2).size = vs.length := by
   rw [eout]
   unfold putBy
   simp only [List.size_toArray, List.length_map, Array.length_toList]
   exact g.size
  refine wpAny_bind (seqEpoch_at hoB rfl (wpAny_bind (listUpdate_at hoB rfl ?_ (Nat.zero_le _) (by rw [esz]; omega))))
  rw [hf]
  simp only [bne_self_eq_false, Bool.false_eq_true, if_false]
  exact wpAny_pure (h p _ _ g u ((get?_update_seq hoB _).trans (congrArg (fun z => some (seqObj "list" z _)) eout)) (keep _))
theorem sorted_raw {x : Value} {f : Nat -> Nat -> Bool} {Q : Value -> Shared -> Prop} (O : Ord f)
  (hcol : wpAny (model prog w) A.in1 (collect x) (fun vs s1 => vs.length < 64 /\ (2 <= vs.length -> ∀ h' : Heap, (∀ b o, s1.heap.get? b = some o -> h'.get? b = some o) -> Asks prog w A.in1.in1 f vs { s1 with heap := h' }) /\
   ∀ (p : Array Nat) (h' : Heap) (e : Nat), Good vs.length p -> Up f p vs.length -> h'.get? s1.heap.objs.size = some (seqObj "list" (putBy p vs).toArray e) -> (∀ b o, s1.heap.get? b = some o -> h'.get? b = some o) -> Q (.ref s1.heap.objs.size) { s1 with heap := h' }) E s) :
  wpAny (model prog w) A (call (.builtin "sorted") [x]) Q E s := by
 refine Calls.call_function_entry kind_sorted plain_sorted entry_sorted (args_sorted1 _) ?_
 unfold Builtin.«sorted»
 refine wpAny_bind (m := checkCount "sorted" 1 1 _) (wpAny_pure (wpAny_bind (wpAny_mono hcol (fun vs s1 q => ?_) fun _ _ z => z)))
 obtain ⟨h64, hask, hQ⟩ := q
 refine wpAny_bind (wpAny_newList ?_ (by have := sizeLine_eq; omega))
 have hn : (s1.heap.push (seqObj "list" vs.toArray 0)).get? s1.heap.objs.size = some (seqObj "list" vs.toArray 0) := Heap.get?_push_size _ rfl
 have old : ∀ h', KeptBut s1.heap.objs.size (s1.heap.push (seqObj "list" vs.toArray 0)) h' -> ∀ b o, s1.heap.get? b = some o -> h'.get? b = some o := fun h' k b o e =>
  k b o (Nat.ne_of_lt (Heap.lt_size e)) (Heap.get?_push_of_some _ e)
 refine wpAny_bind (wpAny_holding (wpAny_call_entry slot_list_sort ⟨_, hn, rfl⟩ entry_list_sort (sort_raw O hn h64 (fun h2 h' k => hask h2 h' (old h' k)) fun p h' e g u q k => ⟨_, rfl, ?_⟩) (args_list_sort _)))
 exact wpAny_pure ⟨_, rfl, hQ p h' e g u q (old h' k)⟩
end
end EvS
set_option Elab.async false
set_option linter.all false
set_option maxRecDepth 100000
namespace L2
open PySem PySem.Spec PyProof.Rows PySem.W EvS
def kLt : Key -> Key -> Bool
 | .inl i, .inl j => decide (i < j)
 | .inl _, .inr _ => true
 | .inr _, .inl _ => false
 | .inr x, .inr y => decide (x.cps.toList < y.cps.toList)
def lexK : List Key -> List Key -> Bool
 | [], [] => false
 | [], _ :: _ => true
 | _ :: _, [] => false
 | a :: r, b :: q => if a = b then lexK r q else kLt a b
theorem kLt_irr : ∀ a : Key, kLt a a = false
 | .inl i => by simp [kLt]
 | .inr x => by simp [kLt, List.lt_irrefl]
theorem kLt_asymm : ∀ {a b : Key}, kLt a b = true -> kLt b a = false
 | .inl i, .inl j, h => by
  simp only [kLt, decide_eq_true_eq, decide_eq_false_iff_not] at *
  omega
 | .inl _, .inr _, _ => rfl
 | .inr _, .inl _, h => by cases h
 | .inr x, .inr y, h => by
  simp only [kLt, decide_eq_true_eq, decide_eq_false_iff_not] at *
  exact fun q => List.lt_irrefl _ (List.lt_trans h q)
theorem kLt_tot : ∀ {a b : Key}, kLt a b = false -> kLt b a = false -> a = b
 | .inl i, .inl j, h, h2 => by
  simp only [kLt, decide_eq_false_iff_not] at *
  rw [show i = j by omega]
 | .inl _, .inr _, h, _ => by cases h
 | .inr _, .inl _, _, h => by cases h
 | .inr x, .inr y, h, h2 => by
  simp only [kLt, decide_eq_false_iff_not] at *
  rw [ext_toList (List.le_antisymm (List.not_lt.mp h2) (List.not_lt.mp h))]
theorem kLt_trans : ∀ {a b c : Key}, kLt a b = true -> kLt b c = true -> kLt a c = true
 | .inl i, .inl j, .inl k, h, h2 => by
  simp only [kLt, decide_eq_true_eq] at *
  omega
 | .inl _, .inl _, .inr _, _, _ => rfl
 | .inl _, .inr _, .inr _, _, _ => rfl
 | .inl _, .inr _, .inl _, _, h => by cases h
 | .inr _, .inl _, _, h, _ => by cases h
 | .inr _, .inr _, .inl _, _, h => by cases h
 | .inr x, .inr y, .inr z, h, h2 => by
  simp only [kLt, decide_eq_true_eq] at *
  exact List.lt_trans h h2
theorem lexK_irr : ∀ a : List Key, lexK a a = false
 | [] => rfl
 | a :: r => by
  unfold lexK
  rw [if_pos rfl]
  exact lexK_irr r
theorem lexK_asymm : ∀ {a b : List Key}, lexK a b = true -> lexK b a = false
 | [], [], h => by cases h
 | [], _ :: _, _ => rfl
 | _ :: _, [], h => by cases h
 | a :: r, b :: q, h => by
  unfold lexK at h ⊢
  by_cases e : a = b
  ·rw [if_pos e] at h
   rw [if_pos e.symm]
   exact lexK_asymm h
  ·rw [if_neg e] at h
   rw [if_neg (Ne.symm e)]
   exact kLt_asymm h
theorem lexK_tot : ∀ {a b : List Key}, lexK a b = false -> lexK b a = false -> a = b
 | [], [], _, _ => rfl
 | [], _ :: _, h, _ => by cases h
 | _ :: _, [], _, h => by cases h
 | a :: r, b :: q, h, h2 => by
  unfold lexK at h h2
  by_cases e : a = b
  ·rw [if_pos e] at h
   rw [if_pos e.symm] at h2
   rw [e, lexK_tot h h2]
  ·rw [if_neg e] at h
   rw [if_neg (Ne.symm e)] at h2
   exact absurd (kLt_tot h h2) e
theorem lexK_ltTrans : ∀ {a b c : List Key}, lexK a b = true -> lexK b c = true -> lexK a c = true
 | [], _, [], h, h2 => by
  rename_i b
  cases b with
  | nil => cases h
  | cons _ _ => cases h2
 | [], _, _ :: _, _, _ => rfl
 | _ :: _, [], _, h, _ => by cases h
 | _ :: _, _ :: _, [], _, h => by cases h
 | a :: r, b :: q, c :: t, h, h2 => by
  unfold lexK at h h2 ⊢
  by_cases e : a = b
  ·subst e
   rw [if_pos rfl] at h
   by_cases e2 : a = c
   ·rw [if_pos e2] at h2 ⊢
    exact lexK_ltTrans h h2
   ·rw [if_neg e2] at h2 ⊢
    exact h2
  ·rw [if_neg e] at h
   by_cases e2 : b = c
   ·subst e2
    rw [if_neg e]
    exact h
   ·rw [if_neg e2] at h2
    have h3 := kLt_trans h h2
    rw [if_neg (fun q => by rw [q, kLt_irr] at h3; cases h3)]
    exact h3
theorem lexK_trans {a b c : List Key} (h : lexK b a = false) (h2 : lexK c b = false) : lexK c a = false := by
 cases e : lexK c a with
 | false => rfl
 | true =>
  by_cases e1 : lexK a b = true
  ·have := lexK_ltTrans e e1
   rw [h2] at this
   cases this
  ·have e1 : lexK a b = false := by simpa using e1
   have := lexK_tot e1 h
   subst this
   rw [h2] at e
   cases e
def Asc (ks : List (List Key)) : Prop := ks.Pairwise fun a b => lexK b a = false
theorem asc_unique : ∀ {a b : List (List Key)}, a.Perm b -> Asc a -> Asc b -> a = b
 | [], b, p, _, _ => by
  have := p.length_eq
  cases b with
  | nil => rfl
  | cons _ _ => cases this
 | x :: r, [], p, _, _ => by
  have := p.length_eq
  cases this
 | x :: r, y :: q, p, h1, h2 => by
  obtain ⟨a1, a2⟩ := List.pairwise_cons.mp h1
  obtain ⟨b1, b2⟩ := List.pairwise_cons.mp h2
  have e : x = y := by
   rcases List.mem_cons.mp (p.mem_iff.mp List.mem_cons_self) with m | m
   ·exact m
   ·rcases List.mem_cons.mp (p.mem_iff.mpr List.mem_cons_self) with m2 | m2
    ·exact m2.symm
    ·exact lexK_tot (b1 _ m) (a1 _ m2)
  subst e
  rw [asc_unique ((List.perm_cons _).mp p) a2 b2]
def sortKs (ks : List (List Key)) : List (List Key) := ks.mergeSort fun a b => !lexK b a
theorem sortKs_perm (ks : List (List Key)) : (sortKs ks).Perm ks := List.mergeSort_perm _ _
theorem sortKs_asc (ks : List (List Key)) : Asc (sortKs ks) := by
 have := List.pairwise_mergeSort (le := fun a b => !lexK b a) (fun a b c h1 h2 => by
  simp only [Bool.not_eq_true'] at *
  exact lexK_trans h1 h2) (fun a b => by
  simp only [Bool.or_eq_true, Bool.not_eq_true']
  by_cases e : lexK b a = true
  ·exact .inr (lexK_asymm e)
  ·exact .inl (by simpa using e)) ks
 exact this.imp fun h => by simpa using h
theorem sortKs_eq {ks ks' : List (List Key)} (p : ks'.Perm ks) (h : Asc ks') : ks' = sortKs ks := asc_unique (p.trans (sortKs_perm ks).symm) h (sortKs_asc ks)
theorem map_put_perm {α : Type} {p : Array Nat} {n : Nat} (g : Good n p) (F : Nat -> α) : (p.toList.map F).Perm ((List.range n).map F) := by
 have e : p.toList.Perm (List.range n) := by
  have := Array.perm_iff_toList_perm.mp g
  simpa using this
 exact e.map F
theorem asc_put {p : Array Nat} {ks : List (List Key)} {f : Nat -> Nat -> Bool} (hf : ∀ i j, i < ks.length -> j < ks.length -> f i j = lexK (ks.getD i []) (ks.getD j [])) (g : Good ks.length p) (u : Up f p ks.length) : Asc (p.toList.map fun i => ks.getD i []) := by
 unfold Asc
 rw [List.pairwise_map, List.pairwise_iff_getElem]
 intro i j hi hj hij
 have hs := g.size
 rw [Array.length_toList] at hi hj
 have hj' : j < ks.length := by omega
 have q := u i j (Nat.le_of_lt hij) hj'
 have hN : 0 < ks.length := by omega
 rw [hf _ _ (g.lt hN _) (g.lt hN _)] at q
 have e1 : at' p i = p.toList[i] := by simp [at', Array.getD, hi]
 have e2 : at' p j = p.toList[j] := by simp [at', Array.getD, hj]
 rw [e1, e2] at q
 exact q
theorem ord_keys (ks : List (List Key)) : Ord fun i j => lexK (ks.getD i []) (ks.getD j []) := ⟨fun _ => lexK_irr _, fun h h2 => lexK_trans h h2, fun h => lexK_asymm h⟩
theorem map_range_getD {α : Type} (d : α) (l : List α) : ((List.range l.length).map fun i => l.getD i d) = l := by
 apply List.ext_getElem?
 intro i
 simp only [List.getElem?_map]
 by_cases h : i < l.length
 ·simp [h]
 ·simp [Nat.le_of_not_lt h]
theorem vals_put {ys : List V} {vs : List Value} (r : Vals ys vs) {p : Array Nat} (g : Good vs.length p) : Vals (p.toList.map fun i => ys.getD i .non) (putBy p vs) := by
 unfold putBy
 have key : ∀ l : List Nat, (∀ i ∈ l, i < vs.length) -> Vals (l.map fun i => ys.getD i .non) (l.map fun i => vs.getD i Value.none) := fun l => by
  induction l with
  | nil => exact fun _ => .nil
  | cons i l ih =>
   intro h
   refine .cons ?_ (ih fun j hj => h j (List.mem_cons_of_mem _ hj))
   have hi := h i List.mem_cons_self
   have hy : i < ys.length := by rw [r.length]; exact hi
   obtain ⟨u, hu, ru⟩ := r.get (List.getElem?_eq_getElem hy)
   have e1 : ys.getD i .non = ys[i] := by simp [hy]
   have e2 : vs.getD i Value.none = u := by simp [hu]
   show RelV (ys.getD i .non) (vs.getD i Value.none)
   rw [e1, e2]
   exact ru
 refine key p.toList fun i hi => ?_
 have m : i ∈ (List.range vs.length).toArray := g.mem_iff.mp (by simpa using hi)
 simpa using m
theorem strs_of : ∀ {ss : List Str} {vs : List Value}, Vals (ss.map V.str) vs -> StrsAre vs ss
 | [], _, .nil => .nil
 | x :: r, _, .cons h t => by
  obtain ⟨tk, rfl⟩ := h
  exact .cons x tk (strs_of t)
def sortS (ss : List Str) : List Str := (sortKs (ss.map fun x => [Sum.inr x])).map fun k => match k with
 | [.inr x] => x
 | _ => ⟨#[]⟩
def keyS (x : Str) : List Key := [Sum.inr x]
theorem asks_strs {prog : Program} {w : World} {A : Around} {s : Shared} {ss : List Str} {vs : List Value} (r : StrsAre vs ss) (h2 : 2 <= vs.length) : Asks prog w A (fun i j => lexK ((ss.map keyS).getD i []) ((ss.map keyS).getD j [])) vs s := by
 refine ⟨oneType', fun Q q => ?_, fun i j C hi hj hC => ?_⟩
 ·match vs, h2 with
  | v₁ :: v₂ :: t, _ =>
   rw [keyKind_strs r]
   exact wpAny_pure q
 ·unfold kas_ask
  rw [keyLt'_oneType]
  have look : ∀ k, k < vs.length -> ∃ x t, vs.getD k Value.none = .str x t /\ (ss.map keyS).getD k [] = [Sum.inr x] := fun k hk => by
   have e := r.strs
   obtain ⟨x, t, q⟩ := r.all vs[k] (List.getElem_mem hk)
   refine ⟨x, t, by simp [hk, q], ?_⟩
   have hk' : k < ss.length := by
    rw [<- e, List.length_map]
    exact hk
   have e2 : ss[k] = x := by
    have e3 : (vs.map strOf)[k]? = ss[k]? := by rw [e]
    rw [List.getElem?_map, List.getElem?_eq_getElem hk, List.getElem?_eq_getElem hk', q] at e3
    exact (Option.some.inj e3).symm
   simp [hk', e2, keyS]
  obtain ⟨x, t, e1, e2⟩ := look i hi
  obtain ⟨y, u, e3, e4⟩ := look j hj
  rw [e1, e3]
  dsimp only at hC
  rw [e2, e4] at hC
  refine oneLt_str ?_
  unfold lexK at hC
  by_cases e : x = y
  ·subst e
   rw [if_pos rfl] at hC
   have : decide (x.cps.toList < x.cps.toList) = false := by simp [List.lt_irrefl]
   rw [this]
   exact hC
  ·rw [if_neg (fun q => e (Sum.inr.inj q))] at hC
   exact hC
def isS : Key -> Bool
 | .inl _ => false
 | .inr _ => true
theorem oneLt_key {prog : Program} {w : World} {A : Around} {E : Value -> Shared -> Prop} {s : Shared} {c : Bool} {a b : Key} {p q : Value} {Q : Bool -> Shared -> Prop} (ra : RelV (kV a) p) (rb : RelV (kV b) q) (hk : isS a = isS b) (h : Q (kLt a b) s) :
  wpAny (model prog w) A (oneLt' c p q) Q E s := by
 cases a with
 | inl i =>
  cases b with
  | inr y => cases hk
  | inl j =>
   obtain ⟨t, rfl⟩ := ra
   obtain ⟨u, rfl⟩ := rb
   cases c with
   | true => exact oneLt_int h
   | false => exact kat_one _ _ (lt_int (show PySem.W.BoolBack Q (.bool _) s from h))
 | inr x =>
  cases b with
  | inl j => cases hk
  | inr y =>
   obtain ⟨t, rfl⟩ := ra
   obtain ⟨u, rfl⟩ := rb
   cases c with
   | true => exact oneLt_str h
   | false => exact kat_one _ _ (PyProof.Rows.lt_str (show PySem.W.BoolBack Q (.bool _) s from h))
theorem eqV_key {a b : Key} (hk : isS a = isS b) : eqV (kV a) (kV b) = decide (a = b) := by
 cases a with
 | inl i =>
  cases b with
  | inr y => cases hk
  | inl j =>
   show (i == j) = _
   by_cases e : i = j
   ·subst e
    simp
   ·rw [decide_eq_false (fun q => e (Sum.inl.inj q))]
    simpa using e
 | inr x =>
  cases b with
  | inl j => cases hk
  | inr y =>
   show (x == y) = _
   by_cases e : x = y
   ·subst e
    simp
   ·rw [decide_eq_false (fun q => e (Sum.inr.inj q))]
    simpa using e
theorem flat_key (a : Key) : flatV (kV a) = true := by cases a <;> rfl
theorem katlex_keys {prog : Program} {w : World} {A : Around} {s : Shared} {Q : Bool -> Shared -> Prop} : ∀ {k1 k2 : List Key} {us vs : List Value} (i : Nat), Vals (k1.map kV) us -> Vals (k2.map kV) vs -> k1.map isS = k2.map isS -> Q (lexK k1 k2) s -> KatLex prog w A true false Q (us.zip vs) i s
 | [], [], _, _, i, .nil, .nil, _, h => h
 | [], _ :: _, _, _, _, _, _, h, _ => by cases h
 | _ :: _, [], _, _, _, _, _, h, _ => by cases h
 | a :: k1, b :: k2, u :: us, v :: vs, i, .cons ra r1, .cons rb r2, hk, h => by
  obtain ⟨e1, e2⟩ := List.cons.inj hk
  refine kat_cons ?_
  refine eqAt_V ra rb (flat_key a) (flat_key b) prog w _ _ ?_
  rw [eqV_key e1]
  unfold lexK at h
  by_cases e : a = b
  ·rw [if_pos e] at h
   rw [decide_eq_true e]
   exact kat_yes (katlex_keys (i + 1) r1 r2 e2 h)
  ·rw [if_neg e] at h
   rw [decide_eq_false e]
   exact kat_no (oneLt_key ra rb e1 h)
def TupsAt (K : PySem.W.Frag) (H : Hp) : List V -> List (List Key) -> Prop := Paired fun y k => ∃ a, y = V.ref a /\ H a = some (.tup (k.map kV))
def Alike (ks : List (List Key)) (sh : List Bool) : Prop := sh ≠ [] /\ ∀ k ∈ ks, k.map isS = sh
theorem asks_tups {X : Cx} {pins : List (Addr × Obj)} {σ : St} {H : Hp} {s s' : Shared} {A : Around} {ys : List V} {ks : List (List Key)} {sh : List Bool} {vs : List Value} (I : Inv X pins σ H s) (r : Vals ys vs) (t : TupsAt X.K H ys ks) (al : Alike ks sh) (h2 : 2 <= vs.length)
  (kp : ∀ b o, s.heap.get? b = some o -> s'.heap.get? b = some o) : Asks X.prog X.w A (fun i j => lexK (ks.getD i []) (ks.getD j [])) vs s' := by
 have look : ∀ k, k < vs.length -> ∃ a its, vs.getD k Value.none = .ref a /\ Vals ((ks.getD k []).map kV) its /\ IsTup s'.heap a its.toArray /\ ks.getD k [] ∈ ks := fun k hk => by
  have hy : k < ys.length := by rw [r.length]; exact hk
  have hk2 : k < ks.length := by rw [<- Paired.length t]; exact hy
  obtain ⟨u, hu, ru⟩ := r.get (List.getElem?_eq_getElem hy)
  have gen : ∀ {ys : List V} {ks : List (List Key)} (k : Nat) (hy : k < ys.length) (hk2 : k < ks.length), TupsAt X.K H ys ks -> ∃ a, ys[k] = V.ref a /\ H a = some (.tup (ks[k].map kV)) := fun {ys ks} k hy hk2 t => by
   induction t generalizing k with
   | nil => exact absurd hy (by simp)
   | cons h t ih =>
    cases k with
    | zero => exact h
    | succ k => exact ih k (by simpa using hy) (by simpa using hk2)
  obtain ⟨a, e, sq⟩ := gen k hy hk2 t
  obtain ⟨its, ri, ti, _⟩ := I.tuple (SqT.of sq)
  rw [e] at ru
  cases ru
  have e2 : ks.getD k [] = ks[k] := by simp [hk2]
  refine ⟨a, its, by simp [hu], by rw [e2]; exact ri, ti.keeps kp, ?_⟩
  rw [e2]
  exact List.getElem_mem hk2
 obtain ⟨hne, hal⟩ := al
 obtain ⟨c, sh', rfl⟩ : ∃ c sh', sh = c :: sh' := by
  cases sh with
  | nil => exact absurd rfl hne
  | cons c sh' => exact ⟨c, sh', rfl⟩
 refine ⟨tuples' true, fun Q q => ?_, fun i j C hi hj hC => ?_⟩
 ·have firsts : ∀ l : List Value, (∀ v ∈ l, ∃ (a : Addr) (its : List Value) (k : List Key), v = .ref a /\ Vals (k.map kV) its /\ IsTup s'.heap a its.toArray /\ k.map isS = c :: sh') -> ∃ fs, KatTups s'.heap l fs /\ fs.length = l.length /\ ∀ v ∈ fs, Looks (model X.prog X.w) s'.heap (typeOf v) (.type (if c then "str" else "int")) := fun l => by
   induction l with
   | nil => exact fun _ => ⟨[], .nil, rfl, fun _ h => nomatch h⟩
   | cons v l ih =>
    intro h
    obtain ⟨fs, h1, h2, h3⟩ := ih fun v hv => h v (List.mem_cons_of_mem _ hv)
    obtain ⟨a, its, k, rfl, rv, ⟨o, ho, hc, n, hd⟩, hk⟩ := h v List.mem_cons_self
    match k, its, rv, hk with
    | k0 :: k, u :: its, .cons r0 _, hk =>
     refine ⟨u :: fs, .cons ho hc hd (by simp) h1, by simp [h2], fun v hv => ?_⟩
     rcases List.mem_cons.mp hv with e | hv
     ·subst e
      have e0 := (List.cons.inj hk).1
      cases k0 with
      | inl i =>
       obtain ⟨t, rfl⟩ := r0
       rw [<- e0]
       exact .now
      | inr x =>
       obtain ⟨t, rfl⟩ := r0
       rw [<- e0]
       exact .now
     ·exact h3 v hv
  obtain ⟨fs, h1, h3, h4⟩ := firsts vs fun v hv => by
   obtain ⟨k, hk, rfl⟩ := List.getElem_of_mem hv
   obtain ⟨a, its, e, rv, ti, m⟩ := look k hk
   refine ⟨a, its, _, ?_, rv, ti, hal _ m⟩
   rw [<- e]
   simp [hk]
  refine kat_kind h1 (by omega) h4 (by cases c <;> decide) ?_
  have e : ((Value.type (if c then "str" else "int")) != Value.type "tuple") = true := by cases c <;> decide
  rw [e]
  exact q
 ·unfold kas_ask
  obtain ⟨a, its, e1, r1, ⟨o, ho, _, n, hd⟩, m1⟩ := look i hi
  obtain ⟨b, its2, e2, r2, ⟨o2, ho2, _, n2, hd2⟩, m2⟩ := look j hj
  rw [e1, e2]
  refine kat_lt ho hd ho2 hd2 ?_
  have l1 := r1.length
  have l2 := r2.length
  have l3 := congrArg List.length ((hal _ m1).trans (hal _ m2).symm)
  simp only [List.length_map] at l1 l2 l3
  rw [show decide (its.toArray.size < its2.toArray.size) = false by simp; omega]
  exact katlex_keys 0 r1 r2 ((hal _ m1).trans (hal _ m2).symm) hC
end L2
set_option Elab.async false
set_option linter.all false
set_option maxRecDepth 100000
namespace EvD
open PySem PySem.W PyProof.Rows
section
variable {prog : Program} {w : World} {A : Around} {E : Value -> Shared -> Prop} {s : Shared}
def Raw (h : Heap) (d : Addr) (es : Array DictEntry) (ep : Nat) : Prop := ∃ o, h.get? d = some o /\ o.ExactDict /\ o.data = .dict es ep
theorem Raw.stay {h h' : Heap} {d : Addr} {es : Array DictEntry} {ep : Nat} (x : Raw h d es ep) (k : ∀ o, h.get? d = some o -> h'.get? d = some o) : Raw h' d es ep := let ⟨o, e, r⟩ := x; ⟨o, k o e, r⟩
theorem Raw.ty {d : Addr} {es : Array DictEntry} {ep : Nat} (x : Raw s.heap d es ep) : s.TypeIs (.ref d) "dict" := let ⟨o, e, c, _⟩ := x; ⟨o, e, c.1⟩
theorem raw_iter {d : Addr} {es : Array DictEntry} {ep : Nat} {Q : Value -> Shared -> Prop} (hd : (d == sysModules) = false) (x : Raw s.heap d es ep)
  (q : Q (.ref s.heap.objs.size) { s with heap := s.heap.push { cls := .type "dict_keyiterator", data := .fields #[.ref d, .int 0 0, .int es.size 0, .int ep 0] } }) :
  wpAny (model prog w) A (pyIter (.ref d)) Q E s := by
 obtain ⟨o, ho, hc, hdat⟩ := id x
 refine wpAny_pyIter_slot x.ty F.slot_dict_iter (wpAny_call_entry F.slot_dict_iter x.ty F.entry_dict_iter ?_ (F.args_dict_iter_1 _))
 unfold Builtin.«dict.__iter__» Builtin.Dict.dictSlotNone
 refine wpAny_bind (wpAny_bind (wpAny_notOrdered_dict x.ty (show wpAny _ _ (pure (Value.ref d)) _ _ s from wpAny_pure (show wpAny _ _ (Builtin.Dict.showsAll d >>= _) _ _ s from ?_))))
 unfold Builtin.Dict.showsAll
 rw [if_neg (by rw [hd]; decide)]
 refine wpAny_bind (wpAny_pure (wpAny_bind (wpAny_dictEntries ho hdat (wpAny_bind (wpAny_dictEpoch ho hdat (wpAny_bind (wpAny_newObj_type (wpAny_pure ⟨_, rfl, "dict_keyiterator", _, ⟨_, Heap.get?_push_size _ rfl, rfl⟩, F.slot_dict_keyiterator_next.lookup, ?_⟩))))))))
 exact q
theorem raw_next {it d : Addr} {i ep : Nat} {es : Array DictEntry} {Q : Option Value -> Shared -> Prop} (hit : s.heap.IsKeyIter it d i es.size ep) (x : Raw s.heap d es ep) (hi : i < es.size)
  (q : ∀ h', h'.IsKeyIter it d (i + 1) es.size ep -> Heap.SameBut it s.heap h' -> Q (some es[i].key) { s with heap := h' }) : wpAny (model prog w) A (pyNext (.ref it)) Q E s := by
 obtain ⟨o, ho, hc, hd⟩ := id hit
 obtain ⟨od, hod, hcd, hdd⟩ := id x
 unfold pyNext
 refine wpAny_bind (wpAny_attempt (wpAny_callSpecial?_slot (name := Str.ofString "__next__") hit.typeIs F.slot_dict_keyiterator_next (wpAny_call_entry F.slot_dict_keyiterator_next hit.typeIs F.entry_dict_keyiterator_next ?_ (F.args_dict_keyiterator_next_1 _))))
 refine wpAny_bind (wpAny_pure (wpAny_bind (wpAny_bind ?_)))
 first | refine wpAny_bind (wpAny_typeNameOfWhole_keyiter hit.typeIs (wpAny_pure (wpAny_bind (wpAny_fieldsOf ho hd ?_)))) | refine wpAny_bind (wpAny_typeNameOf_keyiter hit.typeIs (wpAny_pure (wpAny_bind (wpAny_fieldsOf ho hd ?_))))
 simp only [show Builtin.Dict_items.ownsTuple "dict_keyiterator" = false by decide, Bool.false_eq_true, if_false]
 refine (show wpAny _ _ (if (Value.ref d == Value.none) = true then _ else _) _ _ s from ?_)
 rw [if_neg (fun z => by cases z)]
 refine wpAny_bind (wpAny_pure (wpAny_bind (wpAny_dictEntries hod hdd ?_)))
 rw [if_neg (by simp)]
 refine wpAny_bind (wpAny_pure (wpAny_bind (wpAny_dictEpoch hod hdd ?_)))
 rw [if_neg (by simp)]
 refine wpAny_pure ?_
 simp only [show ¬ ((i : Int) < 0) from by omega, if_false, Int.toNat_natCast, Array.getElem?_eq_getElem hi]
 refine wpAny_bind ?_
 first | refine wpAny_bind (wpAny_typeNameOfWhole_keyiter hit.typeIs (wpAny_pure (wpAny_bind (wpAny_isOneOf_keyiter hit.typeIs ?_)))) | refine wpAny_bind (wpAny_typeNameOf_keyiter hit.typeIs (wpAny_pure (wpAny_bind (wpAny_isOneOf_keyiter hit.typeIs ?_))))
 refine (show wpAny _ _ (setField (.ref it) 1 (rawInt ((i : Int) + 1)) >>= _) _ _ s from wpAny_bind (wpAny_setField ho hd (by simp) ?_))
 have turned : (s.heap.update it (Obj.mapFields (·.setIfInBounds 1 (rawInt ((i : Int) + 1))))).IsKeyIter it d (i + 1) es.size ep :=
  ⟨_, Heap.get?_update_self _ ho (Obj.isFreed_of_fields (Obj.data_mapFields hd _)), (Obj.cls_mapFields ..).trans hc, by rw [Obj.data_mapFields hd]; simp [rawInt]⟩
 refine wpAny_bind (wpAny_holding (wpAny_bind (wpAny_isOneOf_keyiter (s := { s with heap := s.heap.update it (Obj.mapFields (·.setIfInBounds 1 (rawInt ((i : Int) + 1)))) }) turned.typeIs ?_)))
 exact (show wpAny _ _ (pure es[i].key) _ _ _ from wpAny_pure (wpAny_pure ⟨_, rfl, wpAny_pure (q _ turned (Heap.SameBut.update ..))⟩))
theorem raw_stop {it d : Addr} {ep : Nat} {es : Array DictEntry} {Q : Option Value -> Shared -> Prop} (hh : A.handled = none) (hit : s.heap.IsKeyIter it d es.size es.size ep) (x : Raw s.heap d es ep)
  (q : ∀ h', Heap.ExtBut it s.heap h' -> Q none { s with heap := h' }) : wpAny (model prog w) A (pyNext (.ref it)) Q E s := by
 obtain ⟨o, ho, hc, hd⟩ := id hit
 obtain ⟨od, hod, hcd, hdd⟩ := id x
 unfold pyNext
 refine wpAny_bind (wpAny_attempt (wpAny_callSpecial?_slot (name := Str.ofString "__next__") hit.typeIs F.slot_dict_keyiterator_next (wpAny_call_entry F.slot_dict_keyiterator_next hit.typeIs F.entry_dict_keyiterator_next ?_ (F.args_dict_keyiterator_next_1 _))))
 refine wpAny_bind (wpAny_pure (wpAny_bind (wpAny_bind ?_)))
 first | refine wpAny_bind (wpAny_typeNameOfWhole_keyiter hit.typeIs (wpAny_pure (wpAny_bind (wpAny_fieldsOf ho hd ?_)))) | refine wpAny_bind (wpAny_typeNameOf_keyiter hit.typeIs (wpAny_pure (wpAny_bind (wpAny_fieldsOf ho hd ?_))))
 simp only [show Builtin.Dict_items.ownsTuple "dict_keyiterator" = false by decide, Bool.false_eq_true, if_false]
 refine (show wpAny _ _ (if (Value.ref d == Value.none) = true then _ else _) _ _ s from ?_)
 rw [if_neg (fun z => by cases z)]
 refine wpAny_bind (wpAny_pure (wpAny_bind (wpAny_dictEntries hod hdd ?_)))
 rw [if_neg (by simp)]
 refine wpAny_bind (wpAny_pure (wpAny_bind (wpAny_dictEpoch hod hdd ?_)))
 rw [if_neg (by simp)]
 refine wpAny_pure ?_
 simp only [show ¬ ((es.size : Int) < 0) from by omega, if_false, Int.toNat_natCast, Array.getElem?_eq_none (Nat.le_refl _)]
 refine wpAny_bind ?_
 first | refine wpAny_bind (wpAny_typeNameOfWhole_keyiter hit.typeIs (wpAny_pure ?g)) | refine wpAny_bind (wpAny_typeNameOf_keyiter hit.typeIs (wpAny_pure ?g))
 refine (show wpAny _ _ (setField (.ref it) 0 .none >>= _) _ _ s from wpAny_bind (wpAny_setField ho hd (by simp) (show wpAny _ _ (newExc (.type "StopIteration") [] >>= _) _ _ _ from wpAny_bind ?_)))
 simp only [newExc, newTuple]
 refine wpAny_bind (wpAny_newObj_type (wpAny_bind (m := firstArgMember _ _) (wpAny_of_eq (a := Value.none) (by first | rfl | (simp only [firstArgMember]; rfl)) (wpAny_newObj_type ?_ (by size_fits)))) (by size_fits))
 simp only [raiseNew]
 refine wpAny_bind (wpAny_handled ?_)
 rw [show A.in1.handled = none from hh]
 refine wpAny_bind (wpAny_pure (wpAny_throw ?_))
 exact wpAny_bind (wpAny_isInstance (T := "StopIteration") (b := true) ⟨_, Heap.get?_push_size _ rfl, rfl⟩ isSubtype_stop (wpAny_pure (q _ (((Heap.SameBut.update ..).extBut.push _).push _))))
theorem raw_walks (hh : A.handled = none) (I d : Addr) (hne : d ≠ I) (es : Array DictEntry) (ep : Nat) :
  Walks prog w A I [I, d] [I] es.size (fun i v => ∃ h : i < es.size, v = es[i].key) (fun i h => h.IsKeyIter I d i es.size ep /\ Raw h d es ep) where
 sub := fun b hb => by simp only [List.mem_singleton] at hb; simp [hb]
 frame := fun _ _ _ st k => ⟨st.1.at fun o e => k I (by simp) o e, st.2.stay fun o e => k d (by simp) o e⟩
 item := fun i s Q E hi st hQ => raw_next st.1 st.2 hi fun h' hit' hs' => hQ _ h' s.toks ⟨hi, rfl⟩ ⟨hit', st.2.stay fun o e => hs'.extBut d o hne e⟩ fun b o hb e => hs'.extBut b o (fun h => hb (by simp [h])) e
 done := fun s Q E st hQ => raw_stop hh st.1 st.2 fun h' he' => hQ h' s.toks fun b o hb e => he' b o (fun h => hb (by simp [h])) e
 self := fun _ _ _ _ st hQ => wpAny_pyIter_keyiter st.1 hQ
theorem raw_src {d : Addr} {es : Array DictEntry} {ep : Nat} (lo : (d == sysModules) = false) : KdlSrc prog w "dict" d d es.size (fun i v => ∃ h : i < es.size, v = es[i].key) (fun h => Raw h d es ep) where
 type := fun s x => x.ty
 there := fun h x => let ⟨o, e, _⟩ := x; ⟨Heap.lt_size e, Heap.lt_size e⟩
 keep := fun h h' x k => x.stay fun o e => k d (.inl rfl) o e
 notList := by decide
 notTuple := by decide
 hint := fun _ _ s _ x q => kdl_hint_dict x.ty q
 iter := fun A s hh x => ⟨_, _, fun E Q q => raw_iter lo x q, raw_walks hh _ d (let ⟨o, e, _⟩ := x; Nat.ne_of_lt (Heap.lt_size e)) es ep, ⟨⟨_, Heap.get?_push_size _ rfl, rfl, rfl⟩, x.stay fun o e => Heap.get?_push_of_some _ e⟩⟩
end
end EvD
set_option Elab.async false
set_option linter.all false
set_option maxRecDepth 100000
namespace EvD
open PySem PySem.W PyProof.Rows
theorem list_keys_none : typeLookup (.type "list") "keys" = pure none := by rw [typeLookup_type, builtinLookup_eq_fast]; kernel_rfl
theorem miss_keys {prog : Program} {w : World} {A : Around} {s : Shared} {a : Addr} {xs : Array Value} {k : Nat} {tk : Tok} {R : Result -> Shared -> Prop} (hx : s.heap.get? a = some (seqObj "list" xs k)) (h : raisesAttr (.ref a) "keys" A R s) :
  codeAny (model prog w) A (.call (.builtin "list.__getattribute__") ⟨[.ref a, .str "keys" tk], []⟩) R s := by
 refine codeAny_call_builtin F.slot_list_getattribute.plain am_entry_list_getattribute (F.slot_list_getattribute.check _ _ _ _ _ _ _ _ ⟨_, hx, rfl⟩ (F.args_list_getattribute_2 _ _) ?_)
 exact meets_getattribute_miss_list a xs k #[] "keys" tk list_keys_none (by decide) (by size_fits) prog w A R s ⟨hx, h⟩
theorem noKeys {prog : Program} {w : World} {A : Around} {E : Value -> Shared -> Prop} {s : Shared} {a : Addr} {xs : Array Value} {k : Nat} {Q : Option Value -> Shared -> Prop} (hx : s.heap.get? a = some (seqObj "list" xs k)) (hA : A.handled = none)
  (h : ∀ h' tk, (∀ b o, s.heap.get? b = some o -> h'.get? b = some o) -> Q none { s with heap := h', toks := tk }) : wpAny (model prog w) A (getAttr? (.ref a) "keys") Q E s := by
 obtain ⟨hp, g, d, tk, os⟩ := s
 have ty : ∀ tk', (⟨hp, g, d, tk', os⟩ : Shared).TypeIs (.ref a) "list" := fun _ => ⟨_, hx, rfl⟩
 have f1 := sub_AttributeError
 have f2 := F.slot_list_getattribute.lookup
 have f3 := F.slot_list_getattribute.bind (.ref a)
 have f4 := am_list_getattr_none
 unfold getAttr? getAttrBy? getAttrBy
 repeat (any_goals (first | assumption | exact ty _ | wp_step))
 refine miss_keys hx ⟨hA, fun h' tk' e hx' => ?_⟩
 obtain ⟨t', u', he⟩ := hx'.there
 show wpAny _ _ (getattributeRaised _ _ _ _ _ _ _) _ _ _
 unfold getattributeRaised
 repeat (any_goals (first | assumption | wp_step))
 exact h _ _ hx'.keeps
end EvD
set_option Elab.async false
set_option linter.all false
set_option maxRecDepth 100000
namespace EvD
open PySem PySem.W PyProof.Rows
theorem entry_upl : entryFor table "dict.update.loop" = some Builtin.«dict.update.loop» := entryFor_of_tree (by kernel_rfl)
theorem plain_upl : plainId "dict.update.loop" = true := by decide +kernel
theorem upl_eq (d it : Addr) (i : Int) (tk : Tok) : Builtin.«dict.update.loop» ⟨[.ref d, .ref it, .int i tk, .none], []⟩ = (do
  let r <- pyNext (.ref it)
  match r with
  | none => do Builtin.Dict.addKeywords d []; ret .none
  | some item => do
   holding [item] (do
    let pair <- (Builtin.Dict.pairItems item).tryCatch fun e => do
     if !(<- isInstance e (.type "TypeError")) then throw e
     rule "dict.update.element-no-sequence"
     raiseError "TypeError" s!"cannot convert dictionary update sequence element #{i} to a sequence"
    match pair with
    | [k, v] => holding [k, v] (dictSet d k v)
    | l => do
     rule "dict.update.element-length"
     raiseError "ValueError" s!"dictionary update sequence element #{i} has length {l.length}; 2 is required")
   again (.builtin "dict.update.loop" ⟨[.ref d, .ref it, rawInt (i + 1), .none], []⟩)) := by
 unfold Builtin.«dict.update.loop»
 refine congrArg (fun f => pyNext (.ref it) >>= f) (funext fun r => ?_)
 cases r <;> rfl
section
variable {prog : Program} {w : World} {K : Type} [DecidableEq K] {knd : PySem.KeyKind prog w K} {A : Around}
def PairsIn (knd : PySem.KeyKind prog w K) (h : Heap) : List Value -> List (K × Value) -> Prop := Paired fun v p => ∃ a key, v = .ref a /\ IsTup h a #[key, p.2] /\ knd.is p.1 key = true
def mergeP (kvs : List (K × Value)) (ps : List (K × Value)) : List (K × Value) := ps.foldl (fun acc p => stored acc p.1 p.2) kvs
theorem stored_len (kvs : List (K × Value)) (k : K) (v : Value) : (stored kvs k v).length <= kvs.length + 1 := by
 unfold stored
 split
 ·simp
 ·simp
theorem tup_ne_iter {h : Heap} {b it l : Addr} {i : Nat} {ys : Array Value} (t : IsTup h b ys) (q : h.IsListIter it l i) : b ≠ it := fun z => by
 obtain ⟨o, ho, hc, _⟩ := t
 obtain ⟨o2, ho2, hc2, _⟩ := q
 subst z
 rw [ho] at ho2
 cases ho2
 rw [hc] at hc2
 exact absurd hc2 (by decide)
theorem tup_ne_dict {h : Heap} {b d : Addr} {ys : Array Value} {kvs : List (K × Value)} (t : IsTup h b ys) (q : h.DictOf knd d kvs) : b ≠ d := fun z => by
 obtain ⟨o, ho, hc, _⟩ := t
 obtain ⟨o2, es, ep, ho2, hc2, _⟩ := q
 subst z
 rw [ho] at ho2
 cases ho2
 have hc3 := hc2.1
 rw [hc] at hc3
 exact absurd hc3 (by decide)
theorem dict_stay {h h' : Heap} {d : Addr} {kvs : List (K × Value)} (q : h.DictOf knd d kvs) (k : ∀ o, h.get? d = some o -> h'.get? d = some o) : h'.DictOf knd d kvs := by
 obtain ⟨o, es, ep, ho, r⟩ := q
 exact ⟨o, es, ep, k _ ho, r⟩
theorem upl_step {it l d a : Addr} {i : Nat} {its : List Value} {key x : Value} {k : K} {kvs : List (K × Value)} {s : Shared} {R : Result -> Shared -> Prop} {tk : Tok} (hdi : d ≠ it) (hi : its.toArray[i]? = some (.ref a)) (ht : IsTup s.heap a #[key, x]) (hk : knd.is k key = true)
  (hit : s.heap.IsListIter it l i) (hl : s.heap.IsList l its.toArray) (hd : s.heap.DictOf knd d kvs) (hz : kvs.length <= 1000)
  (hR : ∀ h2, h2.DictOf knd d (stored kvs k x) -> (∀ b o, b ≠ d -> b ≠ it -> s.heap.get? b = some o -> h2.get? b = some o) -> h2.IsListIter it l (i + 1) -> codeAny (model prog w) A (.builtin "dict.update.loop" ⟨[.ref d, .ref it, rawInt ((i : Int) + 1), .none], []⟩) R { s with heap := h2, toks := s.toks + 1 }) :
  codeAny (model prog w) A (.builtin "dict.update.loop" ⟨[.ref d, .ref it, .int i tk, .none], []⟩) R s := by
 refine codeAny_builtin entry_upl ?_
 rw [Around.under_plainId plain_upl _, upl_eq]
 refine wpAny_bind (wpAny_pyNext_list_item hit hl hi fun h1 hit1 hs1 => ?_)
 obtain ⟨ot, hot, hct, nt, hdt⟩ := id ht
 have hot1 : h1.get? a = some ot := hs1.extBut _ _ (tup_ne_iter ht hit) hot
 refine wpAny_bind (wpAny_holding (wpAny_bind (wpAny_tryCatch ?_)))
 unfold Builtin.Dict.pairItems
 refine wpAny_bind (wpAny_typeOf (T := "tuple") ⟨ot, hot1, hct⟩ ?_)
 rw [if_pos (by decide)]
 unfold seqItems?
 refine wpAny_bind (wpAny_bind (wpAny_load hot1 ?_))
 rw [hdt]
 refine wpAny_pure (wpAny_pure ?_)
 refine (show wpAny _ _ (holding [key, x] (dictSet d key x)) _ _ _ from wpAny_holding (wpAny_dictSet_pairs hk (dict_stay hd fun o q => hs1.extBut _ _ hdi q) (fun h2 hd2 hs2 => ?_) (by have := sizeLine_eq; omega)))
 exact wpAny_pure ⟨plainId_quiet plain_upl _, hR h2 hd2 (fun b o h3 h4 q => hs2.extBut _ _ h3 (hs1.extBut _ _ h4 q)) (hit1.extBut hs2.extBut (Ne.symm hdi))⟩
theorem upl_end {it l d : Addr} {i : Nat} {its : List Value} {kvs : List (K × Value)} {s : Shared} {R : Result -> Shared -> Prop} {tk : Tok} (hdi : d ≠ it) (hh : A.handled = none) (hi : its.toArray[i]? = none)
  (hit : s.heap.IsListIter it l i) (hl : s.heap.IsList l its.toArray) (hd : s.heap.DictOf knd d kvs)
  (hR : ∀ h', h'.DictOf knd d kvs -> (∀ b o, b ≠ it -> s.heap.get? b = some o -> h'.get? b = some o) -> R (.ok (.ret .none)) { s with heap := h' }) :
  codeAny (model prog w) A (.builtin "dict.update.loop" ⟨[.ref d, .ref it, .int i tk, .none], []⟩) R s := by
 refine codeAny_builtin entry_upl ?_
 rw [Around.under_plainId plain_upl _, upl_eq]
 refine wpAny_bind (wpAny_pyNext_list_end hh hit hl hi fun h' he => ?_)
 exact wpAny_bind (m := Builtin.Dict.addKeywords d []) (wpAny_pure (wpAny_pure (hR h' (dict_stay hd fun o q => he _ _ hdi q) fun b o hb q => he b o hb q)))
theorem upl_go {it l d : Addr} (hil : l ≠ it) (hdi : d ≠ it) (hdl : d ≠ l) (hh : A.handled = none) {its : List Value} (rest : List Value) : ∀ (ps : List (K × Value)) (i : Nat) (kvs : List (K × Value)) (s : Shared) (R : Result -> Shared -> Prop) (tk : Tok), its.drop i = rest -> PairsIn knd s.heap rest ps ->
  s.heap.IsListIter it l i -> s.heap.IsList l its.toArray -> s.heap.DictOf knd d kvs -> kvs.length + ps.length <= 1000 ->
  (∀ h' tk', h'.DictOf knd d (mergeP kvs ps) -> (∀ b o, b ≠ d -> b ≠ it -> s.heap.get? b = some o -> h'.get? b = some o) -> R (.ok (.ret .none)) { s with heap := h', toks := tk' }) ->
  codeAny (model prog w) A (.builtin "dict.update.loop" ⟨[.ref d, .ref it, .int i tk, .none], []⟩) R s := by
 induction rest with
 | nil =>
  intro ps i kvs s R tk e hp hit hl hd hz hR
  cases hp
  have hi : its.toArray[i]? = none := by
   have := congrArg List.length e
   simp only [List.length_drop, List.length_nil] at this
   simp
   omega
  exact upl_end hdi hh hi hit hl hd fun h' hd' kp => hR h' s.toks hd' fun b o _ hb q => kp b o hb q
 | cons v rest ih =>
  intro ps i kvs s R tk e hp hit hl hd hz hR
  cases hp with
  | @cons _ p _ ps h0 hr =>
  obtain ⟨a, key, hv, ht, hk⟩ := h0
  obtain ⟨k, x⟩ := p
  subst hv
  have hi : its.toArray[i]? = some (.ref a) := by
   have q : (its.drop i)[0]? = some (.ref a) := by rw [e]; rfl
   rw [List.getElem?_drop] at q
   simpa using q
  have e' : its.drop (i + 1) = rest := by
   rw [<- List.drop_drop, e]
   rfl
  simp only [List.length_cons] at hz
  refine upl_step hdi hi ht hk hit hl hd (by omega) fun h2 hd2 kp hit2 => ?_
  have c1 : ((i : Int) + 1) = ((i + 1 : Nat) : Int) := by omega
  rw [c1]
  refine ih ps (i + 1) (stored kvs k x) _ R 0 e' (L2.Paired.mapP hr fun v p ⟨b, ky, e1, t1, k1⟩ => ⟨b, ky, e1, ?_, k1⟩) hit2 (hl.at fun o q => kp _ _ (Ne.symm hdl) hil q) hd2 (by have := stored_len kvs k x; omega) fun h' tk' hd' kp' => hR h' tk' hd' fun b o h3 h4 q => kp' b o h3 h4 (kp b o h3 h4 q)
  obtain ⟨o, ho, r⟩ := id t1
  exact ⟨o, kp _ _ (tup_ne_dict t1 hd) (tup_ne_iter t1 hit) ho, r⟩
theorem call_dict_of {E : Value -> Shared -> Prop} {s : Shared} {l : Addr} {its : List Value} {n : Nat} {ps : List (K × Value)} {Q : Value -> Shared -> Prop} (hh : A.handled = none) (ho : s.heap.get? l = some (seqObj "list" its.toArray n)) (hp : PairsIn knd s.heap its ps) (hz : ps.length <= 1000)
  (h : ∀ h' tk', h'.DictOf knd s.heap.objs.size (mergeP [] ps) -> (∀ b o, s.heap.get? b = some o -> h'.get? b = some o) -> Q (.ref s.heap.objs.size) { s with heap := h', toks := tk' }) :
  wpAny (model prog w) A (call (.type "dict") [.ref l]) Q E s := by
 refine callType_codes (Q₁ := fun obj s₁ => obj = .ref s.heap.objs.size /\ s₁ = { s with heap := s.heap.push { cls := .type "dict", data := .dict #[] } }) F.kt_called_dict (F.kt_typeCall_dict_1 _) F.entry_dict_init (kt_code_dict_new _ ⟨rfl, rfl⟩) ?_
 rintro obj s₁ ⟨rfl, rfl⟩
 have hnew : (s.heap.push { cls := .type "dict", data := .dict #[] }).DictOf knd s.heap.objs.size [] := Heap.DictOf.new s.heap
 have hl1 : (s.heap.push { cls := .type "dict", data := .dict #[] }).get? l = some (seqObj "list" its.toArray n) := Heap.get?_push_of_some _ ho
 refine ⟨hnew.typeIs, F.args_dict_init_2 _ _, ?_⟩
 unfold Builtin.«dict.__init__» Builtin.Dict.selfAndRest
 refine wpAny_bind (wpAny_bind (wpAny_notOrdered_dict hnew.typeIs ?_))
 refine (show wpAny _ _ (pure (s.heap.objs.size, [Value.ref l])) _ _ _ from wpAny_pure ?_)
 refine (show wpAny _ _ (Builtin.Dict.updateFrom "dict.__init__" s.heap.objs.size (.ref l) [] .none) _ _ _ from ?_)
 unfold Builtin.Dict.updateFrom
 refine wpAny_bind (wpAny_typeOf (T := "list") ⟨_, hl1, rfl⟩ ?_)
 rw [if_pos (by decide)]
 refine wpAny_bind (noKeys hl1 hh fun h2 tk2 k2 => ?_)
 simp only [Option.isNone_none, if_true]
 have hl2 : h2.get? l = some (seqObj "list" its.toArray n) := k2 _ _ hl1
 refine wpAny_bind (wpAny_rule (wpAny_bind (wpAny_pyIter_list ⟨_, hl2, rfl, _, rfl⟩ ?_)))
 refine wpAny_pure ⟨plainId_quiet plain_upl _, ?_⟩
 have all : ∀ {b o}, s.heap.get? b = some o -> (h2.push { cls := .type "list_iterator", data := .fields #[.ref l, .int 0 0] }).get? b = some o := fun q => Heap.get?_push_of_some _ (k2 _ _ (Heap.get?_push_of_some _ q))
 have hd2 : h2.DictOf knd s.heap.objs.size [] := by
  obtain ⟨o, es, ep, ho, r⟩ := hnew
  exact ⟨o, es, ep, k2 _ _ ho, r⟩
 have sz2 : s.heap.objs.size < h2.objs.size := by
  obtain ⟨o, es, ep, ho, r⟩ := hd2
  exact Heap.lt_size ho
 have lz : l < s.heap.objs.size := Heap.lt_size ho
 refine upl_go (A := A.in1) (knd := knd) (its := its) (it := h2.objs.size) (l := l) (d := s.heap.objs.size) (Nat.ne_of_lt (Nat.lt_trans lz sz2)) (Nat.ne_of_lt sz2) (Nat.ne_of_gt lz) hh its ps 0 [] _ _ 0 rfl (L2.Paired.mapP hp fun v p ⟨b, ky, e1, t1, k1⟩ => ⟨b, ky, e1, t1.keeps fun b o q => all q, k1⟩)
  ⟨_, Heap.get?_push_size _ rfl, rfl, rfl⟩ ⟨_, Heap.get?_push_of_some _ hl2, rfl, _, rfl⟩ (by
   obtain ⟨o, es, ep, ho, r⟩ := hd2
   exact ⟨o, es, ep, Heap.get?_push_of_some _ ho, r⟩) (by simpa using hz) fun h' tk' hd' kp => ⟨rfl, h h' tk' hd' fun b o q => ?_⟩
 have bl : b < s.heap.objs.size := Heap.lt_size q
 exact kp b o (Nat.ne_of_lt bl) (Nat.ne_of_lt (Nat.lt_trans bl sz2)) (all q)
end
end EvD
set_option Elab.async false
set_option linter.all false
set_option maxRecDepth 100000
namespace L2
open PySem PySem.Spec PyProof.Rows PySem.W EvS EvD
theorem TupsAt.same {K : PySem.W.Frag} {H H' : Hp} {ys : List V} {ks : List (List Key)} (t : TupsAt K H ys ks) (e : Same H H') : TupsAt K H' ys ks := Paired.mapP t fun y k ⟨a, z, q⟩ => ⟨a, z, e _ _ q⟩
theorem Same.new {H : Hp} {l : Addr} {o : HO} (h : H l = none) : Same H (upd H l o) := fun b u e => by rw [upd_ne (ne_of_none e h)]; exact e
section
variable {X : Cx} {pins : List (Addr × Obj)} {σ : St} {H H' : Hp} {s : Shared} {h' : Heap} {t' : Nat}
theorem Inv.many (I : Inv X pins σ H s) (k : ∀ b o, s.heap.get? b = some o -> h'.get? b = some o) (hold : Same H H') (hnew : ∀ b, H b = none -> b < s.heap.objs.size -> H' b = none)
  (hob : ∀ b o, H' b = some o -> H b = none -> ∃ xs its, o = .tup xs /\ xs.length <= sizeLine /\ Vals xs its /\ IsTup h' b its.toArray /\ ∃ o, h'.get? b = some o /\ o.dict = none) : Inv X pins σ H' { s with heap := h', toks := t' } := by
 refine I.un ⟨fun b o q _ _ _ => k b o q, fun b o q _ _ _ => ⟨o.slots, k b o q⟩, fun b o q n _ => hnew b n (Heap.lt_size q), fun b o q _ => ⟨o, k b o q⟩, fun b xs q => hold b _ q, fun b o u q => hold b _ q, fun b ps q => ⟨#[], by rw [Array.append_empty]; exact hold b _ q⟩⟩ fun b o q => ?_
 cases e : H b with
 | some u =>
  have e2 := hold b u e
  rw [q] at e2
  cases e2
  exact (I.hok b o e).stay (fun c v _ z => k c v z) (fun c z => hold c _ z) fun c xs z => hold c _ z
 | none =>
  obtain ⟨xs, its, rfl, z, r, t⟩ := hob b o q e
  exact ⟨z, its, r, t⟩
end
section
variable {X : Cx} {pins : List (Addr × Obj)} {σ : St} {H : Hp} {s : Shared} {A : Around} {E : Value -> Shared -> Prop}
theorem items_vals {P : Nat -> Value -> Prop} {acc : Array Value} {ys : List V} (h : ItemsOf P acc ys.length) (hp : ∀ (j : Nat) v, P j v -> ∀ y, ys[j]? = some y -> RelV y v) : Vals ys acc.toList := by
 have gen : ∀ (ys : List V) (vs : List Value), ys.length = vs.length -> (∀ (j : Nat) y v, ys[j]? = some y -> vs[j]? = some v -> RelV y v) -> Vals ys vs := fun ys => by
  induction ys with
  | nil =>
   intro vs hl _
   cases vs with
   | nil => exact .nil
   | cons _ _ => cases hl
  | cons y ys ih =>
   intro vs hl h
   cases vs with
   | nil => cases hl
   | cons v vs => exact .cons (h 0 y v rfl rfl) (ih vs (by simpa using hl) fun j y v a b => h (j + 1) y v (by simpa using a) (by simpa using b))
 refine gen ys acc.toList (by rw [Array.length_toList]; exact h.1.symm) fun j y v a b => hp j v (h.2 j v ?_) y a
 rw [<- Array.getElem?_toList]
 exact b
theorem src_dK {d : Addr} {kvs : List (Key × V)} (I : Inv X pins σ H s) (h : Rd H d (.dK kvs)) : ∃ (P : Nat -> Value -> Prop) (OK : Heap -> Prop), KdlSrc X.prog X.w "dict" d d (kvs.map fun kv => kV kv.1).length P OK /\ OK s.heap /\ ∀ (j : Nat) v, P j v -> ∀ y, (kvs.map fun kv => kV kv.1)[j]? = some y -> RelV y v := by
 obtain ⟨z, hd, vs, rel, dd⟩ := dk_rd I.hok h
 obtain ⟨ep, dat⟩ := dd.dictAt
 have hl := rel.length
 refine ⟨fun i v => ∃ k x, vs[i]? = some (k, x) /\ (mixKind X.prog X.w).is k v = true, fun h => h.DictAt (mixKind X.prog X.w) d vs ep, (by rw [List.length_map, hl]; exact kdl_dict (knd := mixKind X.prog X.w) (kvs := vs) (ep := ep) hd), dat, fun j v ⟨k, x, e, hk⟩ y hy => ?_⟩
 rw [List.getElem?_map] at hy
 have ek : kvs.map (·.1) = vs.map (·.1) := rel.keys
 have e2 : (kvs.map (·.1))[j]? = (vs.map (·.1))[j]? := by rw [ek]
 rw [List.getElem?_map, List.getElem?_map, e] at e2
 cases e3 : kvs[j]? with
 | none => rw [e3] at e2; cases e2
 | some kv =>
  rw [e3] at e2 hy
  have e4 : kv.1 = k := Option.some.inj e2
  have e5 : kV kv.1 = y := Option.some.inj hy
  rw [<- e5, e4]
  have hk : keyIs k v = true := hk
  rcases keyIs_shape hk with ⟨i, t, rfl, rfl⟩ | ⟨x, t, rfl, rfl⟩
  ·exact ⟨t, rfl⟩
  ·exact ⟨t, rfl⟩
theorem col_dK {d : Addr} {kvs : List (Key × V)} {R : List Value -> Shared -> Prop} (hh : A.handled = none) (I : Inv X pins σ H s) (h : Rd H d (.dK kvs)) (q : ∀ vs s1, Inv X pins σ H s1 -> Vals (kvs.map fun kv => kV kv.1) vs -> R vs s1) : wpAny (model X.prog X.w) A (collect (.ref d)) R E s := by
 obtain ⟨P, OK, S, ok, hp⟩ := src_dK I h
 refine kdu_collect S hh ok ?_ fun h' tk acc k a => q _ _ (I.kept k) (items_vals a hp)
 rw [List.length_map]
 exact (dk_rd I.hok h).1
theorem src_dT {d : Addr} {kvs : List (List Key × V)} (I : Inv X pins σ H s) (h : Rd H d (.dT kvs)) : ∃ (ys : List V) (P : Nat -> Value -> Prop) (OK : Heap -> Prop), TupsAt X.K H ys (kvs.map (·.1)) /\ ys.length <= sizeLine /\ KdlSrc X.prog X.w "dict" d d ys.length P OK /\ OK s.heap /\ ∀ (j : Nat) v, P j v -> ∀ y, ys[j]? = some y -> RelV y v := by
 obtain ⟨z, hd, xs, rel, o, es, ep, ho, hc, hdat, hes, nd⟩ := h.ok I.hok
 have l1 : es.size = xs.length := by
  have := congrArg List.length hes
  simpa using this
 have l2 := Paired.length rel
 refine ⟨xs.map fun x => V.ref x.2.1, fun i v => ∃ h : i < es.size, v = es[i].key, fun h => Raw h d es ep, ?_, by rw [List.length_map]; omega, (by rw [List.length_map, <- l1]; exact raw_src (es := es) (ep := ep) hd), ⟨o, ho, hc, hdat⟩, fun j v ⟨hj, e⟩ y hy => ?_⟩
 ·have gen : ∀ {kvs : List (List Key × V)} {xs : List (List Key × Addr × Value)}, KT H kvs xs -> TupsAt X.K H (xs.map fun x => V.ref x.2.1) (kvs.map (·.1)) := fun {kvs xs} r => by
   induction r with
   | nil => exact .nil
   | cons h _ ih => exact .cons ⟨_, rfl, h.2.1⟩ ih
  exact gen rel
 ·rw [List.getElem?_map] at hy
  have hx : j < xs.length := by omega
  rw [List.getElem?_eq_getElem hx] at hy
  have e1 : V.ref xs[j].2.1 = y := Option.some.inj hy
  have e2 : es[j] = entryOfKey (tupleKind (mixKind X.prog X.w)) xs[j] := by
   have e3 : es.toList[j]? = (xs.map (entryOfKey (tupleKind (mixKind X.prog X.w))))[j]? := by rw [hes]
   rw [List.getElem?_map, List.getElem?_eq_getElem hx, Array.getElem?_toList, Array.getElem?_eq_getElem hj] at e3
   exact Option.some.inj e3
  rw [<- e1, e, e2]
  rfl
theorem col_dT {d : Addr} {kvs : List (List Key × V)} {R : List Value -> Shared -> Prop} (hh : A.handled = none) (I : Inv X pins σ H s) (h : Rd H d (.dT kvs)) (q : ∀ ys vs s1, Inv X pins σ H s1 -> Vals ys vs -> TupsAt X.K H ys (kvs.map (·.1)) -> R vs s1) : wpAny (model X.prog X.w) A (collect (.ref d)) R E s := by
 obtain ⟨ys, P, OK, t, z, S, ok, hp⟩ := src_dT I h
 exact kdu_collect S hh ok z fun h' tk acc k a => q ys _ _ (I.kept k) (items_vals a hp) t
def itemsV (v d : Addr) : HO := .ext fun h => h.IsItemsView v d
def valuesV (v d : Addr) : HO := .ext fun h => h.IsValuesView v d
def PairsAt (K : PySem.W.Frag) (H : Hp) : List V -> List (Key × V) -> Prop := Paired fun y p => ∃ a, y = V.ref a /\ H a = some (.tup [kV p.1, p.2])
theorem col_items {v d : Addr} {kvs : List (Key × V)} {R : List Value -> Shared -> Prop} (hh : A.handled = none) (I : Inv X pins σ H s) (hv : H v = some (itemsV v d)) (h : Rd H d (.dK kvs)) (q : ∀ H1 ys vs s1, Inv X pins σ H1 s1 -> Same H H1 -> Vals ys vs -> PairsAt X.K H1 ys kvs -> R vs s1) :
  wpAny (model X.prog X.w) A (collect (.ref v)) R E s := by
 obtain ⟨z, hd, vs, rel, dd⟩ := dk_rd I.hok h
 obtain ⟨ep, dat⟩ := dd.dictAt
 obtain ⟨iv, _, _⟩ := I.hok v _ hv
 have hl := rel.length
 refine kdx_collect (knd := mixKind X.prog X.w) (kvs := vs) (ep := ep) hh iv dat (by omega) fun h' tk as k la G => ?_
 have up : ∀ b, b ∈ as -> s.heap.objs.size < b := G.above
 have at1 : ∀ (j : Nat) b p, as[j]? = some b -> kvs[j]? = some p -> ∃ its, Vals [kV p.1, p.2] its /\ IsTup h' b its.toArray /\ ∃ o, h'.get? b = some o /\ o.dict = none := fun j b p hj hp => by
  obtain ⟨key, kk, x, e1, e2, e3⟩ := G.pairs j b hj
  have gen : ∀ {kvs : List (Key × V)} {vs : List (Key × Value)}, KV kvs vs -> ∀ (j : Nat), vs[j]? = some (kk, x) -> kvs[j]? = some p -> p.1 = kk /\ RelV p.2 x := fun {kvs vs} r => by
   induction r with
   | nil => intro j e; simp at e
   | @cons p' q _ _ h _ ih =>
    intro j e e'
    cases j with
    | zero =>
     have e : q = (kk, x) := by simpa using e
     have e' : p' = p := by simpa using e'
     subst e'
     rw [e] at h
     exact h
    | succ j => exact ih j (by simpa using e) (by simpa using e')
  obtain ⟨g1, g2⟩ := gen rel j e1 hp
  refine ⟨[key, x], .cons ?_ (.cons g2 .nil), ⟨_, e3, rfl, _, rfl⟩, _, e3, rfl⟩
  rw [g1]
  have e2 : keyIs kk key = true := e2
  rcases keyIs_shape e2 with ⟨i, t, rfl, rfl⟩ | ⟨x, t, rfl, rfl⟩
  ·exact ⟨t, rfl⟩
  ·exact ⟨t, rfl⟩
 have look : ∀ {as : List Addr} {kvs : List (Key × V)}, as.Pairwise (· < ·) -> ∀ (j : Nat) b p, as[j]? = some b -> kvs[j]? = some p -> (as.zip kvs).lookup b = some p := fun {as} => by
  induction as with
  | nil => intro kvs _ j b p e; simp at e
  | cons a as ih =>
   intro kvs pw j b p e e'
   cases kvs with
   | nil => simp at e'
   | cons q kvs =>
    obtain ⟨p1, p2⟩ := List.pairwise_cons.mp pw
    show ((a, q) :: as.zip kvs).lookup b = some p
    cases j with
    | zero =>
     have e : a = b := by simpa using e
     have e' : q = p := by simpa using e'
     subst e
     subst e'
     rw [List.lookup_cons_self]
    | succ j =>
     have e : as[j]? = some b := by simpa using e
     have e' : kvs[j]? = some p := by simpa using e'
     have lt := p1 b (List.mem_of_getElem? e)
     rw [List.lookup_cons, show (b == a) = false by simp only [beq_eq_false_iff_ne]; exact Nat.ne_of_gt lt]
     exact ih p2 j b p e e'
 have lk : as.length = kvs.length := by omega
 let H1 : Hp := fun b => if b ∈ as then ((as.zip kvs).lookup b).map fun p => HO.tup [kV p.1, p.2] else H b
 have h1in : ∀ (j : Nat) b p, as[j]? = some b -> kvs[j]? = some p -> H1 b = some (.tup [kV p.1, p.2]) := fun j b p e e' => by
  show (if b ∈ as then _ else _) = _
  rw [if_pos (List.mem_of_getElem? e), look G.rise j b p e e']
  rfl
 have h1out : ∀ b, b ∉ as -> H1 b = H b := fun b hb => if_neg hb
 have old : ∀ b, b < s.heap.objs.size -> b ∉ as := fun b hb m => absurd (up b m) (by omega)
 refine q H1 (as.map V.ref) _ _ (I.many (t' := tk) k (fun b o e => by rw [h1out b (old b (I.hok.lt e))]; exact e) (fun b e hb => by rw [h1out b (old b hb)]; exact e) fun b o e e0 => ?_) (fun b o e => by rw [h1out b (old b (I.hok.lt e))]; exact e) ?_ ?_
 ·by_cases m : b ∈ as
  ·obtain ⟨j, hj⟩ := List.mem_iff_getElem?.mp m
   have jl : j < kvs.length := by
    have := (List.getElem?_eq_some_iff.mp hj).1
    omega
   have e' := h1in j b kvs[j] hj (List.getElem?_eq_getElem jl)
   rw [e] at e'
   cases e'
   obtain ⟨its, r, t⟩ := at1 j b _ hj (List.getElem?_eq_getElem jl)
   exact ⟨_, its, rfl, by show 2 <= sizeLine; decide, r, t⟩
  ·rw [h1out b m, e0] at e
   cases e
 ·have gen : ∀ as : List Addr, Vals (as.map V.ref) (as.map Value.ref) := fun as => by
   induction as with
   | nil => exact .nil
   | cons a as ih => exact .cons rfl ih
  exact gen as
 ·have gen : ∀ (as' : List Addr) (kvs' : List (Key × V)), as'.length = kvs'.length -> (∀ (j : Nat) b p, as'[j]? = some b -> kvs'[j]? = some p -> H1 b = some (.tup [kV p.1, p.2])) -> PairsAt X.K H1 (as'.map V.ref) kvs' := fun as' => by
   induction as' with
   | nil =>
    intro kvs' hl _
    cases kvs' with
    | nil => exact .nil
    | cons _ _ => cases hl
   | cons a as' ih =>
    intro kvs' hl h
    cases kvs' with
    | nil => cases hl
    | cons p kvs' => exact .cons ⟨a, rfl, h 0 a p rfl rfl⟩ (ih kvs' (by simpa using hl) fun j b p e e' => h (j + 1) b p (by simpa using e) (by simpa using e'))
  exact gen as kvs lk h1in
end
end L2
set_option Elab.async false
set_option linter.all false
set_option maxRecDepth 100000
namespace L2
open PySem PySem.Spec PyProof.Rows PySem.W EvS EvD
theorem keyS_inj {a b : List Str} (h : a.map keyS = b.map keyS) : a = b := by
 induction a generalizing b with
 | nil =>
  cases b with
  | nil => rfl
  | cons _ _ => cases h
 | cons x a ih =>
  cases b with
  | nil => cases h
  | cons y b =>
   obtain ⟨h1, h2⟩ := List.cons.inj h
   have h1 : [(Sum.inr x : Key)] = [Sum.inr y] := h1
   cases h1
   rw [ih h2]
theorem sortS_keys (ss : List Str) : (sortS ss).map keyS = sortKs (ss.map keyS) := by
 have all : ∀ k ∈ sortKs (ss.map keyS), ∃ x, k = keyS x := fun k hk => by
  obtain ⟨x, _, e⟩ := List.mem_map.mp ((sortKs_perm _).mem_iff.mp hk)
  exact ⟨x, e.symm⟩
 have gen : ∀ l : List (List Key), (∀ k ∈ l, ∃ x, k = keyS x) -> (l.map fun k => match k with | [.inr x] => x | _ => (⟨#[]⟩ : Str)).map keyS = l := fun l => by
  induction l with
  | nil => exact fun _ => rfl
  | cons k l ih =>
   intro h
   obtain ⟨x, rfl⟩ := h k List.mem_cons_self
   rw [List.map_cons, List.map_cons, ih fun k hk => h k (List.mem_cons_of_mem _ hk)]
   rfl
 exact gen _ all
theorem sortS_perm (ss : List Str) : (sortS ss).Perm ss := by
 have p : ((sortS ss).map keyS).Perm (ss.map keyS) := by rw [sortS_keys]; exact sortKs_perm _
 have back : ∀ l : List Str, (l.map keyS).map (fun k => match k with | [.inr x] => x | _ => (⟨#[]⟩ : Str)) = l := fun l => by
  rw [List.map_map]
  induction l with
  | nil => rfl
  | cons x l ih => rw [List.map_cons, ih]; rfl
 have q := p.map (fun k => match k with | [.inr x] => x | _ => (⟨#[]⟩ : Str))
 rwa [back, back] at q
section
variable {X : Cx} {pins : List (Addr × Obj)} {σ : St} {H : Hp} {s : Shared}
theorem sorted_strs' {u : Value} {ss : List Str} {Q : VK} (h64 : ss.length < 64) (hcol : wpAny (model X.prog X.w) X.A.in1 (collect u) (fun vs s1 => ∃ H1, Inv X pins σ H1 s1 /\ Vals (ss.map V.str) vs /\ ∀ l, H1 l = none -> Q (.ref l) (upd H1 l (.lst ((sortS ss).map V.str)))) X.xe s) :
  wpAny (model X.prog X.w) X.A (call (.builtin "sorted") [u]) (EP X pins σ Q) X.xe s := by
 refine sorted_raw (ord_keys (ss.map keyS)) (thn hcol fun vs s1 ⟨H1, I1, r, q⟩ => ?_)
 have hl : vs.length = ss.length := by rw [<- r.length, List.length_map]
 refine ⟨by omega, fun h2 h' _ => asks_strs (strs_of r) h2, fun p h' e g up hD kp => ?_⟩
 have g' : Good (ss.map keyS).length p := by rw [List.length_map, <- hl]; exact g
 have asc := asc_put (ks := ss.map keyS) (fun i j _ _ => rfl) g' (by rw [List.length_map, <- hl]; exact up)
 have perm : (p.toList.map fun i => (ss.map keyS).getD i []).Perm (ss.map keyS) := by
  have := map_put_perm g' fun i => (ss.map keyS).getD i []
  rwa [map_range_getD] at this
 have es := sortKs_eq perm asc
 have inr : ∀ i ∈ p.toList, i < ss.length := fun i hi => by
  have m : i ∈ (List.range vs.length).toArray := g.mem_iff.mp (by simpa using hi)
  rw [hl] at m
  simpa using m
 have e1 : (p.toList.map fun i => ss.getD i ⟨#[]⟩) = sortS ss := by
  refine keyS_inj ?_
  rw [sortS_keys, <- es, List.map_map]
  refine List.map_congr_left fun i hi => ?_
  have := inr i hi
  simp [this]
 have rv := vals_put r g
 have e2 : (p.toList.map fun i => (ss.map V.str).getD i .non) = (sortS ss).map V.str := by
  rw [<- e1, List.map_map]
  refine List.map_congr_left fun i hi => ?_
  have := inr i hi
  simp [this]
 rw [e2] at rv
 refine ⟨.ref s1.heap.objs.size, _, I1.laid (t' := s1.toks) kp (Nat.le_refl _) (show ObjOk X.prog X.w _ h' _ (.lst ((sortS ss).map V.str)) from ⟨?_, putBy p vs, e, rv, hD⟩), rfl, q _ (I1.hok.fresh (Nat.le_refl _))⟩
 rw [List.length_map, (sortS_perm ss).length_eq]
 have := sizeLine_eq
 omega
theorem tups_put {K : PySem.W.Frag} {H : Hp} {ys : List V} {ks : List (List Key)} (t : TupsAt K H ys ks) : ∀ l : List Nat, (∀ i ∈ l, i < ys.length) -> TupsAt K H (l.map fun i => ys.getD i .non) (l.map fun i => ks.getD i []) := fun l => by
 induction l with
 | nil => exact fun _ => .nil
 | cons i l ih =>
  intro h
  refine .cons ?_ (ih fun j hj => h j (List.mem_cons_of_mem _ hj))
  have hi := h i List.mem_cons_self
  have gen : ∀ {ys : List V} {ks : List (List Key)} (i : Nat), i < ys.length -> TupsAt K H ys ks -> ∃ a, ys.getD i .non = V.ref a /\ H a = some (.tup ((ks.getD i []).map kV)) := fun {ys ks} i hy t => by
   induction t generalizing i with
   | nil => exact absurd hy (by simp)
   | cons h t ih =>
    cases i with
    | zero => exact h
    | succ i => exact ih i (by simpa using hy)
  exact gen i hi t
theorem sorted_tups' {u : Value} {ks : List (List Key)} {sh : List Bool} {Q : VK} (h64 : ks.length < 64) (al : Alike ks sh)
  (hcol : wpAny (model X.prog X.w) X.A.in1 (collect u) (fun vs s1 => ∃ H1 ys, Inv X pins σ H1 s1 /\ Vals ys vs /\ TupsAt X.K H1 ys ks /\ ∀ l zs, H1 l = none -> TupsAt X.K H1 zs (sortKs ks) -> zs.Perm ys -> Q (.ref l) (upd H1 l (.lst zs))) X.xe s) :
  wpAny (model X.prog X.w) X.A (call (.builtin "sorted") [u]) (EP X pins σ Q) X.xe s := by
 refine sorted_raw (ord_keys ks) (thn hcol fun vs s1 ⟨H1, ys, I1, r, t, q⟩ => ?_)
 have l1 := r.length
 have l2 := Paired.length t
 have hl : vs.length = ks.length := by omega
 refine ⟨by omega, fun h2 h' k => asks_tups I1 r t al h2 k, fun p h' e g up hD kp => ?_⟩
 have g' : Good ks.length p := by rw [<- hl]; exact g
 have asc := asc_put (ks := ks) (fun i j _ _ => rfl) g' (by rw [<- hl]; exact up)
 have perm : (p.toList.map fun i => ks.getD i []).Perm ks := by
  have := map_put_perm g' fun i => ks.getD i []
  rwa [map_range_getD] at this
 have es := sortKs_eq perm asc
 have inr : ∀ i ∈ p.toList, i < ys.length := fun i hi => by
  have m : i ∈ (List.range vs.length).toArray := g.mem_iff.mp (by simpa using hi)
  rw [<- l1] at m
  simpa using m
 have tz := tups_put t p.toList inr
 rw [es] at tz
 have rv := vals_put r g
 have pz : (p.toList.map fun i => ys.getD i .non).Perm ys := by
  have := map_put_perm (n := ys.length) (by rw [l1]; exact g) fun i => ys.getD i .non
  rwa [map_range_getD] at this
 refine ⟨.ref s1.heap.objs.size, _, I1.laid (t' := s1.toks) kp (Nat.le_refl _) (show ObjOk X.prog X.w _ h' _ (.lst (p.toList.map fun i => ys.getD i .non)) from ⟨?_, putBy p vs, e, rv, hD⟩), rfl, q _ _ (I1.hok.fresh (Nat.le_refl _)) tz pz⟩
 rw [pz.length_eq]
 have := sizeLine_eq
 omega
end
section
variable {X : Cx}
def rSortS (K : PySem.W.Frag) : List V -> Hp -> VK -> Prop := fun xs H Q => ∃ p ss, xs = [.ref p] /\ SqL K H p (ss.map V.str) /\ ss.length < 64 /\ ∀ l, H l = none -> Q (.ref l) (upd H l (.lst ((sortS ss).map V.str)))
def rSortT (K : PySem.W.Frag) : List V -> Hp -> VK -> Prop := fun xs H Q => ∃ p ys ks sh, xs = [.ref p] /\ SqL K H p ys /\ TupsAt K H ys ks /\ Alike ks sh /\ ks.length < 64 /\ ∀ l zs, H l = none -> TupsAt K H zs (sortKs ks) -> zs.Perm ys -> Q (.ref l) (upd H l (.lst zs))
def rSortDT (K : PySem.W.Frag) : List V -> Hp -> VK -> Prop := fun xs H Q => ∃ d kvs sh, xs = [.ref d] /\ H d = some (.dT kvs) /\ Alike (kvs.map (·.1)) sh /\ kvs.length < 64 /\ ∀ l zs, H l = none -> TupsAt K H zs (sortKs (kvs.map (·.1))) -> Q (.ref l) (upd H l (.lst zs))
theorem call_sortDT (hc : X.calm = true) : CallR X (.builtin "sorted") (rSortDT X.K) := by
 intro pins s σ H xs us Q I r h
 obtain ⟨d, kvs, sh, rfl, hd, al, h64, q⟩ := h
 obtain ⟨u, rfl, ru⟩ := vals1 r
 cases ru
 exact sorted_tups' (by rw [List.length_map]; exact h64) al (col_dT (I.ok.hd hc) I (.inl hd) fun ys vs s1 I1 r1 t => ⟨H, ys, I1, r1, t, fun l zs n t' _ => q l zs n t'⟩)
def rSortDS : List V -> Hp -> VK -> Prop := fun xs H Q => ∃ d kvs ss, xs = [.ref d] /\ H d = some (.dK kvs) /\ kvs.map (·.1) = ss.map Sum.inr /\ ss.length < 64 /\ ∀ l, H l = none -> Q (.ref l) (upd H l (.lst ((sortS ss).map V.str)))
theorem call_sortDS (hc : X.calm = true) : CallR X (.builtin "sorted") rSortDS := by
 intro pins s σ H xs us Q I r h
 obtain ⟨d, kvs, ss, rfl, hd, ek, h64, q⟩ := h
 obtain ⟨u, rfl, ru⟩ := vals1 r
 cases ru
 refine sorted_strs' h64 (col_dK (I.ok.hd hc) I (.inl hd) fun vs s1 I1 r1 => ⟨H, I1, ?_, q⟩)
 have e : (kvs.map fun kv => kV kv.1) = ss.map V.str := by
  rw [show (kvs.map fun kv => kV kv.1) = (kvs.map (·.1)).map kV by rw [List.map_map]; rfl, ek, List.map_map]
  rfl
 rwa [e] at r1
def rSortI (K : PySem.W.Frag) : List V -> Hp -> VK -> Prop := fun xs H Q => ∃ (v d : Addr) (kvs : List (Key × V)) (ks : List (Key × Key)) (sh : List Bool), xs = [.ref v] /\ H v = some (itemsV v d) /\ H d = some (.dK kvs) /\ kvs = ks.map (fun k : Key × Key => (k.1, kV k.2)) /\ Alike (ks.map fun k => [k.1, k.2]) sh /\ ks.length < 64 /\
 ∀ l H1 zs, Same H H1 -> H1 l = none -> TupsAt K H1 zs (sortKs (ks.map fun k => [k.1, k.2])) -> Q (.ref l) (upd H1 l (.lst zs))
theorem call_sortI (hc : X.calm = true) : CallR X (.builtin "sorted") (rSortI X.K) := by
 intro pins s σ H xs us Q I r h
 obtain ⟨v, d, kvs, ks, sh, rfl, hv, hd, ek, al, h64, q⟩ := h
 obtain ⟨u, rfl, ru⟩ := vals1 r
 cases ru
 refine sorted_tups' (by rw [List.length_map]; exact h64) al (col_items (I.ok.hd hc) I hv (.inl hd) fun H1 ys vs s1 I1 sm r1 t => ⟨H1, ys, I1, r1, ?_, fun l zs n t' _ => q l H1 zs sm n t'⟩)
 subst ek
 have gen : ∀ (ks : List (Key × Key)) (ys : List V), PairsAt X.K H1 ys (ks.map (fun k : Key × Key => (k.1, kV k.2))) -> TupsAt X.K H1 ys (ks.map fun k => [k.1, k.2]) := fun ks => by
  induction ks with
  | nil =>
   intro ys t
   cases t
   exact .nil
  | cons k ks ih =>
   intro ys t
   cases t with
   | cons h t => exact .cons h (ih _ t)
 exact gen ks ys t
def rListD : List V -> Hp -> VK -> Prop := fun xs H Q => ∃ d kvs, xs = [.ref d] /\ Rd H d (.dK kvs) /\ ∀ l, H l = none -> Q (.ref l) (upd H l (.lst (kvs.map fun kv => kV kv.1)))
theorem call_listD (hc : X.calm = true) : CallR X (.type "list") rListD := by
 intro pins s σ H xs us Q I r h
 obtain ⟨d, kvs, rfl, hd, q⟩ := h
 obtain ⟨u, rfl, ru⟩ := vals1 r
 cases ru
 obtain ⟨P, OK, S, ok, hp⟩ := src_dK I hd
 have z := (dk_rd I.hok hd).1
 refine kdl_call S (I.ok.hd hc) ok (by rw [List.length_map]; exact z) fun h' tk acc c k hD a => ?_
 refine ⟨.ref s.heap.objs.size, _, I.laid (t' := tk) k (Nat.le_refl _) (show ObjOk X.prog X.w _ h' _ (.lst (kvs.map fun kv => kV kv.1)) from ⟨by rw [List.length_map]; exact z, acc.toList, c, items_vals a hp, by rw [Array.toArray_toList]; exact hD⟩), rfl, q _ I.fresh⟩
theorem KV.mergeP {κ : Type} [DecidableEq κ] : ∀ {more : List (κ × V)} {rs : List (κ × Value)} {kvs : List (κ × V)} {vs : List (κ × Value)}, KV more rs -> KV kvs vs -> KV (more.foldl (fun acc kv => putK acc kv.1 kv.2) kvs) (EvD.mergeP vs rs) := fun {more rs kvs vs} h => by
 induction h generalizing kvs vs with
 | nil => exact fun h => h
 | @cons p q _ _ h _ ih =>
  intro h2
  obtain ⟨k, y⟩ := p
  obtain ⟨k', u⟩ := q
  obtain ⟨h1, h3⟩ := h
  have h1 : k = k' := h1
  subst h1
  exact ih (h2.put k h3)
def rDictOf (K : PySem.W.Frag) : List V -> Hp -> VK -> Prop := fun xs H Q => ∃ p ys kvs, xs = [.ref p] /\ H p = some (.lst ys) /\ PairsAt K H ys kvs /\ kvs.length <= 1000 /\ ∀ l, H l = none -> Q (.ref l) (upd H l (.dK (mergeK [] kvs)))
theorem call_dictOf (hc : X.calm = true) : CallR X (.type "dict") (rDictOf X.K) := by
 intro pins s σ H xs us Q I r h
 obtain ⟨p, ys, kvs, rfl, hp, t, hz, q⟩ := h
 obtain ⟨u, rfl, ru⟩ := vals1 r
 cases ru
 obtain ⟨z, its, n, rv, hl, ho⟩ := I.lstM hp
 have gen : ∀ {ys : List V} {its : List Value} {kvs : List (Key × V)}, Vals ys its -> PairsAt X.K H ys kvs -> ∃ ps, KV kvs ps /\ PairsIn (mixKind X.prog X.w) s.heap its ps := fun {ys its kvs} rv t => by
  induction t generalizing its with
  | nil =>
   cases rv
   exact ⟨[], .nil, .nil⟩
  | @cons y p ys kvs h t ih =>
   cases rv with
   | cons r0 rv =>
    obtain ⟨ps, h1, h2⟩ := ih rv
    obtain ⟨a, e, sq⟩ := h
    subst e
    cases r0
    obtain ⟨tv, rt, it, _⟩ := I.tuple (SqT.of sq)
    obtain ⟨key, x, e2, rk, rx⟩ := vals2 rt
    subst e2
    refine ⟨(p.1, x) :: ps, Paired.cons (show p.1 = p.1 /\ RelV p.2 x from ⟨rfl, rx⟩) h1, Paired.cons (show ∃ a' key', Value.ref a = .ref a' /\ IsTup s.heap a' #[key', x] /\ (mixKind X.prog X.w).is p.1 key' = true from ⟨a, key, rfl, it, kV_is rk⟩) h2⟩
 obtain ⟨ps, h1, h2⟩ := gen rv t
 have lp := KV.length h1
 refine call_dict_of (knd := mixKind X.prog X.w) (I.ok.hd hc) ho h2 (by omega) fun h' tk hd kp => ?_
 refine ⟨.ref s.heap.objs.size, _, I.laid (t' := tk) kp (Nat.le_refl _) (dk_new ?_ (beq_eq_false_iff_ne.mpr (Ne.symm (Nat.ne_of_lt I.big))) (KV.mergeP h1 .nil) hd), rfl, q _ I.fresh⟩
 have := length_mergeK kvs []
 have := sizeLine_eq
 simp only [List.length_nil] at *
 show (mergeK [] kvs).length <= sizeLine
 omega
theorem bools_of : ∀ {bs : List Bool} {vs : List Value}, Vals (bs.map V.bl) vs -> vs = bs.map Value.bool
 | [], _, .nil => rfl
 | b :: bs, _, .cons h t => by
  cases h
  rw [bools_of t]
  rfl
def rAll (K : PySem.W.Frag) (g : List Bool -> Bool) : List V -> Hp -> VK -> Prop := fun xs H Q => ∃ p bs, xs = [.ref p] /\ SqL K H p (bs.map V.bl) /\ Q (.bl (g bs)) H
theorem call_all (hc : X.calm = true) : CallR X (.builtin "all") (rAll X.K fun bs => bs.all id) := by
 intro pins s σ H xs us Q I r h
 obtain ⟨p, bs, rfl, hp, q⟩ := h
 obtain ⟨u, rfl, ru⟩ := vals1 r
 cases ru
 obtain ⟨its, rv, pl, z⟩ := I.list hp
 obtain rfl := bools_of rv
 have hl := pl.isList
 have lt : p < s.heap.objs.size := by obtain ⟨_, e, _⟩ := hl; exact Heap.lt_size e
 refine call_all_walk (wpAny_pyIter_list hl ⟨s.heap.objs.size, [s.heap.objs.size, p], [s.heap.objs.size], (bs.map Value.bool).toArray.size, _, _, fun i => (bs[i]?).getD true, rfl, Walks.list (A := X.A.in1) (I.ok.hd hc) _ p (Nat.ne_of_lt lt) _, ⟨⟨_, Heap.get?_push_size _ rfl, rfl, rfl⟩, hl.push _⟩, fun i v s' Q' E' hP hQ => ?_, fun h' tk hk => ?_⟩)
 ·have hP : (bs.map Value.bool).toArray[i]? = some v := hP
  simp only [List.getElem?_toArray, List.getElem?_map] at hP
  cases e : bs[i]? with
  | none => rw [e] at hP; cases hP
  | some b =>
   have hQ : Q' ((bs[i]?).getD true) s' := hQ
   rw [e] at hP hQ
   cases hP
   exact wpAny_truthy_bool hQ
 ·have e : ((List.range (bs.map Value.bool).toArray.size).all fun i => (bs[i]?).getD true) = bs.all id := by
   rw [List.size_toArray, List.length_map]
   exact LSm.range_all bs
  rw [e]
  exact ⟨.bl _, H, I.kept (LSm.kept_iter hk), rfl, q⟩
def rMax (K : PySem.W.Frag) : List V -> Hp -> VK -> Prop := fun xs H Q => ∃ (p : Addr) (ns : List Int), xs = [.ref p] /\ SqL K H p (ns.map V.int) /\ 0 < ns.length /\ ∀ m, m ∈ ns -> (∀ a ∈ ns, a <= m) -> Q (.int m) H
end
end L2
set_option Elab.async false
set_option linter.all false
set_option maxRecDepth 100000
namespace EvN
open PySem PySem.SeqAt PyProof.Rows
open AutoSeq1 (wpAny_loadPart')
open MeetsSeq MeetsSeq2 MeetsSeq3 SeqRoads2
theorem ne_go (l b : Addr) (xs ys : Array Value) (n m : Nat) (dl db : Option Addr) (sl sb : Array (Option Value)) (hs : xs.size = ys.size) (e : Nat -> Bool) (k : Nat) :
  ∀ i : Nat, xs.size - i = k -> Meets (Builtin.«list.__eq__.loop» ⟨[.ref l, .ref b, rawInt i, rawInt 3], []⟩)
   (fun A R s => (s.heap.get? l = some { cls := .type "list", dict := dl, data := .seq xs n, slots := sl } /\ s.heap.get? b = some { cls := .type "list", dict := db, data := .seq ys m, slots := sb }) /\
    (∀ j (h1 : j < xs.size) (h2 : j < ys.size), EqAt A.in1 s xs[j] ys[j] (e j)) /\ R (.ok (.ret (.bool (!((List.range xs.size).drop i).all e)))) s) := by
 induction k with
 | zero =>
  intro i hk prog w A R s ⟨⟨gl, gb⟩, he, h⟩
  obtain ⟨hp, g, d, tk, os⟩ := s
  wp_walk using wpAny_loadPart' gl, wpAny_loadPart' gb
  rw [show xs[((i : Nat) : Int).toNat]? = none by simp; omega, show ys[((i : Nat) : Int).toNat]? = none by simp; omega]
  rw [show (List.range xs.size).drop i = [] by simp; omega] at h
  wp_walk using wpAny_loadPart' gl, wpAny_loadPart' gb
  refine (show R (.ok (.ret (.bool (xs.size != ys.size)))) _ from ?_)
  rw [show (xs.size != ys.size) = false by simp [hs]]
  exact h
 | succ k ih =>
  intro i hk prog w A R s ⟨⟨gl, gb⟩, he, h⟩
  obtain ⟨hp, g, d, tk, os⟩ := s
  wp_walk using wpAny_loadPart' gl, wpAny_loadPart' gb
  have z1 : i < xs.size := by omega
  have z2 : i < ys.size := by omega
  have q1 : xs[((i : Nat) : Int).toNat]? = some xs[i] := by simp [z1]
  have q2 : ys[((i : Nat) : Int).toNat]? = some ys[i] := by simp [z2]
  rw [show (List.range xs.size).drop i = i :: (List.range xs.size).drop (i + 1) by simp [List.drop_eq_getElem_cons, z1], List.all_cons] at h
  rw [q1, q2]
  refine wpAny_bind (he i z1 z2 prog w _ _ ?_)
  cases c : e i with
  | true =>
   rw [c] at h
   wp_walk
   rw [show ((i : Int) + 1) = ((i + 1 : Nat) : Int) by omega]
   refine ⟨plainId_quiet plain_eq_loop _, codeAny_builtin entry_eq_loop ?_⟩
   rw [Around.under_plainId plain_eq_loop _]
   exact ih (i + 1) (by omega) prog w A R _ ⟨⟨gl, gb⟩, he, by simpa using h⟩
  | false =>
   rw [c] at h
   wp_walk using wpAny_loadPart' gl, wpAny_loadPart' gb
   rw [q1, q2]
   wp_walk
   simpa using h
theorem ne_lists (l b : Addr) (xs ys : Array Value) (n m : Nat) (dl db : Option Addr) (sl sb : Array (Option Value)) (hs : xs.size = ys.size) (e : Nat -> Bool) :
  Meets (Builtin.«list.__ne__» ⟨[.ref l, .ref b], []⟩)
   (fun A R s => (s.heap.get? l = some { cls := .type "list", dict := dl, data := .seq xs n, slots := sl } /\ s.heap.get? b = some { cls := .type "list", dict := db, data := .seq ys m, slots := sb }) /\
    (∀ j (h1 : j < xs.size) (h2 : j < ys.size), EqAt A.in1 s xs[j] ys[j] (e j)) /\ R (.ok (.ret (.bool (!(List.range xs.size).all e)))) s) := by
 intro prog w A R s ⟨⟨gl, gb⟩, he, h⟩
 obtain ⟨hp, g, d, tk, os⟩ := s
 have f3 := AutoSeq1.sub_list_list
 have no : ¬ (xs.size != ys.size) = true := by simp [hs]
 wp_walk using wpAny_loadPart' gl, wpAny_loadPart' gb
 refine ⟨plainId_quiet plain_eq_loop _, codeAny_builtin entry_eq_loop ?_⟩
 rw [Around.under_plainId plain_eq_loop _]
 exact ne_go l b xs ys n m dl db sl sb hs e _ 0 rfl prog w A R _ ⟨⟨gl, gb⟩, he, by simpa using h⟩
theorem ne_sizes (l b : Addr) (xs ys : Array Value) (n m : Nat) (dl db : Option Addr) (sl sb : Array (Option Value)) (hs : (xs.size != ys.size) = true) :
  Meets (Builtin.«list.__ne__» ⟨[.ref l, .ref b], []⟩)
   (fun A R s => (s.heap.get? l = some { cls := .type "list", dict := dl, data := .seq xs n, slots := sl } /\ s.heap.get? b = some { cls := .type "list", dict := db, data := .seq ys m, slots := sb }) /\ R (.ok (.ret (.bool true))) s) :=
 .of_wp fun prog w A R s ⟨⟨gl, gb⟩, h⟩ => by
  obtain ⟨hp, g, d, tk, os⟩ := s
  have f3 := AutoSeq1.sub_list_list
  wp_walk using wpAny_loadPart' gl, wpAny_loadPart' gb
  exact ⟨_, rfl, h⟩
section
variable {prog : Program} {w : World} {A : Around} {E : Value -> Shared -> Prop} {s : Shared}
theorem ne_listAt {l b : Addr} {xs ys : Array Value} {e : Nat -> Bool} {Q : Value -> Shared -> Prop} (hl : s.heap.IsList l xs) (hb : s.heap.IsList b ys) (hs : xs.size = ys.size) (hu : A.units < cLine)
  (he : ∀ j (h1 : j < xs.size) (h2 : j < ys.size), EqAt A.in1 s xs[j] ys[j] (e j)) (h : Q (.bool (!(List.range xs.size).all e)) s) : wpAny (model prog w) A (compareOp .NotEq (.ref l) (.ref b)) Q E s := by
 obtain ⟨⟨c1, d1, t1, l1⟩, o1, k1, n1, z1⟩ := id hl
 obtain ⟨⟨c2, d2, t2, l2⟩, o2, k2, n2, z2⟩ := id hb
 simp only at k1 z1 k2 z2
 subst k1 z1 k2 z2
 exact richCompare_meets_room (op := .NotEq) ⟨_, o1, rfl⟩ ⟨_, o2, rfl⟩ F.slot_list_ne F.entry_list_ne (F.args_list_ne_2 _ _) (ne_lists l b xs ys n1 n2 d1 d2 l1 l2 hs e) ⟨⟨o1, o2⟩, he, show Value.bool (!(List.range xs.size).all e) ≠ Value.notImplemented /\ Q (.bool (!(List.range xs.size).all e)) s from ⟨(fun x => nomatch x), h⟩⟩ hu
theorem ne_sizesAt {l b : Addr} {xs ys : Array Value} {Q : Value -> Shared -> Prop} (hl : s.heap.IsList l xs) (hb : s.heap.IsList b ys) (hs : (xs.size != ys.size) = true) (hu : A.units < cLine) (h : Q (.bool true) s) : wpAny (model prog w) A (compareOp .NotEq (.ref l) (.ref b)) Q E s := by
 obtain ⟨⟨c1, d1, t1, l1⟩, o1, k1, n1, z1⟩ := id hl
 obtain ⟨⟨c2, d2, t2, l2⟩, o2, k2, n2, z2⟩ := id hb
 simp only at k1 z1 k2 z2
 subst k1 z1 k2 z2
 exact richCompare_meets_room (op := .NotEq) ⟨_, o1, rfl⟩ ⟨_, o2, rfl⟩ F.slot_list_ne F.entry_list_ne (F.args_list_ne_2 _ _) (ne_sizes l b xs ys n1 n2 d1 d2 l1 l2 hs) ⟨⟨o1, o2⟩, show Value.bool true ≠ Value.notImplemented /\ Q (.bool true) s from ⟨(fun x => nomatch x), h⟩⟩ hu
end
end EvN
set_option Elab.async false
set_option linter.all false
set_option maxRecDepth 100000
namespace L2
open PySem PySem.Spec PyProof.Rows PySem.W EvS EvD
abbrev Rp (D : Type) := Hp -> V -> D -> Prop
structure Cmp (X : Cx) (n : Nat) {D : Type} [DecidableEq D] (R : Rp D) : Prop where
 eq : ∀ {pins : List (Addr × Obj)} {σ : St} {H : Hp} {s : Shared} {A : Around} {x y : V} {u v : Value} {d e : D}, Inv X pins σ H s -> RelV x u -> RelV y v -> R H x d -> R H y e -> A.units + n < cLine -> SeqAt.EqAt A s u v (decide (d = e))
 one : ∀ {pins : List (Addr × Obj)} {σ : St} {H : Hp} {s : Shared} {x : V} {d e : D}, Inv X pins σ H s -> R H x d -> R H x e -> d = e
def rS : Rp Str := fun _ x d => x = .str d
def rZ : Rp Int := fun _ x d => x = .int d
def rB : Rp Bool := fun _ x d => x = .bl d
def r2 (K : PySem.W.Frag) {D1 D2 : Type} (R1 : Rp D1) (R2 : Rp D2) : Rp (D1 × D2) := fun H x d => ∃ a u v, x = .ref a /\ SqT K H a [u, v] /\ R1 H u d.1 /\ R2 H v d.2
def r3 (K : PySem.W.Frag) {D1 D2 D3 : Type} (R1 : Rp D1) (R2 : Rp D2) (R3 : Rp D3) : Rp (D1 × D2 × D3) := fun H x d => ∃ a u v w, x = .ref a /\ SqT K H a [u, v, w] /\ R1 H u d.1 /\ R2 H v d.2.1 /\ R3 H w d.2.2
def rL (K : PySem.W.Frag) {D : Type} (R : Rp D) : Rp (List D) := fun H x ds => ∃ a xs, x = .ref a /\ SqL K H a xs /\ Paired (R H) xs ds
section
variable {X : Cx}
theorem cmpS : Cmp X 0 rS where
 eq := fun {pins σ H s A x y u v d e} I ru rv hx hy hu => by
  have hx : x = .str d := hx
  have hy : y = .str e := hy
  subst hx
  subst hy
  have q := eqAt_V (A := A) (s := s) ru rv rfl rfl
  have e2 : eqV (.str d) (.str e) = decide (d = e) := by
   show (d == e) = _
   by_cases h : d = e
   ·subst h; simp
   ·simp [h]
  rwa [e2] at q
 one := fun {pins σ H s x d e} I hx hy => by
  have hx : x = .str d := hx
  have hy : x = .str e := hy
  rw [hx] at hy
  exact V.str.inj hy
theorem isTuple_of {h : Heap} {a : Addr} {its : Array Value} (t : IsTup h a its) : h.IsTuple a its := t
theorem cmp2 {n m : Nat} {D1 D2 : Type} [DecidableEq D1] [DecidableEq D2] {R1 : Rp D1} {R2 : Rp D2} (c1 : Cmp X n R1) (c2 : Cmp X m R2) : Cmp X (max n m + 1) (r2 X.K R1 R2) where
 one := fun {pins σ H s x d e} I hx hy => by
  obtain ⟨a, u, v, rfl, t, q1, q2⟩ := hx
  obtain ⟨b, u', v', e0, t', q1', q2'⟩ := hy
  cases e0
  have e1 := I.tuple_inj t t'
  cases e1
  exact Prod.ext (c1.one I q1 q1') (c2.one I q2 q2')
 eq := fun {pins σ H s A x y u v d e} I ru rv hx hy hu => by
  have hx' := hx
  have hy' := hy
  obtain ⟨a, x1, x2, rfl, t, q1, q2⟩ := hx
  obtain ⟨b, y1, y2, rfl, t', q1', q2'⟩ := hy
  cases ru
  cases rv
  by_cases hab : a = b
  ·subst hab
   have e1 := I.tuple_inj t t'
   cases e1
   have : d = e := Prod.ext (c1.one I q1 q1') (c2.one I q2 q2')
   rw [decide_eq_true this]
   exact SeqAt.EqAt.same _
  ·obtain ⟨its, r, it, _⟩ := I.tuple t
   obtain ⟨its', r', it', _⟩ := I.tuple t'
   obtain ⟨u1, u2, rfl, r1, r2⟩ := vals2 r
   obtain ⟨w1, w2, rfl, r1', r2'⟩ := vals2 r'
   have key := SeqAt.EqAt.of_refs hab (SeqAt.RcAt.tuples (A := A) (s := s) (e := fun j => if j = 0 then decide (d.1 = e.1) else decide (d.2 = e.2)) (isTuple_of it) (isTuple_of it') (by omega) fun j h1 h2 => by
    match j, h1, h2 with
    | 0, _, _ => exact c1.eq I r1 r1' q1 q1' (by show A.units + 1 + n < cLine; omega)
    | 1, _, _ => exact c2.eq I r2 r2' q2 q2' (by show A.units + 1 + m < cLine; omega))
   have e3 : ((List.range (min [u1, u2].toArray.size [w1, w2].toArray.size)).all (fun j => if j = 0 then decide (d.1 = e.1) else decide (d.2 = e.2)) && [u1, u2].toArray.size == [w1, w2].toArray.size) = decide (d = e) := by
    show (decide (d.1 = e.1) && (decide (d.2 = e.2) && true) && true) = _
    by_cases h1 : d.1 = e.1
    ·by_cases h2 : d.2 = e.2
     ·have : d = e := Prod.ext h1 h2
      simp [this]
     ·have : ¬ d = e := fun z => h2 (by rw [z])
      simp [h1, h2, this]
    ·have : ¬ d = e := fun z => h1 (by rw [z])
     simp [h1, this]
   rw [e3] at key
   exact key
theorem paired_get {α β : Type} {F : α -> β -> Prop} : ∀ {l : List α} {m : List β}, Paired F l m -> ∀ (i : Nat) (h1 : i < l.length) (h2 : i < m.length), F l[i] m[i]
 | _, _, .cons h t, 0, _, _ => h
 | _, _, .cons h t, i + 1, h1, h2 => paired_get t i (by simpa using h1) (by simpa using h2)
theorem all_range_eq {D : Type} [DecidableEq D] : ∀ {ds es : List D}, ds.length = es.length -> ((List.range ds.length).all fun j => decide (ds[j]? = es[j]?)) = decide (ds = es) := fun {ds es} hl => by
 by_cases h : ds = es
 ·subst h
  simp
 ·rw [decide_eq_false h]
  have : ∃ i, i < ds.length /\ ds[i]? ≠ es[i]? := by
   refine Classical.byContradiction fun hn => h ?_
   apply List.ext_getElem?
   intro i
   by_cases hi : i < ds.length
   ·exact Classical.byContradiction fun q => hn ⟨i, hi, q⟩
   ·rw [List.getElem?_eq_none (by omega), List.getElem?_eq_none (by omega)]
  obtain ⟨i, hi, q⟩ := this
  rw [List.all_eq_false]
  exact ⟨i, by simpa using hi, by simpa using q⟩
theorem items_eq {D : Type} [DecidableEq D] {n : Nat} {R : Rp D} (c : Cmp X n R) {pins : List (Addr × Obj)} {σ : St} {H : Hp} {s : Shared} {A : Around} (I : Inv X pins σ H s) {xs ys : List V} {us vs : List Value} {ds es : List D} (ru : Vals xs us) (rv : Vals ys vs) (hx : Paired (R H) xs ds) (hy : Paired (R H) ys es) (hu : A.units + n < cLine) :
  ∀ j (h1 : j < us.toArray.size) (h2 : j < vs.toArray.size), SeqAt.EqAt A s us.toArray[j] vs.toArray[j] (decide (ds[j]? = es[j]?)) := fun j h1 h2 => by
 have l1 := ru.length
 have l2 := rv.length
 have l3 := Paired.length hx
 have l4 := Paired.length hy
 simp only [List.size_toArray] at h1 h2
 have q := c.eq (A := A) I (paired_get ru j (by omega) h1) (paired_get rv j (by omega) h2) (paired_get hx j (by omega) (by omega)) (paired_get hy j (by omega) (by omega)) hu
 have e : decide (ds[j]? = es[j]?) = decide (ds[j]'(by omega) = es[j]'(by omega)) := by
  rw [List.getElem?_eq_getElem (by omega), List.getElem?_eq_getElem (by omega)]
  by_cases z : ds[j]'(by omega) = es[j]'(by omega)
  ·simp [z]
  ·simp [z]
 rw [e]
 exact q
def rEqD {D : Type} [DecidableEq D] (R : Rp D) (neg : Bool) : V -> V -> Hp -> VK -> Prop := fun x y H Q => ∃ d e, R H x d /\ R H y e /\ Q (.bl (if neg then !decide (d = e) else decide (d = e))) H
theorem op_neL {n : Nat} {D : Type} [DecidableEq D] {R : Rp D} (c : Cmp X n R) (hu : X.A.units + n + 1 < cLine) : OpR X (compareOp .NotEq) (rEqD (rL X.K R) true) := by
 intro pins s σ H x y v u Q I rx ry h
 obtain ⟨d, e, ⟨a, xs, rfl, t, q⟩, ⟨b, ys, rfl, t', q'⟩, hq⟩ := h
 cases rx
 cases ry
 obtain ⟨us, r, pl, _⟩ := I.list t
 obtain ⟨vs, r', pl', _⟩ := I.list t'
 have l1 := r.length
 have l2 := r'.length
 have l3 := Paired.length q
 have l4 := Paired.length q'
 have hq : Q (.bl (!decide (d = e))) H := hq
 by_cases hl : d.length = e.length
 ·refine EvN.ne_listAt pl.isList pl'.isList (by simp only [List.size_toArray]; omega) (by omega) (items_eq c I r r' q q' (A := X.A.in1) (by show X.A.units + 1 + n < cLine; omega)) ⟨.bl _, H, I, rfl, ?_⟩
  rw [show us.toArray.size = d.length by simp only [List.size_toArray]; omega, all_range_eq hl]
  exact hq
 ·refine EvN.ne_sizesAt pl.isList pl'.isList (by simp only [List.size_toArray, bne_iff_ne]; omega) (by omega) ⟨.bl _, H, I, rfl, ?_⟩
  rwa [decide_eq_false (fun z => hl (by rw [z]))] at hq
def rInD (K : PySem.W.Frag) {D : Type} [DecidableEq D] (R : Rp D) (neg : Bool) : V -> V -> Hp -> VK -> Prop := fun x y H Q => ∃ d es, R H x d /\ rL K R H y es /\ Q (.bl (if neg then !decide (d ∈ es) else decide (d ∈ es))) H
theorem any_of {D : Type} [DecidableEq D] {n : Nat} {R : Rp D} (c : Cmp X n R) {pins : List (Addr × Obj)} {σ : St} {H : Hp} {s : Shared} {A : Around} (I : Inv X pins σ H s) {x : V} {u : Value} {d : D} (ru : RelV x u) (hx : R H x d) (hu : A.units + n < cLine) : ∀ {ys : List V} {vs : List Value} {es : List D}, Vals ys vs -> Paired (R H) ys es ->
  ∃ f : Value -> Bool, (∀ w ∈ vs, SeqAt.EqAt A s w u (f w)) /\ vs.any f = decide (d ∈ es) := fun {ys vs es} rv hy => by
 let f : Value -> Bool := fun w => @decide (∃ y e, RelV y w /\ R H y e /\ e = d) (Classical.propDecidable _)
 have sound : ∀ y w e, RelV y w -> R H y e -> f w = decide (e = d) := fun y w e h1 h2 => by
  by_cases z : e = d
  ·rw [decide_eq_true z]
   exact @decide_eq_true _ (Classical.propDecidable _) ⟨y, e, h1, h2, z⟩
  ·rw [decide_eq_false z]
   refine @decide_eq_false _ (Classical.propDecidable _) fun ⟨y', e', g1, g2, g3⟩ => z ?_
   have : y' = y := RelV.inj g1 h1
   subst this
   rw [<- g3]
   exact c.one I h2 g2
 refine ⟨f, ?_, ?_⟩
 ·induction rv generalizing es with
  | nil => exact fun w hw => nomatch hw
  | cons h t ih =>
   cases hy with
   | cons g t' =>
    intro w hw
    rcases List.mem_cons.mp hw with rfl | hw
    ·rw [sound _ _ _ h g]
     exact c.eq I h ru g hx hu
    ·exact ih t' w hw
 ·induction rv generalizing es with
  | nil =>
   cases hy
   simp
  | cons h t ih =>
   cases hy with
   | @cons _ e _ es g t' =>
    rw [List.any_cons, ih t', sound _ _ _ h g]
    by_cases z : e = d
    ·subst z
     simp
    ·by_cases z2 : d ∈ es
     ·simp [z2]
     ·have : ¬ d ∈ e :: es := fun q => by
       rcases List.mem_cons.mp q with q | q
       ·exact z q.symm
       ·exact z2 q
      rw [decide_eq_false z, decide_eq_false z2, decide_eq_false this]
      rfl
theorem op_inD {n : Nat} {D : Type} [DecidableEq D] {R : Rp D} (c : Cmp X n R) (hu : X.A.units + n + 1 < cLine) : OpR X (compareOp .In) (rInD X.K R false) := by
 intro pins s σ H x y v u Q I rx ry h
 obtain ⟨d, es, hx, ⟨a, ys, rfl, t, q⟩, hq⟩ := h
 cases ry
 obtain ⟨us, r, pl, _⟩ := I.list t
 obtain ⟨f, h1, h2⟩ := any_of c I (A := X.A.in1) rx hx (by show X.A.units + 1 + n < cLine; omega) r q
 refine SeqAt.in_listAt f pl.isList (fun w hw => h1 w (by simpa using hw)) ⟨.bl _, H, I, rfl, ?_⟩
 rw [show us.toArray.any f = us.any f by simp, h2]
 exact hq
theorem op_notInD {n : Nat} {D : Type} [DecidableEq D] {R : Rp D} (c : Cmp X n R) (hu : X.A.units + n + 1 < cLine) : OpR X (compareOp .NotIn) (rInD X.K R true) := by
 intro pins s σ H x y v u Q I rx ry h
 obtain ⟨d, es, hx, ⟨a, ys, rfl, t, q⟩, hq⟩ := h
 cases ry
 obtain ⟨us, r, pl, _⟩ := I.list t
 obtain ⟨f, h1, h2⟩ := any_of c I (A := X.A.in1) rx hx (by show X.A.units + 1 + n < cLine; omega) r q
 refine SeqAt.notIn_listAt f pl.isList (fun w hw => h1 w (by simpa using hw)) ⟨.bl _, H, I, rfl, ?_⟩
 rw [show us.toArray.any f = us.any f by simp, h2]
 exact hq
end
end L2
set_option Elab.async false
set_option linter.all false
set_option maxRecDepth 100000
namespace L2
open PySem PySem.Spec PyProof.Rows PySem.W EvS EvD
section
variable {X : Cx}
def rIsi (K : PySem.W.Frag) : List V -> Hp -> VK -> Prop := fun xs H Q => ∃ x T t b, xs = [x, .ty T] /\ TyOf K H x t /\ PySem.W.kitOne K t (.type T) = some b /\ Q (.bl b) H
theorem call_isi : CallR X (.builtin "isinstance") (rIsi X.K) := by
 intro pins s σ H xs us Q I r h
 obtain ⟨x, T, t, b, rfl, ty, e, q⟩ := h
 obtain ⟨u, w', rfl, ru, rw'⟩ := vals2 r
 cases (show w' = Value.type T from rw')
 exact isinst_ok I ru ty e fun tk => ⟨.bl b, H, I.tok tk, rfl, q⟩
theorem op_le_str : OpR X (compareOp .LtE) (fun x y H Q => ∃ i j, x = .str i /\ y = .str j /\ Q (.bl (!decide (j.cps.toList < i.cps.toList))) H) := by
 intro pins s σ H x y v u Q I rx ry h
 obtain ⟨i, j, rfl, rfl, q⟩ := h
 obtain ⟨t, rfl⟩ := rx
 obtain ⟨t', rfl⟩ := ry
 exact PySem.P.le_str ⟨.bl _, H, I, rfl, q⟩
def rInsert : V -> List V -> Hp -> VK -> Prop := fun x vs H Q => ∃ (l : Addr) (k : Nat) (xs : List V) (y : V), x = .ref l /\ vs = [.int k, y] /\ H l = some (.lst xs) /\ k <= xs.length /\ xs.length < 100000 /\ Q .non (upd H l (.lst (xs.take k ++ y :: xs.drop k)))
def tView (mk : Addr -> Addr -> HO) (td : TE) : TE := fun σ H Q => td σ H fun x H1 => ∃ d kvs, x = .ref d /\ H1 d = some (.dK kvs) /\ ∀ v, H1 v = none -> Q (.ref v) (upd H1 v (mk v d))
theorem view_ok {pins : List (Addr × Obj)} {σ : St} {H : Hp} {s : Shared} {d : Addr} {cls : String} (I : Inv X pins σ H s) (φ : Heap -> Prop) (hφ : φ (s.heap.push { cls := .type cls, data := .fields #[.ref d] })) (hs : ∀ h1 h2 : Heap, φ h1 -> (∀ o, h1.get? s.heap.objs.size = some o -> h2.get? s.heap.objs.size = some o) -> φ h2) :
  Inv X pins σ (upd H s.heap.objs.size (.ext φ)) { s with heap := s.heap.push { cls := .type cls, data := .fields #[.ref d] } } :=
 I.laid (t' := s.toks) (fun _ _ q => Heap.get?_push_of_some _ q) (Nat.le_refl _) ⟨hφ, ⟨_, Heap.get?_push_size _ rfl⟩, hs⟩
theorem pe_items {o : Expr} {td : TE} {apos cpos : Pos} (ho : PE X o td) (hbase : attributeBase o "items" X.env (eval o X.env) = eval o X.env := by rfl) (hline : (apos.endLine == cpos.line) = true := by rfl) : PE X (.Call (.Attribute o "items" apos) [] [] cpos) (tView itemsV td) := by
 intro pins s σ H Q I h
 refine wpAny_Call_method0_late hbase hline (thn (ho pins s σ H _ I h) fun v s1 ⟨x, H1, I1, r1, d, kvs, e, hd, q⟩ => ?_)
 subst e
 cases r1
 obtain ⟨t1, t2, t3⟩ := isD_at I1 (.inl ⟨kvs, .inl hd⟩)
 obtain ⟨_, _, vs, rel, dd⟩ := dk_of I1.hok hd
 refine ⟨"dict", "dict.items", PySem.F.plainAttrs_dict, PySem.F.slot_dict_items, PySem.F.type_dict_items, t1, t2, Calls.callWith_builtin rfl (PySem.evalArgs_none ?_)⟩
 refine call_meetsIn PySem.F.slot_dict_items t1 PySem.F.entry_dict_items (PySem.F.args_dict_items_1 _) (meets_dict_items (mixKind X.prog X.w) d t3) ⟨⟨vs, dd⟩, ?_⟩
 exact ⟨.ref _, _, view_ok I1 _ ⟨_, Heap.get?_push_size _ rfl, rfl, rfl⟩ fun h1 h2 ⟨o, e, r⟩ k => ⟨o, k o e, r⟩, rfl, q _ I1.fresh⟩
end
section
variable {X : Cx} {pins : List (Addr × Obj)} {σ : St} {H : Hp} {s : Shared} {d : Addr} {kvs : List (Key × V)}
theorem Inv.freeze (I : Inv X pins σ H s) (h : H d = some (.dK kvs)) : ∃ o, s.heap.get? d = some o /\ Inv X pins σ (upd H d (.frz o (.dK kvs))) s := by
 obtain ⟨z, hd, vs, rel, dd⟩ := dk_of I.hok h
 obtain ⟨o, es, ep, ho, r⟩ := id dd
 have other : ∀ {b u}, H b = some u -> u ≠ .dK kvs -> upd H d (.frz o (.dK kvs)) b = some u := fun {b u} e ne => by rw [upd_ne (ne_of e h ne)]; exact e
 refine ⟨o, ho, I.un (h' := s.heap) (t' := s.toks) ⟨fun b u q _ _ _ => q, fun b u q _ _ _ => ⟨u.slots, q⟩, fun b u q n _ => ?_, fun b u q _ => ⟨u, q⟩, fun b xs q => other q (by simp), fun b u v q => other q (by simp), fun b ps q => ⟨#[], by rw [Array.append_empty]; exact other q (by simp)⟩⟩ fun b u q => ?_⟩
 ·by_cases e : b = d
  ·subst e; rw [h] at n; cases n
  ·rw [upd_ne e]; exact n
 ·by_cases e : b = d
  ·subst e
   rw [upd_same] at q
   cases q
   exact ⟨ho, z, hd, vs, rel, dd⟩
  ·rw [upd_ne e] at q
   exact (I.hok b u q).stay (fun c v _ z => z) (fun c z => other z (by simp)) fun c xs z => other z (by simp)
theorem Inv.thaw {o : Obj} (I : Inv X pins σ H s) (h : H d = some (.frz o (.dK kvs))) (h0 : ∀ o u, X.H₀ d ≠ some (.frz o u)) : Inv X pins σ (upd H d (.dK kvs)) s := by
 have other : ∀ {b u}, H b = some u -> (∀ o v, u ≠ .frz o v) -> upd H d (.dK kvs) b = some u := fun {b u} e ne => by rw [upd_ne (ne_of e h (ne _ _))]; exact e
 have none' : ∀ {b}, H b = none -> upd H d (.dK kvs) b = none := fun {b} e => by
  rw [upd_ne (fun z => by subst z; rw [h] at e; cases e)]; exact e
 refine ⟨I.ok, I.os, I.bare, ⟨I.base.keep, I.base.slot, fun b u q n hx => none' (I.base.free b u q n hx), I.base.there, fun b xs q => other (I.base.tups b xs q) (by simp), fun b u v q => ?_, fun b ps q => ?_⟩, I.loc, I.cell, none' I.free, fun x c e => none' (I.freeC x c e), fun p hp => ?_, fun b u q => ?_, I.len⟩
 ·have := I.base.frzs b u v q
  rw [upd_ne (fun z => by subst z; exact h0 _ _ q)]
  exact this
 ·obtain ⟨more, e⟩ := I.base.tbls b ps q
  exact ⟨more, other e (by simp)⟩
 ·obtain ⟨a1, a2, a3⟩ := I.pin p hp
  exact ⟨a1, none' a2, a3⟩
 ·by_cases e : b = d
  ·subst e
   rw [upd_same] at q
   cases q
   obtain ⟨ho, z, hd, vs, rel, dd⟩ := I.hok b _ h
   exact ⟨z, hd, vs, rel, dd⟩
  ·rw [upd_ne e] at q
   exact (I.hok b u q).stay (fun c v _ z => z) (fun c z => other z (by simp)) fun c xs z => other z (by simp)
end
def tThaw (t : TE) : TE := fun σ H Q => ∃ d kvs, H d = some (.dK kvs) /\ t σ H fun v H1 => ∃ o, H1 d = some (.frz o (.dK kvs)) /\ Q v (upd H1 d (.dK kvs))
def Itv (d : Addr) (o : Obj) (kvs : List (Key × V)) : It := ⟨fun i H => H d = some (.frz o (.dK kvs)) /\ i < kvs.length, fun i H x H' => H' = H /\ ∃ k, kvs[i]? = some (k, x), fun i H => H d = some (.frz o (.dK kvs)) /\ kvs.length <= i⟩
theorem dictAt_frz {X : Cx} {pins : List (Addr × Obj)} {σ : St} {H : Hp} {s : Shared} {d : Addr} {kvs : List (Key × V)} {o : Obj} {es : Array DictEntry} {ep : Nat} (I : Inv X pins σ H s) (h : H d = some (.frz o (.dK kvs))) (ho : o.data = .dict es ep) : ∃ vs, KV kvs vs /\ s.heap.DictAt (mixKind X.prog X.w) d vs ep := by
 obtain ⟨e, z, hd, vs, rel, o', es', ep', e', c', d', r⟩ := I.hok d _ h
 rw [e] at e'
 cases e'
 rw [ho] at d'
 cases d'
 exact ⟨vs, rel, o, es, e, c', ho, r⟩
theorem kv_get {κ : Type} {kvs : List (κ × V)} {vs : List (κ × Value)} (r : KV kvs vs) : ∀ (i : Nat) {k : κ} {x : V}, kvs[i]? = some (k, x) -> ∃ u, vs[i]? = some (k, u) /\ RelV x u := by
 induction r with
 | nil => intro i k x e; simp at e
 | @cons p q _ _ h _ ih =>
  intro i k x e
  cases i with
  | zero =>
   have e : p = (k, x) := by simpa using e
   subst e
   refine ⟨q.2, ?_, h.2⟩
   rw [List.getElem?_cons_zero]
   have h1 : k = q.1 := h.1
   rw [h1]
  | succ i => exact ih i (by simpa using e)
def iVals (tv : TE) : TI := fun σ H R => tv σ H fun x H1 => ∃ v d kvs, x = .ref v /\ H1 v = some (valuesV v d) /\ H1 d = some (.dK kvs) /\ ∀ o, R (Itv d o kvs) (upd H1 d (.frz o (.dK kvs)))
def Its (x : Str) : It := ⟨fun i _ => i < x.cps.size, fun i H v H' => H' = H /\ ∃ c, x.cps[i]? = some c /\ v = .str ⟨#[c]⟩, fun i _ => x.cps.size <= i⟩
theorem turn_ascii {P : Program} {w : World} {K : PySem.W.Frag} {tg : Expr} (it : Addr) (x : Str) (t : Tok) : Turn P w K tg (Its x) [it] it (fun i h => i <= x.cps.size /\ h.IsStrIter it "str_ascii_iterator" x t i) where
 mem := by simp
 obj := fun i h st b hb => by
  obtain rfl : b = it := by simpa using hb
  obtain ⟨o, e, c, d⟩ := st.2
  exact ⟨o, e, fun v z => by rw [d] at z; cases z⟩
 keep := fun i h h' st k => ⟨st.1, let ⟨o, ho, r⟩ := st.2; ⟨o, k it (by simp) o ho, r⟩⟩
 item := by
  intro X hP hw hK hc i pins s σ H E I hf st hg
  subst hP hw hK
  have hg : i < x.cps.size := hg
  obtain ⟨f0, f1, f2, f3, f4, f5⟩ := hf it (by simp)
  refine wpAny_pyNext_ascii_item st.2 (c := x.cps[i]) (by simp [hg]) fun h' st' sb => ?_
  have I1 : Inv X pins σ H { s with heap := h', toks := s.toks + 1 } := I.turned (t' := s.toks + 1) (fun b o hb e => (sb.2 b hb).trans e) f0 f1 f3 f4 f5
  obtain ⟨o', e, c, dd⟩ := id st'
  exact ⟨_, rfl, go_of (s := { s with heap := h', toks := s.toks + 1 }) e c dd (by decide) ⟨.str ⟨#[x.cps[i]]⟩, H, I1, ⟨_, rfl⟩, ⟨rfl, _, by simp [hg], rfl⟩, ⟨hg, st'⟩, fun b hb => (hf b hb).1⟩⟩
 done := by
  intro X hP hw hK hc i pins s σ H E I hf st hg
  subst hP hw hK
  have hg : x.cps.size <= i := hg
  obtain ⟨f0, f1, f2, f3, f4, f5⟩ := hf it (by simp)
  exact wpAny_pyNext_ascii_end (I.ok.hd hc) st.2 (by simp [hg]) fun h' eb => ⟨rfl, I.turned (t' := s.toks) (fun b o hb e => eb b o hb e) f0 f1 f3 f4 f5⟩
 self := fun _ _ _ _ _ st h => wpAny_pyIter_striter_ascii st.2 h
theorem turn_wide {P : Program} {w : World} {K : PySem.W.Frag} {tg : Expr} (it : Addr) (x : Str) (t : Tok) : Turn P w K tg (Its x) [it] it (fun i h => i <= x.cps.size /\ h.IsStrIter it "str_iterator" x t i) where
 mem := by simp
 obj := fun i h st b hb => by
  obtain rfl : b = it := by simpa using hb
  obtain ⟨o, e, c, d⟩ := st.2
  exact ⟨o, e, fun v z => by rw [d] at z; cases z⟩
 keep := fun i h h' st k => ⟨st.1, let ⟨o, ho, r⟩ := st.2; ⟨o, k it (by simp) o ho, r⟩⟩
 item := by
  intro X hP hw hK hc i pins s σ H E I hf st hg
  subst hP hw hK
  have hg : i < x.cps.size := hg
  obtain ⟨f0, f1, f2, f3, f4, f5⟩ := hf it (by simp)
  refine wpAny_pyNext_wide_item st.2 (c := x.cps[i]) (by simp [hg]) fun h' st' sb => ?_
  have I1 : Inv X pins σ H { s with heap := h', toks := s.toks + 1 } := I.turned (t' := s.toks + 1) (fun b o hb e => (sb.2 b hb).trans e) f0 f1 f3 f4 f5
  obtain ⟨o', e, c, dd⟩ := id st'
  exact ⟨_, rfl, go_of (s := { s with heap := h', toks := s.toks + 1 }) e c dd (by decide) ⟨.str ⟨#[x.cps[i]]⟩, H, I1, ⟨_, rfl⟩, ⟨rfl, _, by simp [hg], rfl⟩, ⟨hg, st'⟩, fun b hb => (hf b hb).1⟩⟩
 done := by
  intro X hP hw hK hc i pins s σ H E I hf st hg
  subst hP hw hK
  have hg : x.cps.size <= i := hg
  obtain ⟨f0, f1, f2, f3, f4, f5⟩ := hf it (by simp)
  exact wpAny_pyNext_wide_end (I.ok.hd hc) st.2 (by simp [hg]) fun h' eb => ⟨rfl, I.turned (t' := s.toks) (fun b o hb e => eb b o hb e) f0 f1 f3 f4 f5⟩
 self := fun _ _ _ _ _ st h => wpAny_pyIter_striter_wide st.2 h
def iStr (tl : TE) : TI := fun σ H R => tl σ H fun v H1 => ∃ x, v = .str x /\ R (Its x) H1
theorem pi_str {X : Cx} {tg l : Expr} {tl : TE} (hl : PE X l tl) : PI X tg l (iStr tl) := by
 intro pins s σ H R I h
 refine thn (hl pins s σ H _ I h) fun v s1 ⟨y, H1, I1, r1, x, e, q⟩ => ?_
 subst e
 obtain ⟨t, rfl⟩ := r1
 have fp : ∀ b ∈ [s1.heap.objs.size], FpOk X pins H1 b := fun b hb => by
  obtain rfl : b = s1.heap.objs.size := by simpa using hb
  exact I1.fpOk (Nat.le_refl _) (I1.hok.fresh (Nat.le_refl _))
 cases ha : x.cps.all (· < 128)
 ·refine wpAny_pyIter_wide ha ?_
  exact ⟨s1.heap.objs.size, [s1.heap.objs.size], _, _, H1, rfl, I1.kept (t' := s1.toks) fun b o e => Heap.get?_push_of_some _ e, turn_wide _ x t, ⟨Nat.zero_le _, _, Heap.get?_push_size _ rfl, rfl, rfl⟩, fp, q⟩
 ·refine wpAny_pyIter_ascii ha ?_
  exact ⟨s1.heap.objs.size, [s1.heap.objs.size], _, _, H1, rfl, I1.kept (t' := s1.toks) fun b o e => Heap.get?_push_of_some _ e, turn_ascii _ x t, ⟨Nat.zero_le _, _, Heap.get?_push_size _ rfl, rfl, rfl⟩, fp, q⟩
end L2
namespace L2
open PySem PySem.Spec PyProof.Rows PySem.W EvS EvD
theorem opK {X : Cx} {f : Value -> Value -> Sem Value} {K : PySem.W.Frag} (r : PySem.W.Frag -> R2) (h : OpR X f (r X.K)) (hK : X.K = K := by rfl) : OpR X f (r K) := by
 subst hK
 exact h
theorem callK {X : Cx} {f : Value} {K : PySem.W.Frag} (r : PySem.W.Frag -> List V -> Hp -> VK -> Prop) (h : CallR X f (r X.K)) (hK : X.K = K := by rfl) : CallR X f (r K) := by
 subst hK
 exact h
theorem ixK {X : Cx} {K : PySem.W.Frag} (r : PySem.W.Frag -> R2) (h : IxR X (r X.K)) (hK : X.K = K := by rfl) : IxR X (r K) := by
 subst hK
 exact h
def rLen (K : PySem.W.Frag) : List V -> Hp -> VK -> Prop := fun xs H Q => ∃ p ys, xs = [.ref p] /\ (SqL K H p ys ∨ SqT K H p ys) /\ Q (.int ys.length) H
def rListOf (K : PySem.W.Frag) : List V -> Hp -> VK -> Prop := fun xs H Q => ∃ p ys, xs = [.ref p] /\ (SqL K H p ys ∨ SqT K H p ys) /\ ∀ l, H l = none -> Q (.ref l) (upd H l (.lst ys))
def rTupOf (K : PySem.W.Frag) : List V -> Hp -> VK -> Prop := fun xs H Q => ∃ p ys, xs = [.ref p] /\ ((SqL K H p ys /\ ∀ l, H l = none -> Q (.ref l) (upd H l (.tup ys))) ∨ (SqT K H p ys /\ Q (.ref p) H))
theorem pg_tupC {X : Cx} {N : List Str} {scope : Scope} {fp : List Addr} {s : Shared} {H : Hp} {es : List Expr} {k : Nat} {pos : Pos} {t : TGs} {n : Nat} (h : PGs (cxComp X N scope fp s H) es t) (hc : X.calm = true := by rfl)
  (hn : (assignEach es (cxComp X N scope fp s H).env).length = n := by rfl) (hst : (assignEach es (cxComp X N scope fp s H).env).findIdx? (·.1) = none := by rfl) : PG (cxComp X N scope fp s H) (.Tuple es k pos) (gTup X.K n t) := pg_tup (X := cxComp X N scope fp s H) hc h hn hst
end L2
set_option Elab.async false
set_option linter.all false
set_option maxRecDepth 100000
namespace Ev
open PySem L2
def top (i : Nat) : Stmt := PySem.Challenge.pw_evenpieces_k98_whole_rows_of_moves_walke.main.body.getD i (.Pass ⟨0, 0, 0, 0⟩)
abbrev sIsW : Stmt := top 11
abbrev sWhole : Stmt := top 12
abbrev sName : Stmt := top 13
abbrev sLesser : Stmt := top 14
abbrev sPair : Stmt := top 15
abbrev sSorted : Stmt := top 16
abbrev sAnew : Stmt := top 17
abbrev sHand : Stmt := top 29
abbrev sStr : Stmt := top 30
abbrev sTies : Stmt := top 31
abbrev sNear : Stmt := top 32
abbrev sWeb : Stmt := top 33
def ltS (a b : Str) : Bool := decide (a.cps.toList < b.cps.toList)
def ord2 (a b : Str) : Str × Str := if ltS a b = true then (a, b) else (b, a)
section
variable {P : Program} {w : World} {K : PySem.W.Frag} {mg : Str -> Option Value} {base : Heap}
theorem scLesser : FnScope ["one", "other"] ["one", "other"] (defScope sLesser) := ⟨rfl, rfl, rfl, by decide +kernel, rfl, by decide +kernel, by decide +kernel⟩
def spLesser : Sp := fun vs H Q _ => ∃ a b, vs = [.str a, .str b] /\ ∀ t, H t = none -> Q (.ref t) (upd H t (.tup [.str (ord2 a b).1, .str (ord2 a b).2]))
theorem ok_lesser {f : Addr} {fd : FuncData} (F : Fun K "lesser_first" "lesser_first" sLesser f fd) : FnOk P w K mg base CX0 1 f fd ["one", "other"] spLesser := by
 refine F.ok scLesser (fun vs H Q E h => ?_) (fun cdv A outer s H vs Q E hr h => ?_)
 ·obtain ⟨a, b, rfl, _⟩ := h
  rfl
 ·obtain ⟨a, b, rfl, k⟩ := h
  refine ⟨_, pss_one (ps_ret (pe_ifExp (pt_cmpR op_lt_str (pv 0) (pv 1) (nomark _)) (pe_tup (pa_cons (pv 0) (pa_cons (pv 1) pa_nil))) (pe_tup (pa_cons (pv 1) (pa_cons (pv 0) pa_nil))))), ?_⟩
  refine ⟨_, rfl, _, rfl, a, b, rfl, rfl, _, rfl, ?_⟩
  refine ite2 (fun c => ?_) (fun c => ?_)
  ·refine ⟨_, rfl, _, rfl, by show 2 <= sizeLine; decide, fun t ht => ?_⟩
   have := k t ht
   rwa [show ord2 a b = (a, b) from if_pos c] at this
  ·refine ⟨_, rfl, _, rfl, by show 2 <= sizeLine; decide, fun t ht => ?_⟩
   have := k t ht
   rwa [show ord2 a b = (b, a) from if_neg c] at this
theorem scWhole : FnScope ["thing", "least", "most"] ["thing", "least", "most"] (defScope sWhole) := ⟨rfl, rfl, rfl, by decide +kernel, rfl, by decide +kernel, by decide +kernel⟩
def spWhole : Sp := fun vs H Q _ => ∃ i a b : Int, vs = [.int i, .int a, .int b] /\ Q (.bl (decide (a <= i) && decide (i <= b))) H
structure Bi (mg : Str -> Option Value) : Prop where
 isi : mg "isinstance" = none
 int : mg "int" = none
 bool : mg "bool" = none
 str : mg "str" = none
 tuple : mg "tuple" = none
 list : mg "list" = none
 dict : mg "dict" = none
 len : mg "len" = none
 all : mg "all" = none
 sorted : mg "sorted" = none
 max : mg "max" = none
 range : mg "range" = none
 any : mg "any" = none
 enum : mg "enumerate" = none
structure Cal (P : Program) (w : World) (K : PySem.W.Frag) (mg : Str -> Option Value) (base : Heap) (k : Nat) (x : Str) (ps : List Str) (sp : Sp) : Prop where
 ex : ∃ f fd, FnOk P w K mg base CX0 k f fd ps sp /\ mg x = some (.ref f) /\ PySem.W.keepIn K (.ref f) = true /\ Binds K fd ps []
theorem pe_fn {X : Cx} {k : Nat} {x : Str} {ps : List Str} {sp : Sp} {p pos : Pos} {e : Expr} {es : List Expr} {t : TA} (c : Cal X.prog X.w X.K X.mg X.base k x ps sp) (hr : Room k X.A) (ha : PA X (e :: es) t) (hg : Gl X x := by rfl) (hdb : (x == ("__debug__" : Str)) = false := by decide)
  (he : starEach (e :: es) X.env = (false, eval e X.env) :: starEach es X.env := by rfl) (hpl : (backTo pos (starEach es X.env)).any (·.1) = false := by rfl) : PE X (.Call (.Name x p) (e :: es) [] pos) (tCall sp [] E0 t) := by
 obtain ⟨f, fd, F, m, kp, b⟩ := c.ex
 exact pe_call F hr hg m kp b .nil pass0 ha hdb he hpl
theorem scIsW : FnScope ["thing"] ["thing"] (defScope sIsW) := ⟨rfl, rfl, rfl, by decide +kernel, rfl, by decide +kernel, by decide +kernel⟩
def spIsW : Sp := fun vs H Q _ => ∃ i : Int, vs = [.int i] /\ Q (.bl true) H
theorem ok_isW {f : Addr} {fd : FuncData} (F : Fun K "is_whole" "is_whole" sIsW f fd) (B : Bi mg) : FnOk P w K mg base CX0 1 f fd ["thing"] spIsW := by
 refine F.ok scIsW (fun vs H Q E h => ?_) (fun cdv A outer s H vs Q E hr h => ?_)
 ·obtain ⟨i, rfl, _⟩ := h
  rfl
 ·obtain ⟨i, rfl, k⟩ := h
  refine ⟨_, pss_one (ps_ret (pe_and (pe_callB call_isi (by rfl) B.isi PyProof.Rows.Boot.«isinstance» (pa_cons (pv 0) (pa_cons (pe_bltn (v := .ty "int") (by rfl) B.int PyProof.Rows.Boot.«int» rfl) pa_nil))) (pe_one (pe_not (pe_callB call_isi (by rfl) B.isi PyProof.Rows.Boot.«isinstance» (pa_cons (pv 0) (pa_cons (pe_bltn (v := .ty "bool") (by rfl) B.bool PyProof.Rows.Boot.«bool» rfl) pa_nil))))))), ?_⟩
  exact ⟨_, rfl, _, _, _, _, rfl, .int i, rfl, _, rfl, iteT ⟨_, rfl, _, _, _, _, rfl, .int i, rfl, _, rfl, k⟩⟩
theorem ok_whole {f : Addr} {fd : FuncData} (F : Fun K "is_whole_within" "is_whole_within" sWhole f fd) (cI : Cal P w K mg base 1 "is_whole" ["thing"] spIsW) : FnOk P w K mg base CX0 2 f fd ["thing", "least", "most"] spWhole := by
 refine F.ok scWhole (fun vs H Q E h => ?_) (fun cdv A outer s H vs Q E hr h => ?_)
 ·obtain ⟨i, a, b, rfl, _⟩ := h
  rfl
 ·obtain ⟨i, a, b, rfl, k⟩ := h
  refine ⟨_, pss_one (ps_ret (pe_and (pe_fn cI hr (pa_cons (pv 0) pa_nil)) (pe_one (pe_chain op_le op_le (pv 1) (pv 0) (pv 2))))), ?_⟩
  refine ⟨_, rfl, i, rfl, _, rfl, iteT ?_⟩
  refine ⟨_, rfl, _, rfl, _, _, rfl, rfl, _, rfl, ?_⟩
  refine ite2 (fun c => ?_) (fun c => ?_)
  ·refine ⟨_, rfl, _, _, rfl, rfl, ?_⟩
   rw [c] at k
   exact k
  ·rw [show decide (a <= i) = false by simpa using c] at k
   exact k
def okc (c : Nat) : Bool := decide (97 <= c) && decide (c <= 122)
def nameB (x : Str) : Bool := decide (1 <= x.length) && decide (x.length <= 8) && x.cps.toList.all okc
theorem scName : FnScope ["thing"] ["thing"] (defScope sName) := ⟨rfl, rfl, rfl, by decide +kernel, rfl, by decide +kernel, by decide +kernel⟩
def spName : Sp := fun vs H Q _ => ∃ x : Str, vs = [.str x] /\ x.length <= 100000 /\ ∀ H', Same H H' -> Q (.bl (nameB x)) H'
theorem sign_le {c : Nat} : (!decide ((⟨#[c]⟩ : Str).cps.toList < ("a" : Str).cps.toList)) = decide (97 <= c) := by
 have e : ("a" : Str).cps.toList = [97] := by decide +kernel
 rw [e]
 show (!decide ([c] < [97])) = decide (97 <= c)
 by_cases h : 97 <= c
 ·have : ¬ [c] < [97] := by simp [List.cons_lt_cons_iff]; omega
  simp [this, h]
 ·have : [c] < [97] := by simp [List.cons_lt_cons_iff]; omega
  simp [this, h]
theorem sign_ge {c : Nat} : (!decide (("z" : Str).cps.toList < (⟨#[c]⟩ : Str).cps.toList)) = decide (c <= 122) := by
 have e : ("z" : Str).cps.toList = [122] := by decide +kernel
 rw [e]
 show (!decide ([122] < [c])) = decide (c <= 122)
 by_cases h : c <= 122
 ·have : ¬ [122] < [c] := by simp [List.cons_lt_cons_iff]; omega
  simp [this, h]
 ·have : [122] < [c] := by simp [List.cons_lt_cons_iff]; omega
  simp [this, h]
theorem ok_name {f : Addr} {fd : FuncData} (F : Fun K "is_name" "is_name" sName f fd) (B : Bi mg) {t8 : Tok} (m8 : mg "MOST_LETTERS" = some (.int 8 t8)) : FnOk P w K mg base CX0 1 f fd ["thing"] spName := by
 refine F.ok scName (fun vs H Q E h => ?_) (fun cdv A outer s H vs Q E hr h => ?_)
 ·obtain ⟨x, rfl, _⟩ := h
  rfl
 ·obtain ⟨x, rfl, hz, k⟩ := h
  have sz := sizeLine_eq
  refine ⟨_, pss_cons (ps_if (pw_or (pt_not (pt_val (pe_callB call_isi (by rfl) B.isi PyProof.Rows.Boot.«isinstance» (pa_cons (pv 0) (pa_cons (pe_bltn (v := .ty "str") (by rfl) B.str PyProof.Rows.Boot.«str» rfl) pa_nil)))))
    (pw_or1 (pt_not (pt_chain op_le op_le pe_int (pe_callB call_len_str (by rfl) B.len PySem.boot_len (pa_cons (pv 0) pa_nil)) (pe_glob (v := .int 8) (by rfl) m8 ⟨t8, rfl⟩))))).pt (pss_one (ps_ret pe_bl)) pss_nil)
   (pss_one (ps_ret (pe_callB (call_all rfl) (by rfl) B.all PyProof.Rows.Boot.«all» (pa_cons
    (pe_comp ["letter"] 1 [] (pi_str (pv 0)) (fun fp s H => pg_name (i := 0) (show (["letter"] : List Str).Nodup by decide +kernel) rfl (Or.inl rfl)) (fun fp s H => pts_nil) (fun fp s H => pe_chain op_le_str op_le_str pe_str (pv 0) pe_str)) pa_nil)))), ?_⟩
  refine ⟨_, rfl, _, _, _, _, rfl, .str x, rfl, _, rfl, ?_⟩
  refine iteF ?_
  refine ⟨_, rfl, x, rfl, by omega, _, _, rfl, rfl, _, rfl, ?_⟩
  have fin : (decide (1 <= x.length) && decide (x.length <= 8)) = false -> ∀ H', Same H H' -> Q (.bl false) H' := fun e H' sm => by
   have := k H' sm
   rwa [show nameB x = false by unfold nameB; rw [e]; rfl] at this
  refine ite2 (fun c => ?_) (fun c => ?_)
  ·have c1 : 1 <= x.length := by
    have : (1 : Int) <= (x.length : Int) := by simpa using c
    omega
   refine ⟨_, _, rfl, rfl, _, rfl, ?_⟩
   refine ite2 (fun c2 => ?_) (fun c2 => ?_)
   ·-- too long
    have c3 : ¬ x.length <= 8 := by
     have : ¬ ((x.length : Int) <= 8) := by simpa using c2
     omega
    exact fin (by rw [decide_eq_false c3, Bool.and_false]) H (Same.refl H)
   ·have c3 : x.length <= 8 := by
     have : (x.length : Int) <= 8 := by simpa using c2
     omega
    refine ⟨_, rfl, x, rfl, fun D hD => ?_⟩
    refine comp_it (own := 1) (fv := []) rfl gok1 x.cps.size (fun i out H' => H' = upd H D (.lst out) /\ out = ((x.cps.toList.take i).map okc).map V.bl) ⟨rfl, by simp⟩ (fun out H' ⟨e1, e2⟩ => ?_) (fun i out H' hi ⟨e1, e2⟩ => ?_)
    ·refine ⟨Nat.le_refl _, D, x.cps.toList.map okc, rfl, .of ?_, ?_⟩
     ·rw [e1, upd_same, e2, List.take_of_length_le (by simp)]
     ·have := k H' (by rw [e1]; exact Same.new hD)
      rwa [show nameB x = (x.cps.toList.map okc).all id by unfold nameB; rw [decide_eq_true c1, decide_eq_true c3, List.all_map]; rfl] at this
    ·refine ⟨hi, fun v H2 y => ?_⟩
     obtain ⟨eH, c, hc, rfl⟩ := y
     subst eH
     refine ⟨_, rfl, rfl, fun Nx hN => yesT ?_⟩
     have lo : out.length < sizeLine := by
      rw [e2]
      have hs : x.length = x.cps.size := rfl
      simp only [List.length_map, List.length_take, Array.length_toList]
      omega
     have nx : Nx (upd H2 D (.lst (out ++ [V.bl (okc c)]))) := hN (out ++ [V.bl (okc c)]) _ ⟨by rw [e1, upd_upd], by
      rw [e2, List.take_add_one]
      simp [hc]⟩
     have atD : H2 D = some (.lst out) := by rw [e1, upd_same]
     refine ⟨_, rfl, _, _, rfl, rfl, _, rfl, ?_⟩
     rw [sign_le]
     refine ite2 (fun c2 => ?_) (fun c2 => ?_)
     ·refine ⟨_, _, rfl, rfl, out, atD, lo, ?_⟩
      rw [sign_ge]
      rwa [show okc c = decide (c <= 122) by unfold okc; rw [c2]; rfl] at nx
     ·refine ⟨out, atD, lo, ?_⟩
      rwa [show okc c = false by unfold okc; rw [show decide (97 <= c) = false by simpa using c2]; rfl] at nx
  ·have c1 : ¬ 1 <= x.length := by
    have : ¬ ((1 : Int) <= (x.length : Int)) := by simpa using c
    omega
   exact ⟨_, rfl, iteT (fin (by rw [decide_eq_false c1]; rfl) H (Same.refl H))⟩
end
end Ev
set_option Elab.async false
set_option linter.all false
set_option maxRecDepth 100000
namespace Ev
open PySem L2
def kT (t : Str × Str) : List Key := [.inr t.1, .inr t.2]
def goodT (t : Str × Str) : Prop := nameB t.1 = true /\ nameB t.2 = true /\ t.1 ≠ t.2
theorem nameB_len {x : Str} (h : nameB x = true) : x.length <= 8 := by
 unfold nameB at h
 simp only [Bool.and_eq_true, decide_eq_true_eq] at h
 exact h.1.2
theorem hpT {H : Hp} {p : Addr} {t : Str × Str} (h : H p = some (.tup ((kT t).map kV))) : H p = some (.tup [.str t.1, .str t.2]) := h
section
variable {P : Program} {w : World} {K : PySem.W.Frag} {mg : Str -> Option Value} {base : Heap}
theorem scPair : FnScope ["thing"] ["thing"] (defScope sPair) := ⟨rfl, rfl, rfl, by decide +kernel, rfl, by decide +kernel, by decide +kernel⟩
def spPair : Sp := fun vs H Q _ => ∃ (p : Addr) (a b : Str), vs = [.ref p] /\ H p = some (.tup [.str a, .str b]) /\ a.length <= 100000 /\ b.length <= 100000 /\ ∀ H', Same H H' -> Q (.bl (nameB a && nameB b && !decide (a = b))) H'
theorem ok_pair {f : Addr} {fd : FuncData} (F : Fun K "is_pair_of_names" "is_pair_of_names" sPair f fd) (B : Bi mg) (cN : Cal P w K mg base 1 "is_name" ["thing"] spName) : FnOk P w K mg base CX0 2 f fd ["thing"] spPair := by
 refine F.ok scPair (fun vs H Q E h => ?_) (fun cdv A outer s H vs Q E hr h => ?_)
 ·obtain ⟨p, a, b, rfl, _⟩ := h
  rfl
 ·obtain ⟨p, a, b, rfl, hp, la, lb, k⟩ := h
  refine ⟨_, pss_cons (ps_if (pw_or (pt_not (pt_val (pe_callB call_isi (by rfl) B.isi PyProof.Rows.Boot.«isinstance» (pa_cons (pv 0) (pa_cons (pe_bltn (v := .ty "tuple") (by rfl) B.tuple PyProof.Rows.Boot.«tuple» rfl) pa_nil)))))
    (pw_or1 (pt_cmpR op_ne (pe_callB call_len_seq (by rfl) B.len PySem.boot_len (pa_cons (pv 0) pa_nil)) pe_int (nomark _)))).pt (pss_one (ps_ret pe_bl)) pss_nil)
   (pss_one (ps_ret (pe_and (pe_fn cN hr (pa_cons (pe_ix ix_tup (pv 0) pe_int (fun _ _ => rfl)) pa_nil)) (pe_and (pe_fn cN hr (pa_cons (pe_ix ix_tup (pv 0) pe_int (fun _ _ => rfl)) pa_nil))
    (pe_one (pe_cmpR op_ne (pe_ix ix_tup (pv 0) pe_int (fun _ _ => rfl)) (pe_ix ix_tup (pv 0) pe_int (fun _ _ => rfl)) (nomark _))))))), ?_⟩
  refine ⟨_, rfl, _, _, _, _, rfl, .tup hp, rfl, _, rfl, iteF ?_⟩
  refine ⟨_, rfl, p, _, rfl, .inr (.of hp), rfl, _, rfl, ?_⟩
  refine iteNS (show V.int ((2 : Nat) : Int) = V.int 2 from rfl) ?_
  refine ⟨_, rfl, p, _, _, _, rfl, rfl, .of hp, rfl, a, rfl, la, fun H1 s1 => ⟨_, rfl, ?_⟩⟩
  have hp1 := s1 _ _ hp
  refine ite2 (fun c => ?_) (fun c => ?_)
  ·refine ⟨_, rfl, p, _, _, _, rfl, rfl, .of hp1, rfl, b, rfl, lb, fun H2 s2 => ⟨_, rfl, ?_⟩⟩
   have hp2 := s2 _ _ hp1
   have kk := k H2 (s1.trans s2)
   refine ite2 (fun c2 => ?_) (fun c2 => ?_)
   ·refine ⟨_, rfl, p, _, _, _, rfl, rfl, .of hp2, rfl, _, rfl, p, _, _, _, rfl, rfl, .of hp2, rfl, rfl, ?_⟩
    rw [c, c2] at kk
    have e : decide (V.str a = V.str b) = decide (a = b) := by
     by_cases z : a = b
     ·simp [z]
     ·simp [z]
    show Q (.bl (!decide (V.str a = V.str b))) H2
    rw [e]
    exact kk
   ·rw [c, show nameB b = false by simpa using c2] at kk
    exact kk
  ·have kk := k H1 s1
   rw [show nameB a = false by simpa using c] at kk
   exact kk
theorem scSorted : FnScope ["ties", "found", "pair", "tie"] ["ties"] (defScope sSorted) := ⟨rfl, rfl, rfl, by decide +kernel, rfl, by decide +kernel, by decide +kernel⟩
def spSorted (K : PySem.W.Frag) : Sp := fun vs H Q _ => ∃ (l : Addr) (ys : List V) (ts : List (Str × Str)), vs = [.ref l] /\ H l = some (.lst ys) /\ TupsAt K H ys (ts.map kT) /\ (∀ t ∈ ts, goodT t) /\ (ts.map fun t => kT (ord2 t.1 t.2)).Nodup /\ ts.length < 64 /\
 ∀ l' zs H', Same H H' -> H l' = none -> H' l' = some (.lst zs) -> TupsAt K H' zs (sortKs (ts.map fun t => kT (ord2 t.1 t.2))) -> Q (.ref l') H'
theorem paired_map {α β γ : Type} {F : α -> γ -> Prop} {g : β -> γ} {ys : List α} {ts : List β} (t : Paired F ys (ts.map g)) {i : Nat} {y : α} (h : ys[i]? = some y) : ∃ x, ts[i]? = some x /\ F y (g x) := by
 have hi : i < ys.length := (List.getElem?_eq_some_iff.mp h).1
 have hl := Paired.length t
 rw [List.length_map] at hl
 have := paired_get t i hi (by rw [List.length_map]; omega)
 rw [List.getElem_map] at this
 refine ⟨ts[i], List.getElem?_eq_getElem (by omega), ?_⟩
 rw [(List.getElem?_eq_some_iff.mp h).2] at this
 exact this
theorem valV_none_of {κ : Type} [DecidableEq κ] {kvs : List (κ × V)} {k : κ} (h : k ∉ kvs.map (·.1)) : valV kvs k = none := by
 cases e : valV kvs k with
 | none => rfl
 | some v => exact absurd (valV_in e) h
theorem take_succ_map {α β : Type} (g : α -> β) {ts : List α} {i : Nat} {x : α} (h : ts[i]? = some x) : (ts.take (i + 1)).map g = (ts.take i).map g ++ [g x] := by
 rw [List.take_add_one, h, List.map_append]
 rfl
theorem nodup_take {α β : Type} {g : α -> β} {ts : List α} {i : Nat} {x : α} (h : (ts.map g).Nodup) (hx : ts[i]? = some x) : g x ∉ (ts.take i).map g := by
 intro m
 have hi : i < ts.length := (List.getElem?_eq_some_iff.mp hx).1
 obtain ⟨y, hy, e⟩ := List.mem_map.mp m
 obtain ⟨j, hj, e2⟩ := List.getElem_of_mem hy
 rw [List.length_take] at hj
 rw [List.getElem_take] at e2
 rw [List.nodup_iff_pairwise_ne, List.pairwise_map, List.pairwise_iff_getElem] at h
 refine h j i (by omega) hi (by omega) ?_
 rw [e2, e, (List.getElem?_eq_some_iff.mp hx).2]
theorem ok_sorted {f : Addr} {fd : FuncData} (F : Fun K "sorted_ties" "sorted_ties" sSorted f fd) (B : Bi mg) (cP : Cal P w K mg base 2 "is_pair_of_names" ["thing"] spPair) (cL : Cal P w K mg base 1 "lesser_first" ["one", "other"] spLesser) : FnOk P w K mg base CX0 3 f fd ["ties"] (spSorted K) := by
 refine F.ok scSorted (fun vs H Q E h => ?_) (fun cdv A outer s H vs Q E hr h => ?_)
 ·obtain ⟨l, ys, ts, rfl, _⟩ := h
  rfl
 ·obtain ⟨l, ys, ts, rfl, hl, tu, good, nd, h64, k⟩ := h
  have hu := hu_of hr
  have hr1 : Room 1 _ := hr.mono (by decide)
  have sz := sizeLine_eq
  refine ⟨_, pss_cons (ps_if (pt_not (pt_val (pe_callB call_isi (by rfl) B.isi PyProof.Rows.Boot.«isinstance» (pa_cons (pv 0) (pa_cons (pe_bltn (v := .ty "list") (by rfl) B.list PyProof.Rows.Boot.«list» rfl) pa_nil))))) pss_never pss_nil)
   (pss_cons (ps_set (i := 1) scSorted.nd rfl (Or.inl rfl) pe_dnewT)
   (pss_cons (ps_for PassesOwn.never rfl (pi_list (pv 0)) (pg_name (i := 2) scSorted.nd rfl (Or.inl rfl))
    (pss_cons (ps_if (pt_not (pt_val (pe_fn cP hr (pa_cons (pv 2) pa_nil)))) pss_never pss_nil)
    (pss_cons (ps_set (i := 3) scSorted.nd rfl (Or.inl rfl) (pe_fn cL hr1 (pa_cons (pe_ix ix_tup (pv 2) pe_int (fun _ _ => rfl)) (pa_cons (pe_ix ix_tup (pv 2) pe_int (fun _ _ => rfl)) pa_nil))))
    (pss_cons (ps_if (pt_cmp (pc_din hu (pv 3) (pv 1))) pss_never pss_nil)
    (pss_one (ps_dput hu (pv 1) (pv 3) pe_bl rfl))))))
   (pss_one (ps_ret (pe_callB (call_sortDT rfl) (by rfl) B.sorted PyProof.Rows.Boot.«sorted» (pa_cons (pv 1) pa_nil)))))), ?_⟩
  refine ⟨_, rfl, _, _, _, _, rfl, .lst hl, rfl, _, rfl, iteF ?_⟩
  intro d hd
  have s0 : Same H (upd H d (.dT [])) := Same.new hd
  refine ⟨_, rfl, l, rfl, ⟨_, .of (s0 _ _ hl)⟩, for_list (K := K) (a := l) (xs := ys) (fun i σ H2 => ∃ (v3 v4 : Option V), σ = [some (.ref l), some (.ref d), v3, v4] /\ Same H H2 /\ H2 d = some (.dT ((ts.take i).map fun t => (kT (ord2 t.1 t.2), V.bl true)))) ⟨none, none, rfl, s0, upd_same⟩ (fun i σ H2 _ ⟨_, _, _, s2, _⟩ => .of (s2 _ _ hl)) ?_ ?_⟩
  ·rintro i y σ H2 hy ⟨v3, v4, rfl, s2, hd2⟩
   obtain ⟨t, ht, a, rfl, ha⟩ := paired_map tu hy
   obtain ⟨g1, g2, g3⟩ := good t (List.mem_of_getElem? ht)
   have ha2 := s2 _ _ (hpT ha)
   refine ⟨_, rfl, a, t.1, t.2, rfl, ha2, by have := nameB_len g1; omega, by have := nameB_len g2; omega, fun H3 s3 => ⟨_, rfl, ?_⟩⟩
   have ha3 := s3 _ _ ha2
   have hd3 := s3 _ _ hd2
   rw [g1, g2, decide_eq_false g3]
   refine iteF ?_
   refine ⟨_, rfl, a, _, _, _, rfl, rfl, .of ha3, rfl, _, rfl, a, _, _, _, rfl, rfl, .of ha3, rfl, t.1, t.2, rfl, fun b hb => ?_⟩
   have s4 : Same H3 (upd H3 b (.tup [.str (ord2 t.1 t.2).1, .str (ord2 t.1 t.2).2])) := Same.new hb
   have hd4 := s4 _ _ hd3
   have hb4 : upd H3 b (.tup [.str (ord2 t.1 t.2).1, .str (ord2 t.1 t.2).2]) b = some (.tup ((kT (ord2 t.1 t.2)).map kV)) := upd_same
   have nov : valV ((ts.take i).map fun t => (kT (ord2 t.1 t.2), V.bl true)) (kT (ord2 t.1 t.2)) = none := valV_none_of (by
    rw [List.map_map]
    exact nodup_take (g := fun t => kT (ord2 t.1 t.2)) nd ht)
   refine ⟨_, rfl, _, rfl, d, _, rfl, .t (k := kT (ord2 t.1 t.2)) hd4 hb4, _, rfl, ?_⟩
   rw [nov]
   refine iteF ?_
   refine ⟨_, rfl, _, rfl, d, _, rfl, .t (k := kT (ord2 t.1 t.2)) hd4 hb4 (by rw [List.length_map, List.length_take]; omega), ?_⟩
   refine ⟨_, _, rfl, fun c o e => ?_, ?_⟩
   ·rw [upd_ne (ne_of_none e hd)]
    exact s4 _ _ (s3 _ _ (s2 _ _ e))
   ·rw [upd_same, putK_new _ nov, take_succ_map _ ht]
  ·rintro σ H2 ⟨v3, v4, rfl, s2, hd2⟩
   have le := Paired.length tu
   rw [List.length_map] at le
   rw [le, List.take_length] at hd2
   refine ⟨_, rfl, d, _, [true, true], rfl, hd2, ⟨by decide, fun k hk => ?_⟩, by rw [List.length_map]; exact h64, fun l' zs hn tz => ?_⟩
   ·rw [List.map_map] at hk
    obtain ⟨t, _, rfl⟩ := List.mem_map.mp hk
    rfl
   ·rw [List.map_map] at tz
    exact k l' zs _ (s2.trans (Same.new hn)) (s2.free hn) upd_same (tz.same (Same.new hn))
def spAnew (K : PySem.W.Frag) : Sp := fun vs H Q _ => ∃ (l : Addr) (ys : List V) (ts : List (Str × Str)), vs = [.ref l] /\ H l = some (.lst ys) /\ TupsAt K H ys (ts.map kT) /\ ts.length <= 1000 /\
 ∀ l' zs H', Same H H' -> H l' = none -> H' l' = some (.lst zs) -> TupsAt K H' zs (ts.map kT) -> Q (.ref l') H'
theorem tups_snoc {K : PySem.W.Frag} {H : Hp} {ys : List V} {ks : List (List Key)} {a : Addr} {k : List Key} (t : TupsAt K H ys ks) (h : H a = some (.tup (k.map kV))) : TupsAt K H (ys ++ [.ref a]) (ks ++ [k]) := Paired.snoc t ⟨a, rfl, h⟩
theorem same_but {H H1 : Hp} {D : Addr} {o : HO} (h : Same H H1) (hD : H D = none) : Same H (upd H1 D o) := fun b u e => by rw [upd_ne (ne_of_none e hD)]; exact h b u e
theorem tups_but {K : PySem.W.Frag} {H : Hp} {ys : List V} {ks : List (List Key)} {D : Addr} {o : HO} {xs : List V} (t : TupsAt K H ys ks) (hD : H D = some (.lst xs)) : TupsAt K (upd H D o) ys ks := Paired.mapP t fun y k ⟨a, z, q⟩ => ⟨a, z, by rw [upd_ne (ne_of q hD (by intro z; cases z))]; exact q⟩
end
end Ev
set_option Elab.async false
set_option linter.all false
set_option maxRecDepth 100000
namespace Ev
open PySem L2
def kH (h : Str × Int) : List Key := [.inr h.1, .inl h.2]
def goodH (h : Str × Int) : Prop := nameB h.1 = true /\ 1 <= h.2 /\ h.2 <= 1000
def kvOf : List Key -> Key × V
 | [k, v] => (k, kV v)
 | _ => (.inl 0, .non)
def sortH (hs : List (Str × Int)) : List (Key × V) := (sortKs (hs.map kH)).map kvOf
theorem hpH {H : Hp} {p : Addr} {t : Str × Int} (h : H p = some (.tup ((kH t).map kV))) : H p = some (.tup [.str t.1, .int t.2]) := h
theorem mergeK_app : ∀ (more kvs : List (Key × V)), (kvs.map (·.1) ++ more.map (·.1)).Nodup -> mergeK kvs more = kvs ++ more
 | [], kvs, _ => by
  show kvs = kvs ++ []
  rw [List.append_nil]
 | p :: more, kvs, h => by
  show mergeK (putK kvs p.1 p.2) more = kvs ++ p :: more
  have hn : valV kvs p.1 = none := valV_none_of fun m => by
   rw [List.map_cons, List.nodup_append] at h
   exact h.2.2 p.1 m p.1 List.mem_cons_self rfl
  rw [putK_new _ hn, mergeK_app more (kvs ++ [(p.1, p.2)])]
  ·simp
  ·simpa using h
theorem mergeK_nil {more : List (Key × V)} (h : (more.map (·.1)).Nodup) : mergeK [] more = more := by
 rw [mergeK_app more [] (by simpa using h)]
 rfl
theorem sortH_keys (hs : List (Str × Int)) : ((sortH hs).map (·.1)).Perm (hs.map fun h => Sum.inr h.1) := by
 unfold sortH
 rw [List.map_map]
 have p := (sortKs_perm (hs.map kH)).map fun k => (kvOf k).1
 rw [List.map_map] at p
 exact p
theorem sortH_nodup {hs : List (Str × Int)} (h : (hs.map (·.1)).Nodup) : ((sortH hs).map (·.1)).Nodup := by
 refine (sortH_keys hs).nodup_iff.mpr ?_
 have : (hs.map fun h => (Sum.inr h.1 : Key)) = (hs.map (·.1)).map Sum.inr := by rw [List.map_map]; rfl
 rw [this, List.nodup_iff_pairwise_ne, List.pairwise_map]
 exact h.imp fun n e => n (Sum.inr.inj e)
theorem roomU {k : Nat} {A : Around} (hr : Room k A) (n : Nat) (h : n + 1 <= 64 := by decide) : A.units + n + 1 < cLine := by
 have := hr.units
 omega
section
variable {P : Program} {w : World} {K : PySem.W.Frag} {mg : Str -> Option Value} {base : Heap}
theorem scHand : FnScope ["thing"] ["thing"] (defScope sHand) := ⟨rfl, rfl, rfl, by decide +kernel, rfl, by decide +kernel, by decide +kernel⟩
def spHand : Sp := fun vs H Q _ => ∃ (p : Addr) (a : Str) (n : Int), vs = [.ref p] /\ H p = some (.tup [.str a, .int n]) /\ a.length <= 100000 /\ ∀ H', Same H H' -> Q (.bl (nameB a && (decide (1 <= n) && decide (n <= 1000)))) H'
theorem ok_hand {f : Addr} {fd : FuncData} (F : Fun K "is_hand_with_strength" "is_hand_with_strength" sHand f fd) (B : Bi mg) (cN : Cal P w K mg base 1 "is_name" ["thing"] spName) (cW : Cal P w K mg base 2 "is_whole_within" ["thing", "least", "most"] spWhole) {tk : Tok} (mS : mg "MOST_STRENGTH" = some (.int 1000 tk)) :
  FnOk P w K mg base CX0 3 f fd ["thing"] spHand := by
 refine F.ok scHand (fun vs H Q E h => ?_) (fun cdv A outer s H vs Q E hr h => ?_)
 ·obtain ⟨p, a, b, rfl, _⟩ := h
  rfl
 ·obtain ⟨p, a, n, rfl, hp, la, k⟩ := h
  have hr1 : Room 1 _ := hr.mono (by decide)
  refine ⟨_, pss_cons (ps_if (pw_or (pt_not (pt_val (pe_callB call_isi (by rfl) B.isi PyProof.Rows.Boot.«isinstance» (pa_cons (pv 0) (pa_cons (pe_bltn (v := .ty "tuple") (by rfl) B.tuple PyProof.Rows.Boot.«tuple» rfl) pa_nil)))))
    (pw_or1 (pt_cmpR op_ne (pe_callB call_len_seq (by rfl) B.len PySem.boot_len (pa_cons (pv 0) pa_nil)) pe_int (nomark _)))).pt (pss_one (ps_ret pe_bl)) pss_nil)
   (pss_one (ps_ret (pe_and (pe_fn cN hr1 (pa_cons (pe_ix ix_tup (pv 0) pe_int (fun _ _ => rfl)) pa_nil)) (pe_one (pe_fn cW hr (pa_cons (pe_ix ix_tup (pv 0) pe_int (fun _ _ => rfl)) (pa_cons pe_int (pa_cons (pe_glob (v := .int 1000) (by rfl) mS ⟨tk, rfl⟩) pa_nil)))))))), ?_⟩
  refine ⟨_, rfl, _, _, _, _, rfl, .tup hp, rfl, _, rfl, iteF ?_⟩
  refine ⟨_, rfl, p, _, rfl, .inr (.of hp), rfl, _, rfl, ?_⟩
  refine iteNS (show V.int ((2 : Nat) : Int) = V.int 2 from rfl) ?_
  refine ⟨_, rfl, p, _, _, _, rfl, rfl, .of hp, rfl, a, rfl, la, fun H1 s1 => ⟨_, rfl, ?_⟩⟩
  have hp1 := s1 _ _ hp
  have kk := k H1 s1
  refine ite2 (fun c => ?_) (fun c => ?_)
  ·refine ⟨_, rfl, p, _, _, _, rfl, rfl, .of hp1, rfl, n, 1, 1000, rfl, ?_⟩
   rw [c] at kk
   exact kk
  ·rw [show nameB a = false by simpa using c] at kk
   exact kk
theorem scStr : FnScope ["hands", "found", "hand"] ["hands"] (defScope sStr) := ⟨rfl, rfl, rfl, by decide +kernel, rfl, by decide +kernel, by decide +kernel⟩
def spStr (K : PySem.W.Frag) : Sp := fun vs H Q _ => ∃ (l : Addr) (ys : List V) (hs : List (Str × Int)), vs = [.ref l] /\ H l = some (.lst ys) /\ TupsAt K H ys (hs.map kH) /\ (∀ h ∈ hs, goodH h) /\ (hs.map (·.1)).Nodup /\ 1 <= hs.length /\ hs.length <= 8 /\
 ∀ d H', Same H H' -> H d = none -> H' d = some (.dK (sortH hs)) -> Q (.ref d) H'
theorem ok_str {f : Addr} {fd : FuncData} (F : Fun K "checked_strengths" "checked_strengths" sStr f fd) (B : Bi mg) (cH : Cal P w K mg base 3 "is_hand_with_strength" ["thing"] spHand) {tk : Tok} (mH : mg "MOST_HANDS" = some (.int 8 tk)) : FnOk P w K mg base CX0 4 f fd ["hands"] (spStr K) := by
 refine F.ok scStr (fun vs H Q E h => ?_) (fun cdv A outer s H vs Q E hr h => ?_)
 ·obtain ⟨l, ys, hs, rfl, _⟩ := h
  rfl
 ·obtain ⟨l, ys, hs, rfl, hl, tu, good, nd, h1, h8, k⟩ := h
  have hu := hu_of hr
  have sz := sizeLine_eq
  have le := Paired.length tu
  rw [List.length_map] at le
  refine ⟨_, pss_cons (ps_if (pw_or (pt_not (pt_val (pe_callB call_isi (by rfl) B.isi PyProof.Rows.Boot.«isinstance» (pa_cons (pv 0) (pa_cons (pe_bltn (v := .ty "list") (by rfl) B.list PyProof.Rows.Boot.«list» rfl) pa_nil)))))
    (pw_or1 (pt_not (pt_chain op_le op_le pe_int (pe_callB call_len_seq (by rfl) B.len PySem.boot_len (pa_cons (pv 0) pa_nil)) (pe_glob (v := .int 8) (by rfl) mH ⟨tk, rfl⟩))))).pt pss_never pss_nil)
   (pss_cons (ps_set (i := 1) scStr.nd rfl (Or.inl rfl) pe_dnewK)
   (pss_cons (ps_for PassesOwn.never rfl (pi_list (pv 0)) (pg_name (i := 2) scStr.nd rfl (Or.inl rfl))
    (pss_cons (ps_if (pt_not (pt_val (pe_fn cH hr (pa_cons (pv 2) pa_nil)))) pss_never pss_nil)
    (pss_cons (ps_if (pt_cmp (pc_din hu (pe_ix ix_tup (pv 2) pe_int (fun _ _ => rfl)) (pv 1))) pss_never pss_nil)
    (pss_one (ps_dput hu (pv 1) (pe_ix ix_tup (pv 2) pe_int (fun _ _ => rfl)) (pe_ix ix_tup (pv 2) pe_int (fun _ _ => rfl)) rfl)))))
   (pss_one (ps_ret (pe_callTy (call_dictOf rfl) (by rfl) B.dict PyProof.Rows.Boot.«dict» (pa_cons (pe_callB (call_sortI rfl) (by rfl) B.sorted PyProof.Rows.Boot.«sorted» (pa_cons (pe_items (pv 1)) pa_nil)) pa_nil)))))), ?_⟩
  refine ⟨_, rfl, _, _, _, _, rfl, .lst hl, rfl, _, rfl, iteF ?_⟩
  refine ⟨_, rfl, l, _, rfl, .inl (.of hl), _, _, rfl, rfl, _, rfl, ?_⟩
  rw [decide_eq_true (show (1 : Int) <= (ys.length : Int) by omega)]
  refine iteT ⟨_, _, rfl, rfl, _, rfl, ?_⟩
  rw [decide_eq_true (show (ys.length : Int) <= 8 by omega)]
  refine iteF ?_
  intro d hd
  have s0 : Same H (upd H d (.dK [])) := Same.new hd
  refine ⟨_, rfl, l, rfl, ⟨_, .of (s0 _ _ hl)⟩, for_list (K := K) (a := l) (xs := ys) (fun i σ H2 => ∃ (v2 : Option V), σ = [some (.ref l), some (.ref d), v2] /\ Same H H2 /\ H2 d = some (.dK ((hs.take i).map fun h => (Sum.inr h.1, V.int h.2)))) ⟨none, rfl, s0, upd_same⟩ (fun i σ H2 _ ⟨_, _, s2, _⟩ => .of (s2 _ _ hl)) ?_ ?_⟩
  ·rintro i y σ H2 hy ⟨v2, rfl, s2, hd2⟩
   obtain ⟨t, ht, a, rfl, ha⟩ := paired_map tu hy
   obtain ⟨g1, g2, g3⟩ := good t (List.mem_of_getElem? ht)
   have ha2 := s2 _ _ (hpH ha)
   refine ⟨_, rfl, a, t.1, t.2, rfl, ha2, by have := nameB_len g1; omega, fun H3 s3 => ⟨_, rfl, ?_⟩⟩
   have ha3 := s3 _ _ ha2
   have hd3 := s3 _ _ hd2
   rw [g1, decide_eq_true g2, decide_eq_true g3]
   refine iteF ?_
   have nov : valV ((hs.take i).map fun h => ((Sum.inr h.1 : Key), V.int h.2)) (Sum.inr t.1) = none := valV_none_of (by
    rw [List.map_map]
    have q := nodup_take (g := fun h : Str × Int => h.1) nd ht
    intro m
    obtain ⟨h, hh, e⟩ := List.mem_map.mp m
    exact q (List.mem_map.mpr ⟨h, hh, Sum.inr.inj e⟩))
   refine ⟨_, rfl, a, _, _, _, rfl, rfl, .of ha3, rfl, _, rfl, d, _, rfl, .k (k := Sum.inr t.1) hd3, _, rfl, ?_⟩
   rw [nov]
   refine iteF ?_
   refine ⟨_, rfl, a, _, _, _, rfl, rfl, .of ha3, rfl, _, rfl, _, rfl, a, _, _, _, rfl, rfl, .of ha3, rfl, d, _, rfl, .k (k := Sum.inr t.1) hd3 (by rw [List.length_map, List.length_take]; omega), ?_⟩
   refine ⟨_, rfl, fun c o e => ?_, ?_⟩
   ·rw [upd_ne (ne_of_none e hd)]
    exact s3 _ _ (s2 _ _ e)
   ·rw [upd_same, putK_new _ nov, take_succ_map _ ht]
  ·rintro σ H2 ⟨v2, rfl, s2, hd2⟩
   rw [le, List.take_length] at hd2
   refine ⟨_, rfl, d, _, rfl, hd2, fun v hv => ?_⟩
   have s3 : Same H2 (upd H2 v (itemsV v d)) := Same.new hv
   refine ⟨v, d, _, hs.map fun h => (Sum.inr h.1, Sum.inl h.2), [true, false], rfl, upd_same, s3 _ _ hd2, by rw [List.map_map]; rfl, ⟨by decide, fun q hq => ?_⟩, by rw [List.length_map]; omega, fun l' H4 zs s4 hn tz => ?_⟩
   ·rw [List.map_map] at hq
    obtain ⟨h, _, rfl⟩ := List.mem_map.mp hq
    rfl
   ·have ez : ((hs.map fun h => ((Sum.inr h.1 : Key), (Sum.inl h.2 : Key))).map fun k => [k.1, k.2]) = hs.map kH := by rw [List.map_map]; rfl
    rw [ez] at tz
    have pz : PairsAt K (upd H4 l' (.lst zs)) zs (sortH hs) := by
     have shape : ∀ k ∈ sortKs (hs.map kH), ∃ a b, k = [a, b] := fun k hk => by
      obtain ⟨h, _, e⟩ := List.mem_map.mp ((sortKs_perm _).mem_iff.mp hk)
      exact ⟨_, _, e.symm⟩
     have gen : ∀ (ks : List (List Key)) (zs : List V), (∀ k ∈ ks, ∃ a b, k = [a, b]) -> TupsAt K (upd H4 l' (.lst zs)) zs ks -> PairsAt K (upd H4 l' (.lst zs)) zs (ks.map kvOf) := fun ks => by
      intro zs
      generalize upd H4 l' (.lst zs) = HH
      intro sh t
      induction t with
      | nil => exact .nil
      | cons h t ih =>
       obtain ⟨a, b, rfl⟩ := sh _ List.mem_cons_self
       exact .cons h (ih fun k hk => sh k (List.mem_cons_of_mem _ hk))
     exact gen _ _ shape (tz.same (Same.new hn))
    refine ⟨l', zs, _, rfl, upd_same, pz, ?_, fun d' hd' => ?_⟩
    ·have := (sortH_keys hs).length_eq
     simp only [List.length_map] at this
     omega
    ·rw [mergeK_nil (sortH_nodup nd)]
     have sAll : Same H (upd H4 l' (.lst zs)) := (s2.trans (s3.trans s4)).trans (Same.new hn)
     exact k d' _ (sAll.trans (Same.new hd')) (sAll.free hd') upd_same
theorem scTies : FnScope ["ties", "strengths", "found", "one", "other"] ["ties", "strengths"] (defScope sTies) := ⟨rfl, rfl, rfl, by decide +kernel, rfl, by decide +kernel, by decide +kernel⟩
def spTies (K : PySem.W.Frag) : Sp := fun vs H Q _ => ∃ (l d : Addr) (ys : List V) (ts : List (Str × Str)) (kvs : List (Key × V)), vs = [.ref l, .ref d] /\ H l = some (.lst ys) /\ TupsAt K H ys (ts.map kT) /\ (∀ t ∈ ts, goodT t) /\ (ts.map fun t => kT (ord2 t.1 t.2)).Nodup /\ ts.length < 64 /\
 H d = some (.dK kvs) /\ (∀ t ∈ ts, (valV kvs (Sum.inr t.1)).isSome = true /\ (valV kvs (Sum.inr t.2)).isSome = true) /\
 ∀ l' zs H', Same H H' -> H l' = none -> H' l' = some (.lst zs) -> TupsAt K H' zs (sortKs (ts.map fun t => kT (ord2 t.1 t.2))) -> Q (.ref l') H'
theorem ord2_or (a b : Str) : ord2 a b = (a, b) ∨ ord2 a b = (b, a) := by
 unfold ord2
 split
 ·exact .inl rfl
 ·exact .inr rfl
theorem ok_ties {f : Addr} {fd : FuncData} (F : Fun K "checked_ties" "checked_ties" sTies f fd) (B : Bi mg) (cS : Cal P w K mg base 3 "sorted_ties" ["ties"] (spSorted K)) : FnOk P w K mg base CX0 4 f fd ["ties", "strengths"] (spTies K) := by
 refine F.ok scTies (fun vs H Q E h => ?_) (fun cdv A outer s H vs Q E hr h => ?_)
 ·obtain ⟨l, d, ys, ts, kvs, rfl, _⟩ := h
  rfl
 ·obtain ⟨l, d, ys, ts, kvs, rfl, hl, tu, good, nd, h64, hd, there, k⟩ := h
  have hu := hu_of hr
  refine ⟨_, pss_cons (ps_set (i := 2) scTies.nd rfl (Or.inl rfl) (pe_fn cS hr (pa_cons (pv 0) pa_nil)))
   (pss_cons (ps_if (pt_cmp (pc_isN (pv 2))) pss_never pss_nil)
   (pss_cons (ps_for PassesOwn.never rfl (pi_list (pv 2)) (pg_tup rfl (pgs_cons (pg_name (i := 3) scTies.nd rfl (Or.inl rfl)) (pgs_cons (pg_name (i := 4) scTies.nd rfl (Or.inl rfl)) pgs_nil)))
    (pss_one (ps_if (pw_or (pt_cmp (pc_dnotin hu (pv 3) (pv 1))) (pw_or1 (pt_cmp (pc_dnotin hu (pv 4) (pv 1))))).pt pss_never pss_nil)))
   (pss_one (ps_ret (pv 2))))), ?_⟩
  refine ⟨_, rfl, l, ys, ts, rfl, hl, tu, good, nd, h64, fun l' zs H1 s1 hf hl1 tz => ?_⟩
  refine ⟨_, rfl, _, rfl, iteF ?_⟩
  refine ⟨_, rfl, l', rfl, ⟨_, .of hl1⟩, for_list (K := K) (a := l') (xs := zs) (fun i σ H2 => ∃ (v3 v4 : Option V), σ = [some (.ref l), some (.ref d), some (.ref l'), v3, v4] /\ H2 = H1) ⟨none, none, rfl, rfl⟩ (fun i σ H2 _ ⟨_, _, _, e⟩ => by subst e; exact .of hl1) ?_ ?_⟩
  ·rintro i y σ H2 hy ⟨v3, v4, rfl, rfl⟩
   have ez := Paired.length tz
   have hi : i < zs.length := (List.getElem?_eq_some_iff.mp hy).1
   obtain ⟨a, e, ha⟩ := paired_get tz i hi (by omega)
   rw [(List.getElem?_eq_some_iff.mp hy).2] at e
   subst e
   obtain ⟨t, ht, e⟩ := List.mem_map.mp ((sortKs_perm _).mem_iff.mp (List.getElem_mem (show i < (sortKs (ts.map fun t => kT (ord2 t.1 t.2))).length by omega)))
   rw [<- e] at ha
   obtain ⟨t1, t2⟩ := there t ht
   have both : (valV kvs (Sum.inr (ord2 t.1 t.2).1)).isSome = true /\ (valV kvs (Sum.inr (ord2 t.1 t.2).2)).isSome = true := by
    rcases ord2_or t.1 t.2 with q | q
    ·rw [q]; exact ⟨t1, t2⟩
    ·rw [q]; exact ⟨t2, t1⟩
   have hd1 := s1 _ _ hd
   refine ⟨a, _, rfl, .of (hpT ha), rfl, _, _, rfl, _, _, rfl, rfl, ?_⟩
   refine ⟨_, rfl, _, rfl, d, _, rfl, .k (k := Sum.inr (ord2 t.1 t.2).1) hd1, _, rfl, ?_⟩
   rw [both.1]
   refine iteF ?_
   refine ⟨_, rfl, _, rfl, d, _, rfl, .k (k := Sum.inr (ord2 t.1 t.2).2) hd1, _, rfl, ?_⟩
   rw [both.2]
   refine iteF ?_
   exact ⟨_, _, rfl, rfl⟩
  ·rintro σ H2 ⟨v3, v4, rfl, rfl⟩
   exact ⟨_, rfl, k l' zs _ s1 hf hl1 tz⟩
def near (ns : List Str) (ts : List (Str × Str)) (n : Str) : List Str := ns.filter fun o => decide (ord2 n o ∈ ts)
theorem scNear : FnScope ["names", "ties", "found", "hand"] ["names", "ties"] (defScope sNear) := ⟨rfl, rfl, rfl, by decide +kernel, rfl, by decide +kernel, by decide +kernel⟩
def nearKV (ns : List Str) (as : List Addr) : List (Key × V) := (ns.zip as).map fun p => (Sum.inr p.1, V.ref p.2)
def spNear (K : PySem.W.Frag) : Sp := fun vs H Q _ => ∃ (l1 l2 : Addr) (ns : List Str) (zs : List V) (ts : List (Str × Str)), vs = [.ref l1, .ref l2] /\ H l1 = some (.lst (ns.map V.str)) /\ H l2 = some (.lst zs) /\ TupsAt K H zs (ts.map kT) /\ ns.Nodup /\ ns.length <= 1000 /\ l1 ≠ l2 /\
 ∀ d as H', Same H H' -> H d = none -> as.length = ns.length -> H' d = some (.dK (nearKV ns as)) -> (∀ (i : Nat) n a, ns[i]? = some n -> as[i]? = some a -> H a = none /\ H' a = some (.lst ((near ns ts n).map V.str))) -> Q (.ref d) H'
theorem reps_of {K : PySem.W.Frag} {H : Hp} : ∀ {ts : List (Str × Str)} {zs : List V}, TupsAt K H zs (ts.map kT) -> Paired (r2 K rS rS H) zs ts
 | [], _, .nil => .nil
 | t :: ts, _, .cons ⟨a, e, h⟩ r => .cons ⟨a, _, _, e, .of (hpT h), rfl, rfl⟩ (reps_of r)
theorem map_get_str {ns : List Str} {i : Nat} {x : V} (h : (ns.map V.str)[i]? = some x) : ∃ n, ns[i]? = some n /\ x = .str n := by
 rw [List.getElem?_map] at h
 cases e : ns[i]? with
 | none => rw [e] at h; cases h
 | some n => rw [e] at h; exact ⟨n, rfl, (Option.some.inj h).symm⟩
theorem filter_snoc {α : Type} (p : α -> Bool) {l : List α} {i : Nat} {x : α} (h : l[i]? = some x) : (l.take (i + 1)).filter p = (l.take i).filter p ++ (if p x then [x] else []) := PySem.take_succ_filter p l i x h
theorem ok_near {f : Addr} {fd : FuncData} (F : Fun K "neighbours_of_all" "neighbours_of_all" sNear f fd) (cL : Cal P w K mg base 1 "lesser_first" ["one", "other"] spLesser) : FnOk P w K mg base CX0 2 f fd ["names", "ties"] (spNear K) := by
 refine F.ok scNear (fun vs H Q E h => ?_) (fun cdv A outer s H vs Q E hr h => ?_)
 ·obtain ⟨l1, l2, ns, zs, ts, rfl, _⟩ := h
  rfl
 ·obtain ⟨l1, l2, ns, zs, ts, rfl, hl1, hl2, tz, nd, h8, hne, k⟩ := h
  have hu := hu_of hr
  have hu3 := hr.units
  have sz := sizeLine_eq
  refine ⟨_, pss_cons (ps_set (i := 2) scNear.nd rfl (Or.inl rfl) pe_dnewK)
   (pss_cons (ps_for PassesOwn.never rfl (pi_list (pv 0)) (pg_name (i := 3) scNear.nd rfl (Or.inr rfl))
    (pss_one (ps_dput hu (pv 2) (pv 3) (pe_comp ["other", "hand", "ties"] 1 [3, 1] (pi_list (pv 0)) (fun fp s H => pg_name (i := 0) (show (["other", "hand", "ties"] : List Str).Nodup by decide +kernel) rfl (Or.inl rfl))
     (fun fp s H => pts_one (pt_cmpR (opK (K := K) (fun K => rInD K (r2 K rS rS) false) (op_inD (cmp2 cmpS cmpS) (roomU hr _))) (pe_fn cL hr (pa_cons (pv 1) (pa_cons (pv 0) pa_nil))) (pv 2) (by with_unfolding_all rfl))) (fun fp s H => pv 0)) rfl)))
   (pss_one (ps_ret (pv 2)))), ?_⟩
  intro d hd
  have s0 : Same H (upd H d (.dK [])) := Same.new hd
  refine ⟨_, rfl, l1, rfl, ⟨_, .of (s0 _ _ hl1)⟩, for_list (K := K) (a := l1) (xs := ns.map V.str) (fun i σ H2 => ∃ (v3 : Option V) (as : List Addr), σ = [some (.ref l1), some (.ref l2), some (.ref d), v3] /\ Same H H2 /\ as.length = i /\ H2 d = some (.dK (nearKV (ns.take i) as)) /\
   ∀ (j : Nat) n a, ns[j]? = some n -> as[j]? = some a -> H a = none /\ a ≠ d /\ H2 a = some (.lst ((near ns ts n).map V.str))) ⟨none, [], rfl, s0, rfl, upd_same, fun j n a _ e => by simp at e⟩ (fun i σ H2 _ ⟨_, _, _, s2, _⟩ => .of (s2 _ _ hl1)) ?_ ?_⟩
  ·rintro i y σ H2 hy ⟨v3, as, rfl, s2, la, hd2, lists⟩
   obtain ⟨n, hn, rfl⟩ := map_get_str hy
   have hi : i < ns.length := (List.getElem?_eq_some_iff.mp hn).1
   have lk : (nearKV (ns.take i) as).length = i := by
    unfold nearKV
    rw [List.length_map, List.length_zip, List.length_take]
    omega
   refine ⟨_, rfl, l1, rfl, ⟨_, .of (s2 _ _ hl1)⟩, fun D hD => ?_⟩
   refine comp_list (own := 1) (fv := [some (.str n), some (.ref l2)]) (xs := ns.map V.str) rfl gok1 (fun j out H' => Same H2 H' /\ H' D = some (.lst out) /\ out = ((ns.take j).filter fun o => decide (ord2 n o ∈ ts)).map V.str) ⟨Same.new hD, upd_same, rfl⟩ (fun j out H' _ ⟨sm, _, _⟩ => .of (sm _ _ (s2 _ _ hl1))) (fun out H' ⟨sm, hD', eo⟩ => ?_) (fun j x out H' hx ⟨sm, hD', eo⟩ => ?_)
   ·rw [List.length_map, List.take_length] at eo
    have nov : valV (nearKV (ns.take i) as) (Sum.inr n) = none := valV_none_of fun m => by
     unfold nearKV at m
     rw [List.map_map] at m
     obtain ⟨p, hp, e⟩ := List.mem_map.mp m
     have e : p.1 = n := Sum.inr.inj e
     have q := nodup_take (g := id) (by rw [List.map_id]; exact nd) hn
     rw [List.map_id] at q
     exact q (e ▸ (List.of_mem_zip hp).1)
    have neD : D ≠ d := fun z => by subst z; rw [hD] at hd2; cases hd2
    refine ⟨_, rfl, _, rfl, d, _, rfl, .k (k := Sum.inr n) (sm _ _ hd2) (by omega), ?_⟩
    refine ⟨_, as ++ [D], rfl, fun c o e => ?_, by rw [List.length_append, la]; rfl, ?_, fun j n' a hn' ha => ?_⟩
    ·rw [upd_ne (ne_of_none e hd)]
     exact sm _ _ (s2 _ _ e)
    ·rw [upd_same, putK_new _ nov]
     congr 2
     unfold nearKV
     rw [List.take_add_one, hn, List.zip_append (by rw [List.length_take]; omega), List.map_append]
     rfl
    ·by_cases hj : j < as.length
     ·rw [List.getElem?_append_left hj] at ha
      obtain ⟨q1, q2, q3⟩ := lists j n' a hn' ha
      refine ⟨q1, q2, ?_⟩
      rw [upd_ne q2]
      exact sm _ _ q3
     ·have hj2 : j = i := by
       have := (List.getElem?_eq_some_iff.mp ha).1
       rw [List.length_append] at this
       simp only [List.length_singleton] at this
       omega
      subst hj2
      rw [List.getElem?_append_right (by omega), la, Nat.sub_self] at ha
      have ha : D = a := by simpa using ha
      subst ha
      rw [hn] at hn'
      cases hn'
      refine ⟨s2.free hD, neD, ?_⟩
      rw [upd_ne neD, hD', eo]
      rfl
   ·obtain ⟨o, ho, rfl⟩ := map_get_str hx
    refine ⟨_, rfl, rfl, fun Nx hN => ?_⟩
    refine ⟨_, rfl, _, rfl, n, o, rfl, fun t ht => ?_⟩
    have s3 : Same H' (upd H' t (.tup [.str (ord2 n o).1, .str (ord2 n o).2])) := Same.new ht
    have tz' := ((tz.same s2).same sm).same s3
    have lo : out.length < sizeLine := by
     rw [eo, List.length_map]
     have := List.length_filter_le (fun o => decide (ord2 n o ∈ ts)) (ns.take j)
     rw [List.length_take] at this
     omega
    refine ⟨_, rfl, ord2 n o, ts, ⟨t, _, _, rfl, .of upd_same, rfl, rfl⟩, ⟨l2, zs, rfl, .of (s3 _ _ (sm _ _ (s2 _ _ hl2))), reps_of tz'⟩, _, rfl, ?_⟩
    refine ite2 (fun c => ?_) (fun c => ?_)
    ·refine ⟨_, rfl, out, s3 _ _ hD', lo, hN _ _ ⟨same_but (sm.trans s3) hD, upd_same, ?_⟩⟩
     have c : decide (ord2 n o ∈ ts) = true := by simpa using c
     rw [filter_snoc _ ho, if_pos c, List.map_append, eo]
     rfl
    ·refine hN _ _ ⟨sm.trans s3, s3 _ _ hD', ?_⟩
     have c : ¬ decide (ord2 n o ∈ ts) = true := by simpa using c
     rw [filter_snoc _ ho, if_neg c, List.append_nil, eo]
  ·rintro σ H2 ⟨v3, as, rfl, s2, la, hd2, lists⟩
   rw [List.length_map] at la hd2
   rw [List.take_length] at hd2
   exact ⟨_, rfl, k d as _ s2 hd la hd2 fun j n a h1 h2 => ⟨(lists j n a h1 h2).1, (lists j n a h1 h2).2.2⟩⟩
end
end Ev
set_option Elab.async false
set_option linter.all false
set_option maxRecDepth 100000
namespace Ev
open PySem L2
abbrev sInit : Stmt := inClass sWeb 0
abbrev sHas : Stmt := inClass sWeb 1
abbrev sHands : Stmt := inClass sWeb 2
abbrev sStrength : Stmt := inClass sWeb 3
abbrev sNeigh : Stmt := inClass sWeb 4
abbrev sTied : Stmt := inClass sWeb 5
abbrev sTiesM : Stmt := inClass sWeb 6
def fstK : List Key -> Str
 | .inr a :: _ => a
 | _ => ⟨#[]⟩
def twoK : List Key -> Str × Str
 | [.inr a, .inr b] => (a, b)
 | _ => (⟨#[]⟩, ⟨#[]⟩)
def nmsOf (hs : List (Str × Int)) : List Str := (sortKs (hs.map kH)).map fstK
def tsOf (ts : List (Str × Str)) : List (Str × Str) := (sortKs (ts.map fun t => kT (ord2 t.1 t.2))).map twoK
theorem tsOf_keys (ts : List (Str × Str)) : (tsOf ts).map kT = sortKs (ts.map fun t => kT (ord2 t.1 t.2)) := by
 unfold tsOf
 rw [List.map_map]
 have all : ∀ k ∈ sortKs (ts.map fun t => kT (ord2 t.1 t.2)), ∃ t : Str × Str, k = kT t := fun k hk => by
  obtain ⟨t, _, e⟩ := List.mem_map.mp ((sortKs_perm _).mem_iff.mp hk)
  exact ⟨_, e.symm⟩
 generalize sortKs (ts.map fun t => kT (ord2 t.1 t.2)) = l at all
 induction l with
 | nil => rfl
 | cons k l ih =>
  obtain ⟨t, rfl⟩ := all k List.mem_cons_self
  rw [List.map_cons, ih fun k hk => all k (List.mem_cons_of_mem _ hk)]
  rfl
theorem sortH_form (hs : List (Str × Int)) : ∀ k ∈ sortKs (hs.map kH), ∃ h : Str × Int, h ∈ hs /\ k = kH h := fun k hk => by
 obtain ⟨t, ht, e⟩ := List.mem_map.mp ((sortKs_perm _).mem_iff.mp hk)
 exact ⟨t, ht, e.symm⟩
theorem nms_vals (hs : List (Str × Int)) : ((sortH hs).map fun kv => kV kv.1) = (nmsOf hs).map V.str := by
 unfold sortH nmsOf
 rw [List.map_map, List.map_map]
 refine List.map_congr_left fun k hk => ?_
 obtain ⟨h, _, rfl⟩ := sortH_form hs k hk
 rfl
theorem nms_keys (hs : List (Str × Int)) : (sortH hs).map (·.1) = (nmsOf hs).map Sum.inr := by
 unfold sortH nmsOf
 rw [List.map_map, List.map_map]
 refine List.map_congr_left fun k hk => ?_
 obtain ⟨h, _, rfl⟩ := sortH_form hs k hk
 rfl
theorem nms_perm (hs : List (Str × Int)) : (nmsOf hs).Perm (hs.map (·.1)) := by
 unfold nmsOf
 have p := (sortKs_perm (hs.map kH)).map fstK
 rw [List.map_map] at p
 exact p
theorem valV_some {κ : Type} [DecidableEq κ] {kvs : List (κ × V)} {k : κ} (h : k ∈ kvs.map (·.1)) : (valV kvs k).isSome = true := by
 rw [<- valV_any]
 obtain ⟨p, hp, e⟩ := List.mem_map.mp h
 exact List.any_eq_true.mpr ⟨p, hp, decide_eq_true e⟩
theorem nms_mem {hs : List (Str × Int)} {n : Str} : (valV (sortH hs) (Sum.inr n)).isSome = decide (n ∈ hs.map (·.1)) := by
 by_cases h : n ∈ hs.map (·.1)
 ·rw [decide_eq_true h]
  refine valV_some ?_
  rw [nms_keys]
  exact List.mem_map.mpr ⟨n, (nms_perm hs).mem_iff.mpr h, rfl⟩
 ·rw [decide_eq_false h, valV_none_of]
  ·rfl
  ·rw [nms_keys]
   intro m
   obtain ⟨x, hx, e⟩ := List.mem_map.mp m
   cases e
   exact h ((nms_perm hs).mem_iff.mp hx)
theorem n12 : ¬ (("strength_by_hand" : Str) = "sorted_pairs") := by decide +kernel
theorem n13 : ¬ (("strength_by_hand" : Str) = "neighbours_by_hand") := by decide +kernel
def flds (d1 l2 d3 : Addr) : List (Str × V) := putF "neighbours_by_hand" (.ref d3) (putF "sorted_pairs" (.ref l2) (putF "strength_by_hand" (.ref d1) []))
theorem flds_s (d1 l2 d3 : Addr) : (flds d1 l2 d3).lookup ("strength_by_hand" : Str) = some (.ref d1) := by
 unfold flds
 rw [lookup_putF, if_neg n13, lookup_putF, if_neg n12, lookup_putF, if_pos rfl]
theorem flds_n (d1 l2 d3 : Addr) : (flds d1 l2 d3).lookup ("neighbours_by_hand" : Str) = some (.ref d3) := by
 unfold flds
 rw [lookup_putF, if_pos rfl]
theorem flds_no (d1 l2 d3 : Addr) {m : Str} (h1 : ¬ m = "strength_by_hand") (h2 : ¬ m = "sorted_pairs") (h3 : ¬ m = "neighbours_by_hand") : (flds d1 l2 d3).lookup m = none := by
 unfold flds
 rw [lookup_putF, if_neg h3, lookup_putF, if_neg h2, lookup_putF, if_neg h1]
 all_goals rfl
structure WebAt (K : PySem.W.Frag) (C : Addr) (H : Hp) (p : Addr) (hs : List (Str × Int)) (ts : List (Str × Str)) (fp : List Addr) : Prop where
 ex : ∃ (dx d1 l2 d3 : Addr) (zs : List V) (as : List Addr), fp = p :: d1 :: l2 :: d3 :: as /\ H p = some (.ins C dx (flds d1 l2 d3)) /\ H d1 = some (.dK (sortH hs)) /\ H l2 = some (.lst zs) /\ TupsAt K H zs ((tsOf ts).map kT) /\ H d3 = some (.dK (nearKV (nmsOf hs) as)) /\ as.length = (nmsOf hs).length /\
  ∀ (i : Nat) n a, (nmsOf hs)[i]? = some n -> as[i]? = some a -> H a = some (.lst ((near (nmsOf hs) (tsOf ts) n).map V.str))
theorem WebAt.keep {K : PySem.W.Frag} {C : Addr} {H H' : Hp} {p : Addr} {hs : List (Str × Int)} {ts : List (Str × Str)} {fp : List Addr} (W : WebAt K C H p hs ts fp) (k : ∀ b ∈ fp, ∀ o, H b = some o -> H' b = some o) (kt : ∀ b xs, H b = some (.tup xs) -> H' b = some (.tup xs)) : WebAt K C H' p hs ts fp := by
 obtain ⟨dx, d1, l2, d3, zs, as, rfl, h1, h2, h3, h4, h5, h6, h7⟩ := W.ex
 refine ⟨dx, d1, l2, d3, zs, as, rfl, k _ (by simp) _ h1, k _ (by simp) _ h2, k _ (by simp) _ h3, Paired.mapP h4 fun y q ⟨a, e, z⟩ => ⟨a, e, kt _ _ z⟩, k _ (by simp) _ h5, h6, fun i n a e1 e2 => k _ ?_ _ (h7 i n a e1 e2)⟩
 have := List.mem_of_getElem? e2
 simp [this]
theorem WebAt.same {K : PySem.W.Frag} {C : Addr} {H H' : Hp} {p : Addr} {hs : List (Str × Int)} {ts : List (Str × Str)} {fp : List Addr} (W : WebAt K C H p hs ts fp) (s : Same H H') : WebAt K C H' p hs ts fp := W.keep (fun b _ o e => s b o e) fun b xs e => s b _ e
structure Good (hs : List (Str × Int)) (ts : List (Str × Str)) : Prop where
 hok : ∀ h ∈ hs, goodH h
 hnd : (hs.map (·.1)).Nodup
 h1 : 1 <= hs.length
 h8 : hs.length <= 8
 tok : ∀ t ∈ ts, goodT t
 tnd : (ts.map fun t => kT (ord2 t.1 t.2)).Nodup
 t64 : ts.length < 64
 tin : ∀ t ∈ ts, t.1 ∈ hs.map (·.1) /\ t.2 ∈ hs.map (·.1)
theorem Good.nnd {hs : List (Str × Int)} {ts : List (Str × Str)} (G : Good hs ts) : (nmsOf hs).Nodup := (nms_perm hs).nodup_iff.mpr G.hnd
theorem Good.nlen {hs : List (Str × Int)} {ts : List (Str × Str)} (G : Good hs ts) : (nmsOf hs).length = hs.length := by
 rw [(nms_perm hs).length_eq, List.length_map]
structure Txt (K : PySem.W.Frag) (mg : Str -> Option Value) (C : Addr) : Prop where
 cl : Cls K C
 nS : NoAttr K C "strength_by_hand"
 nP : NoAttr K C "sorted_pairs"
 nN : NoAttr K C "neighbours_by_hand"
section
variable {P : Program} {w : World} {K : PySem.W.Frag} {mg : Str -> Option Value} {base : Heap}
theorem scInit : FnScope ["self", "hands", "ties", "strengths", "checked"] ["self", "hands", "ties"] (defScope sInit) := ⟨rfl, rfl, rfl, by decide +kernel, rfl, by decide +kernel, by decide +kernel⟩
def spInit (K : PySem.W.Frag) (C : Addr) : Sp := fun vs H Q _ => ∃ (p dx lh lt : Addr) (ys zs : List V) (hs : List (Str × Int)) (ts : List (Str × Str)), vs = [.ref p, .ref lh, .ref lt] /\ H p = some (.ins C dx []) /\ H lh = some (.lst ys) /\ TupsAt K H ys (hs.map kH) /\ H lt = some (.lst zs) /\ TupsAt K H zs (ts.map kT) /\ Good hs ts /\
 ∀ fp H', (∀ b o, H b = some o -> b ≠ p -> H' b = some o) -> WebAt K C H' p hs ts fp -> (∀ b ∈ fp, b = p ∨ H b = none) -> Q .non H'
theorem ok_init {f C : Addr} {fd : FuncData} (F : Fun K "__init__" "Web.__init__" sInit f fd) (T : Txt K mg C) (B : Bi mg) (cS : Cal P w K mg base 4 "checked_strengths" ["hands"] (spStr K)) (cT : Cal P w K mg base 4 "checked_ties" ["ties", "strengths"] (spTies K)) (cN : Cal P w K mg base 2 "neighbours_of_all" ["names", "ties"] (spNear K)) :
  FnOk P w K mg base CX0 5 f fd ["self", "hands", "ties"] (spInit K C) := by
 refine F.ok scInit (fun vs H Q E h => ?_) (fun cdv A outer s H vs Q E hr h => ?_)
 ·obtain ⟨p, dx, lh, lt, ys, zs, hs, ts, rfl, _⟩ := h
  rfl
 ·obtain ⟨p, dx, lh, lt, ys, zs, hs, ts, rfl, hp, hlh, th, hlt, tt, G, k⟩ := h
  have hr3 : Room 3 _ := hr.mono (by decide)
  have hr2 : Room 2 _ := hr.mono (by decide)
  refine ⟨_, pss_cons (ps_set (i := 3) scInit.nd rfl (Or.inl rfl) (pe_fn cS hr (pa_cons (pv 1) pa_nil)))
   (pss_cons (ps_set (i := 4) scInit.nd rfl (Or.inl rfl) (pe_fn cT hr (pa_cons (pv 2) (pa_cons (pv 3) pa_nil))))
   (pss_cons (ps_fld (pv 0) (pv 3) rfl) (pss_cons (ps_fld (pv 0) (pv 4) rfl)
   (pss_one (ps_fld (pv 0) (pe_fn cN hr2 (pa_cons (pe_callTy (call_listD rfl) (by rfl) B.list PyProof.Rows.Boot.«list» (pa_cons (pv 3) pa_nil)) (pa_cons (pv 4) pa_nil))) rfl))))), ?_⟩
  refine ⟨_, rfl, lh, ys, hs, rfl, hlh, th, G.hok, G.hnd, G.h1, G.h8, fun d1 H1 s1 f1 hd1 => ?_⟩
  refine ⟨_, rfl, _, rfl, lt, d1, zs, ts, _, rfl, s1 _ _ hlt, tt.same s1, G.tok, G.tnd, G.t64, hd1, fun t ht => ?_, fun l2 zs2 H2 s2 f2 hl2 tz => ?_⟩
  ·rw [nms_mem, nms_mem]
   exact ⟨decide_eq_true (G.tin t ht).1, decide_eq_true (G.tin t ht).2⟩
  have hd12 := s2 _ _ hd1
  have hp2 := s2 _ _ (s1 _ _ hp)
  have p1 : p ≠ d1 := ne_of hp2 hd12 (by intro z; cases z)
  have p2 : p ≠ l2 := ne_of hp2 hl2 (by intro z; cases z)
  refine ⟨_, rfl, _, rfl, p, C, dx, [], rfl, hp2, T.cl, T.nS, by show 0 < 1000; decide, ?_⟩
  refine ⟨_, rfl, _, rfl, p, C, dx, _, rfl, upd_same, T.cl, T.nP, by show 1 < 1000; decide, ?_⟩
  let H3 : Hp := upd (upd H2 p (.ins C dx (putF "strength_by_hand" (.ref d1) []))) p (.ins C dx (putF "sorted_pairs" (.ref l2) (putF "strength_by_hand" (.ref d1) [])))
  have h3 : ∀ {b o}, H2 b = some o -> b ≠ p -> H3 b = some o := fun e ne => by
   show upd (upd H2 p _) p _ _ = _
   rw [upd_ne ne, upd_ne ne]
   exact e
  have h3p : H3 p = some (.ins C dx (putF "sorted_pairs" (.ref l2) (putF "strength_by_hand" (.ref d1) []))) := upd_same
  have none3 : ∀ {b}, H3 b = none -> H2 b = none := fun {b} e => by
   by_cases z : b = p
   ·subst z; rw [h3p] at e; cases e
   ·have e : upd (upd H2 p _) p _ b = none := e
    rw [upd_ne z, upd_ne z] at e
    exact e
  have tz3 : TupsAt K H3 zs2 ((tsOf ts).map kT) := by
   rw [tsOf_keys]
   exact Paired.mapP tz fun y q ⟨a, e, z⟩ => ⟨a, e, h3 z (ne_of z hp2 (by intro z; cases z))⟩
  refine ⟨_, rfl, d1, _, rfl, .inl (h3 hd12 p1.symm), fun l1 hl1 => ?_⟩
  rw [nms_vals]
  have s4 : Same H3 (upd H3 l1 (.lst ((nmsOf hs).map V.str))) := Same.new hl1
  have ne12 : l1 ≠ l2 := (ne_of_none (H := H3) (h3 hl2 p2.symm) hl1).symm
  refine ⟨_, rfl, l1, l2, nmsOf hs, zs2, tsOf ts, rfl, upd_same, s4 _ _ (h3 hl2 p2.symm), tz3.same s4, G.nnd, by rw [G.nlen]; have := G.h8; omega, ne12, fun d3 as H5 s5 f5 la hd3 lists => ?_⟩
  have hp5 := s5 _ _ (s4 _ _ h3p)
  refine ⟨_, rfl, p, C, dx, _, rfl, hp5, T.cl, T.nN, by show 2 < 1000; decide, ?_⟩
  have up : ∀ {b o}, H2 b = some o -> b ≠ p -> upd H5 p (.ins C dx (flds d1 l2 d3)) b = some o := fun e ne => by
   rw [upd_ne ne]
   exact s5 _ _ (s4 _ _ (h3 e ne))
  have fr5 : ∀ {b}, upd H3 l1 (.lst ((nmsOf hs).map V.str)) b = none -> H b = none := fun e => s1.free (s2.free (none3 (s4.free e)))
  have hd3p : d3 ≠ p := (ne_of_none (s4 _ _ h3p) f5).symm
  refine k (p :: d1 :: l2 :: d3 :: as) _ (fun b o e ne => up (s2 _ _ (s1 _ _ e)) ne) ⟨dx, d1, l2, d3, zs2, as, rfl, upd_same, up hd12 p1.symm, up hl2 p2.symm, ?_, ?_, la, fun i n a e1 e2 => ?_⟩ fun b hb => ?_
  ·exact Paired.mapP (tz3.same (s4.trans s5)) fun y q ⟨a, e, z⟩ => ⟨a, e, by rw [upd_ne (ne_of z hp5 (by intro z; cases z))]; exact z⟩
  ·rw [upd_ne hd3p]
   exact hd3
  ·obtain ⟨q1, q2⟩ := lists i n a e1 e2
   rw [upd_ne (ne_of q2 hp5 (by intro z; cases z))]
   exact q2
  ·simp only [List.mem_cons] at hb
   rcases hb with rfl | rfl | rfl | rfl | hb
   ·exact .inl rfl
   ·exact .inr f1
   ·exact .inr (s1.free f2)
   ·exact .inr (fr5 f5)
   ·obtain ⟨i, hi, e⟩ := List.getElem_of_mem hb
    have e1 : as[i]? = some b := by rw [List.getElem?_eq_getElem hi, e]
    have hn : i < (nmsOf hs).length := by omega
    exact .inr (fr5 (lists i _ b (List.getElem?_eq_getElem hn) e1).1)
end
end Ev
set_option Elab.async false
set_option linter.all false
set_option maxRecDepth 100000
namespace Ev
open PySem L2
structure CalM (P : Program) (w : World) (K : PySem.W.Frag) (mg : Str -> Option Value) (base : Heap) (C : Addr) (k : Nat) (m : Str) (ps : List Str) (sp : Sp) : Prop where
 ex : ∃ f fd, FnOk P w K mg base CX0 k f fd ps sp /\ Meth K C m f /\ Binds K fd ps []
theorem pe_mt {X : Cx} {C : Addr} {k : Nat} {m : Str} {ps : List Str} {sp : Sp} {pos apos : Pos} {o e : Expr} {es : List Expr} {ta : TE} {t : TA} {pl : Sem Bool} (c : CalM X.prog X.w X.K X.mg X.base C k m ps sp) (cl : Cls X.K C) (hr : Room k X.A) (he : PE X o ta) (ha : PA X (e :: es) t)
  (hst : starEach (e :: es) X.env = (false, eval e X.env) :: starEach es X.env := by rfl) (hpl : (backTo pos (starEach es X.env)).any (·.1) = false := by rfl)
  (ht : eval (.Call (.Attribute o m apos) (e :: es) [] pos) X.env = (do
   let ov <- eval o X.env
   standAt apos.atName
   let (f, first) <- holding [ov] (getMethod ov m pl)
   callWith pos f first (backTo pos (starEach (e :: es) X.env)) (backToKw pos (keywordEach [] X.env))) := by rfl) :
  PE X (.Call (.Attribute o m apos) (e :: es) [] pos) (tMeth C m sp [] E0 ta t) := by
 obtain ⟨f, fd, F, hm, b⟩ := c.ex
 exact pe_meth he cl hm F hr b .nil pass0 ha hst hpl ht
theorem pe_mt0 {X : Cx} {C : Addr} {k : Nat} {m : Str} {ps : List Str} {sp : Sp} {pos apos : Pos} {o : Expr} {ta : TE} {pl : Sem Bool} (c : CalM X.prog X.w X.K X.mg X.base C k m ps sp) (cl : Cls X.K C) (hr : Room k X.A) (he : PE X o ta)
  (ht : eval (.Call (.Attribute o m apos) [] [] pos) X.env = (do
   let ov <- eval o X.env
   standAt apos.atName
   let (f, first) <- holding [ov] (getMethod ov m pl)
   callWith pos f first (backTo pos (starEach [] X.env)) (backToKw pos (keywordEach [] X.env))) := by rfl) :
  PE X (.Call (.Attribute o m apos) [] [] pos) (tMeth C m sp [] E0 ta tNil) := by
 obtain ⟨f, fd, F, hm, b⟩ := c.ex
 exact pe_meth0 he cl hm F hr b .nil pass0 ht
theorem valV_near {ns : List Str} {as : List Addr} (nd : ns.Nodup) (la : as.length = ns.length) {i : Nat} {n : Str} (hn : ns[i]? = some n) : ∃ a, as[i]? = some a /\ valV (nearKV ns as) (Sum.inr n) = some (.ref a) := by
 induction ns generalizing as i with
 | nil => simp at hn
 | cons x ns ih =>
  cases as with
  | nil => cases la
  | cons b as =>
   obtain ⟨n1, n2⟩ := List.nodup_cons.mp nd
   cases i with
   | zero =>
    have e : x = n := by simpa using hn
    subst e
    exact ⟨b, rfl, valV_pos rfl⟩
   | succ i =>
    have hn : ns[i]? = some n := by simpa using hn
    obtain ⟨a, h1, h2⟩ := ih n2 (by simpa using la) hn
    refine ⟨a, by simpa using h1, ?_⟩
    show valV ((Sum.inr x, V.ref b) :: nearKV ns as) (Sum.inr n) = _
    rw [valV_neg fun e => n1 (by rw [show x = n from Sum.inr.inj e]; exact List.mem_of_getElem? hn)]
    exact h2
section
variable {P : Program} {w : World} {K : PySem.W.Frag} {mg : Str -> Option Value} {base : Heap}
theorem scHas : FnScope ["self", "thing"] ["self", "thing"] (defScope sHas) := ⟨rfl, rfl, rfl, by decide +kernel, rfl, by decide +kernel, by decide +kernel⟩
def spHas (K : PySem.W.Frag) (C : Addr) : Sp := fun vs H Q _ => ∃ (p : Addr) (x : Str) (hs : List (Str × Int)) (ts : List (Str × Str)) (fp : List Addr), vs = [.ref p, .str x] /\ WebAt K C H p hs ts fp /\ Q (.bl (decide (x ∈ hs.map (·.1)))) H
theorem ok_has {f C : Addr} {fd : FuncData} (F : Fun K "has_hand" "Web.has_hand" sHas f fd) (T : Txt K mg C) (B : Bi mg) : FnOk P w K mg base CX0 1 f fd ["self", "thing"] (spHas K C) := by
 refine F.ok scHas (fun vs H Q E h => ?_) (fun cdv A outer s H vs Q E hr h => ?_)
 ·obtain ⟨p, x, hs, ts, fp, rfl, _⟩ := h
  rfl
 ·obtain ⟨p, x, hs, ts, fp, rfl, W, k⟩ := h
  have hu := hu_of hr
  obtain ⟨dx, d1, l2, d3, zs, as, rfl, h1, h2, h3, h4, h5, h6, h7⟩ := W.ex
  refine ⟨_, pss_one (ps_ret (pe_and (pe_callB call_isi (by rfl) B.isi PyProof.Rows.Boot.«isinstance» (pa_cons (pv 1) (pa_cons (pe_bltn (v := .ty "str") (by rfl) B.str PyProof.Rows.Boot.«str» rfl) pa_nil))) (pe_one (pe_cmp (pc_din hu (pv 1) (pe_fld (pv 0) rfl)))))), ?_⟩
  refine ⟨_, rfl, _, _, _, _, rfl, .str x, rfl, _, rfl, iteT ?_⟩
  refine ⟨_, rfl, _, rfl, p, C, dx, _, _, rfl, h1, T.cl, T.nS, flds_s _ _ _, d1, _, rfl, .k (k := Sum.inr x) h2, ?_⟩
  rw [nms_mem]
  exact k
def spHands (K : PySem.W.Frag) (C : Addr) : Sp := fun vs H Q _ => ∃ (p : Addr) (hs : List (Str × Int)) (ts : List (Str × Str)) (fp : List Addr), vs = [.ref p] /\ WebAt K C H p hs ts fp /\ ∀ l, H l = none -> Q (.ref l) (upd H l (.lst ((nmsOf hs).map V.str)))
def spStrength (K : PySem.W.Frag) (C : Addr) : Sp := fun vs H Q _ => ∃ (p : Addr) (x : Str) (n : Int) (hs : List (Str × Int)) (ts : List (Str × Str)) (fp : List Addr), vs = [.ref p, .str x] /\ WebAt K C H p hs ts fp /\ (hs.map (·.1)).Nodup /\ (x, n) ∈ hs /\ Q (.int n) H
def spNeigh (K : PySem.W.Frag) (C : Addr) : Sp := fun vs H Q _ => ∃ (p : Addr) (x : Str) (hs : List (Str × Int)) (ts : List (Str × Str)) (fp : List Addr), vs = [.ref p, .str x] /\ WebAt K C H p hs ts fp /\ (nmsOf hs).Nodup /\ x ∈ hs.map (·.1) /\ ∀ l, H l = none -> Q (.ref l) (upd H l (.lst ((near (nmsOf hs) (tsOf ts) x).map V.str)))
theorem row_at {H : Hp} {hs : List (Str × Int)} {ts : List (Str × Str)} {as : List Addr} {x : Str} (nd : (nmsOf hs).Nodup) (hx : x ∈ hs.map (·.1)) (la : as.length = (nmsOf hs).length)
  (h7 : ∀ (i : Nat) n a, (nmsOf hs)[i]? = some n -> as[i]? = some a -> H a = some (.lst ((near (nmsOf hs) (tsOf ts) n).map V.str))) : ∃ a, valV (nearKV (nmsOf hs) as) (Sum.inr x) = some (.ref a) /\ H a = some (.lst ((near (nmsOf hs) (tsOf ts) x).map V.str)) := by
 obtain ⟨i, hi, e⟩ := List.getElem_of_mem ((nms_perm hs).mem_iff.mpr hx)
 have hn : (nmsOf hs)[i]? = some x := by rw [List.getElem?_eq_getElem hi, e]
 obtain ⟨a, h1, h2⟩ := valV_near nd la hn
 exact ⟨a, h2, h7 i x a hn h1⟩
theorem scTied : FnScope ["self", "one", "other"] ["self", "one", "other"] (defScope sTied) := ⟨rfl, rfl, rfl, by decide +kernel, rfl, by decide +kernel, by decide +kernel⟩
def spTied (K : PySem.W.Frag) (C : Addr) : Sp := fun vs H Q _ => ∃ (p : Addr) (x y : Str) (hs : List (Str × Int)) (ts : List (Str × Str)) (fp : List Addr), vs = [.ref p, .str x, .str y] /\ WebAt K C H p hs ts fp /\ (nmsOf hs).Nodup /\ x ∈ hs.map (·.1) /\ y ∈ hs.map (·.1) /\ Q (.bl (decide (y ∈ near (nmsOf hs) (tsOf ts) x))) H
theorem strs_rep {H : Hp} : ∀ ns : List Str, Paired (rS H) (ns.map V.str) ns
 | [] => .nil
 | _ :: ns => .cons rfl (strs_rep ns)
def spTiesM (K : PySem.W.Frag) (C : Addr) : Sp := fun vs H Q _ => ∃ (p : Addr) (hs : List (Str × Int)) (ts : List (Str × Str)) (fp : List Addr), vs = [.ref p] /\ WebAt K C H p hs ts fp /\ ts.length < 64 /\ ∀ l zs H', Same H H' -> H l = none -> H' l = some (.lst zs) -> TupsAt K H' zs ((tsOf ts).map kT) -> Q (.ref l) H'
end
end Ev
set_option Elab.async false
set_option linter.all false
set_option maxRecDepth 100000
namespace L2
open PySem PySem.Spec PyProof.Rows PySem.W
def Ite (K : PySem.W.Frag) (a : Addr) : It :=
 ⟨fun i H => ∃ xs x, SqL K H a xs /\ xs[i]? = some x, fun i H y H' => ∃ t x, y = .ref t /\ H t = none /\ (∀ xs, SqL K H a xs -> xs[i]? = some x) /\ H' = upd H t (.tup [.int i, x]), fun i H => ∃ xs, SqL K H a xs /\ xs.length = i⟩
theorem Inv.turnedN {X : Cx} {pins : List (Addr × Obj)} {σ : St} {H : Hp} {s : Shared} {h' : Heap} {t' : Nat} {fp : List Addr} {T : Addr} {xs : List V} {its : List Value} (I : Inv X pins σ H s) (k : ∀ b o, b ∉ fp -> s.heap.get? b = some o -> h'.get? b = some o) (hf : ∀ b ∈ fp, FpOk X pins H b)
  (hT : s.heap.objs.size <= T) (hz : xs.length <= sizeLine) (r : Vals xs its) (ht : IsTup h' T its.toArray /\ ∃ o, h'.get? T = some o /\ o.dict = none) : Inv X pins σ (upd H T (.tup xs)) { s with heap := h', toks := t' } := by
 have fT : H T = none := I.hok.fresh hT
 have nf : ∀ b u, H b = some u -> b ∉ fp := fun b u e hb => by rw [(hf b hb).1] at e; cases e
 have old : ∀ {b u}, H b = some u -> upd H T (.tup xs) b = some u := fun e => by rw [upd_ne (ne_of_none e fT)]; exact e
 refine I.step (g' := s.gens) (d' := s.drawn) (ch := fp) (fun b hb => ?_) (fun b o _ _ hc e _ => k b o hc e) (fun b o _ _ hc e _ => ⟨o.slots, k b o hc e⟩) (fun b o _ e n => ?_)
  (fun b o hc e => ⟨o, k b o hc e⟩) (fun b ys e => old e) (fun b o u e => old e) (fun b ps e => ⟨#[], by rw [Array.append_empty]; exact old e⟩) (fun m hm => ?_) (fun b u e => ?_) I.bare
 ·obtain ⟨f0, f1, f2, f3, f4, f5⟩ := hf b hb
  exact ⟨f3, f1, f4, f5⟩
 ·rw [upd_ne (fun z => by subst z; exact absurd (Heap.lt_size e) (Nat.not_lt.mpr hT))]
  exact n
 ·obtain ⟨o, es, ep, ho, r⟩ := hm
  exact ⟨o, es, ep, k _ o (fun hb => (hf _ hb).2.1 rfl) ho, r⟩
 ·by_cases z : b = T
  ·subst z
   rw [upd_same] at e
   cases e
   exact ⟨hz, its, r, ht⟩
  ·rw [upd_ne z] at e
   refine (I.hok b u e).stay (fun c v hc q => k c v ?_ q) (fun _ q => old q) fun _ _ q => old q
   rcases hc with z | z
   ·rw [z]; exact nf b u e
   ·exact nf c _ z
theorem Inv.turnedF {X : Cx} {pins : List (Addr × Obj)} {σ : St} {H : Hp} {s : Shared} {h' : Heap} {t' : Nat} {fp : List Addr} (I : Inv X pins σ H s) (k : ∀ b o, b ∉ fp -> s.heap.get? b = some o -> h'.get? b = some o) (hf : ∀ b ∈ fp, FpOk X pins H b) : Inv X pins σ H { s with heap := h', toks := t' } := by
 have nf : ∀ b u, H b = some u -> b ∉ fp := fun b u e hb => by rw [(hf b hb).1] at e; cases e
 refine I.step (g' := s.gens) (d' := s.drawn) (ch := fp) (fun b hb => ?_) (fun b o _ _ hc e _ => k b o hc e) (fun b o _ _ hc e _ => ⟨o.slots, k b o hc e⟩) (fun b o _ e n => n)
  (fun b o hc e => ⟨o, k b o hc e⟩) (fun b ys e => e) (fun b o u e => e) (fun b ps e => ⟨#[], by rw [Array.append_empty]; exact e⟩) (fun m hm => ?_) (fun b u e => ?_) I.bare
 ·obtain ⟨f0, f1, f2, f3, f4, f5⟩ := hf b hb
  exact ⟨f3, f1, f4, f5⟩
 ·obtain ⟨o, es, ep, ho, r⟩ := hm
  exact ⟨o, es, ep, k _ o (fun hb => (hf _ hb).2.1 rfl) ho, r⟩
 ·refine (I.hok b u e).stay (fun c v hc q => k c v ?_ q) (fun _ q => q) fun _ _ q => q
  rcases hc with z | z
  ·rw [z]; exact nf b u e
  ·exact nf c _ z
theorem turn_enum {P : Program} {w : World} {K : PySem.W.Frag} {elts : List Expr} {k : Nat} {pos : Pos} (a e it : Addr) (h1 : e ≠ it) (h2 : a ≠ e) (h3 : a ≠ it) : Turn P w K (.Tuple elts k pos) (Ite K a) [e, it] e (fun i h => (∃ old, IsEnum h e it i old) /\ h.IsListIter it a i) where
 mem := by simp
 obj := fun i h st b hb => by
  obtain ⟨⟨old, q⟩, o, e2, c, d⟩ := st
  rcases List.mem_cons.mp hb with rfl | hb
  ·exact ⟨_, q, fun v z => by cases z⟩
  ·obtain rfl : b = it := by simpa using hb
   exact ⟨o, e2, fun v z => by rw [d] at z; cases z⟩
 keep := fun i h h' st kk => by
  obtain ⟨⟨old, q⟩, st2⟩ := st
  exact ⟨⟨old, kk e (by simp) _ q⟩, st2.at fun o q2 => kk it (by simp) o q2⟩
 item := by
  intro X hP hw hK hc i pins s σ H E I hf st hg
  subst hP hw hK
  obtain ⟨xs, x, hq, hx⟩ := hg
  obtain ⟨its, rv, p, hz⟩ := I.list hq
  obtain ⟨u, hu, ru⟩ := rv.get hx
  have W := WalksT.enumerate (prog := X.prog) (w := X.w) (A := X.A) (I.ok.hd hc) e it a h1 h2 h3 its.toArray
  have hi : i < its.toArray.size := by
   simp only [List.size_toArray]
   exact (List.getElem?_eq_some_iff.mp hu).1
  obtain ⟨old, he⟩ := st.1
  have hit := st.2
  refine wpAny_pyNext_enum_item he hit p.isList (x := u) (by rw [List.getElem?_toArray]; exact hu) h1 fun h' ho hit' hTo hsz hk => ?_
  have helt : e < s.heap.objs.size := Heap.lt_size he
  have hilt : it < s.heap.objs.size := by obtain ⟨_, x, _⟩ := hit; exact Heap.lt_size x
  have mid : (∃ x, IsEnumOut h' e it ((i : Int) + 1) x s.heap.objs.size) /\ h'.IsListIter it a (i + 1) /\ h'.IsList a its.toArray /\ s.heap.objs.size ≠ e /\ s.heap.objs.size ≠ it := ⟨⟨_, ho⟩, hit', p.isList.at fun o x => hk a o h2 h3 x, Nat.ne_of_gt helt, Nat.ne_of_gt hilt⟩
  have kk : ∀ b o, b ∉ [e, it] -> s.heap.get? b = some o -> h'.get? b = some o := fun b o hb x => hk b o (fun e' => hb (by simp [e'])) (fun e' => hb (by simp [e'])) x
  have isT : h'.IsTuple s.heap.objs.size #[.int i s.toks, u] := ⟨_, hTo, rfl, _, rfl⟩
  obtain ⟨T, eT⟩ : ∃ T, T = s.heap.objs.size := ⟨_, rfl⟩
  obtain ⟨t, et⟩ : ∃ t, t = s.toks := ⟨_, rfl⟩
  obtain ⟨tk, htk⟩ : ∃ tk, tk = s.toks + 1 := ⟨_, rfl⟩
  rw [<- eT] at isT mid hTo ⊢
  have hT : s.heap.objs.size <= T := Nat.le_of_eq eT.symm
  rw [<- et] at isT hTo
  rw [<- htk]
  refine ⟨_, rfl, W.go elts k pos i T { s with heap := h', toks := tk } _ _ mid fun h2' st' kk2 => ?_⟩
  have nT : T ∉ [e, it] := W.apart i T h' mid
  have isT2 : h2'.IsTuple T #[.int i t, u] := by
   obtain ⟨o, q, r⟩ := isT
   exact ⟨o, kk2 T o nT q, r⟩
  have I1 : Inv X pins σ (upd H T (.tup [.int i, x])) { s with heap := h2', toks := tk } := I.turnedN (t' := tk) (fp := [e, it]) (its := [.int i t, u]) (fun b o hb q => kk2 b o hb (kk b o hb q)) hf hT (by show 2 <= sizeLine; decide) (.cons ⟨t, rfl⟩ (.cons ru .nil)) ⟨isT2, _, kk2 T _ nT hTo, rfl⟩
  refine ⟨.ref T, _, I1, rfl, ⟨T, x, rfl, I.hok.fresh hT, fun ys hy => by rw [I.list_inj hy hq]; exact hx, rfl⟩, ⟨?_, st'.2.1⟩, fun b hb => ?_⟩
  ·obtain ⟨old, q⟩ := st'.1
   exact ⟨old, by simpa using q⟩
  ·rw [upd_ne (fun z : b = T => nT (by rw [<- z]; exact hb))]
   exact (hf b hb).1
 done := by
  intro X hP hw hK hc i pins s σ H E I hf st hg
  subst hP hw hK
  obtain ⟨xs, hq, hx⟩ := hg
  obtain ⟨its, rv, p, hz⟩ := I.list hq
  have W := WalksT.enumerate (prog := X.prog) (w := X.w) (A := X.A) (I.ok.hd hc) e it a h1 h2 h3 its.toArray
  have hn : its.toArray.size = i := by
   have := rv.length
   simp only [List.size_toArray]
   omega
  refine W.done s _ _ (by rw [hn]; exact ⟨st.1, st.2, p.isList⟩) fun h' tk kk => ⟨rfl, I.turnedF (t' := tk) (fp := [e, it]) kk hf⟩
 self := fun A i s Q E st h => by
  obtain ⟨old, q⟩ := st.1
  exact wpAny_pyIter_enum q h
def iEnum (K : PySem.W.Frag) (ta : TA) : TI := fun σ H R => ta σ H fun vs H1 => ∃ a, vs = [.ref a] /\ (∃ xs, SqL K H1 a xs) /\ R (Ite K a) H1
theorem pi_enum {X : Cx} {elts : List Expr} {kk : Nat} {p2 : Pos} {a : Expr} {ta : TA} {p pos : Pos} (hg : Gl X "enumerate") (hm : X.mg "enumerate" = none) (ha : PA X [a] ta) (hs : starEach [a] X.env = [(false, eval a X.env)] := by rfl) : PI X (.Tuple elts kk p2) (.Call (.Name "enumerate" p) [a] [] pos) (iEnum X.K ta) := by
 intro pins s σ H R I h
 refine Call_ (ld_blt I hg hm boot_enumerate (PyProof.Rows.callWith_type1 (thn (ha pos pins s σ H _ I h) fun us s1 ⟨vs, H1, I1, r1, q1⟩ => ?_) hs rfl))
 obtain ⟨l, e, ⟨xs, hq⟩, q⟩ := q1
 subst e
 cases r1 with
 | cons r rr =>
  cases rr
  cases r
  obtain ⟨its, rv, pl, hz⟩ := I1.list hq
  have ll : l < s1.heap.objs.size := by obtain ⟨_, e, _⟩ := pl.isList; exact Heap.lt_size e
  refine call_enumerate_list pl.isList fun h' he hi hn kp => ?_
  refine wpAny_pyIter_enum he ?_
  refine ⟨s1.heap.objs.size + 1, [s1.heap.objs.size + 1, s1.heap.objs.size], _, _, H1, rfl, I1.kept (t' := s1.toks) kp, turn_enum l _ _ (Nat.succ_ne_self _) (Nat.ne_of_lt (Nat.lt_succ_of_lt ll)) (Nat.ne_of_lt ll), ⟨⟨_, he⟩, hi⟩, fun b hb => ?_, q⟩
  have e : s1.heap.objs.size <= b := by
   rcases List.mem_cons.mp hb with rfl | hb
   ·exact Nat.le_succ _
   ·obtain rfl : b = s1.heap.objs.size := by simpa using hb
    exact Nat.le_refl _
  exact I1.fpOk e (I1.hok.fresh e)
theorem for_enum {K : PySem.W.Frag} {a : Addr} {xs : List V} {g : TG} {tb : TS} {D : Ends} {σ : St} {H : Hp} (Pv : Nat -> St -> Hp -> Prop) (h0 : Pv 0 σ H) (hl : ∀ i σ H, i <= xs.length -> Pv i σ H -> SqL K H a xs)
  (hs : ∀ i x σ H, xs[i]? = some x -> Pv i σ H -> ∀ t, H t = none -> g (.ref t) σ (upd H t (.tup [.int i, x])) fun σ2 H2 => tb { D with nx := Pv (i + 1), ct := Pv (i + 1), bk := D.nx } σ2 H2) (hd : ∀ σ H, Pv xs.length σ H -> D.nx σ H) :
  ∃ W : Nat -> Nat -> St -> Hp -> Prop, (∃ m, W 0 m σ H) /\ ∀ i m σ H, W i m σ H ->
   ((Ite K a).stop i H /\ D.nx σ H) ∨ ((Ite K a).go i H /\ ∃ N : St -> Hp -> Prop, (∀ σ' H', N σ' H' -> ∃ m', m' < m /\ W (i + 1) m' σ' H') /\ ∀ x H', (Ite K a).yld i H x H' -> g x σ H' fun σ2 H2 => tb { D with nx := N, ct := N, bk := D.nx } σ2 H2) := by
 refine ⟨fun i m σ H => m = xs.length - i /\ i <= xs.length /\ Pv i σ H, ⟨xs.length, by simp, Nat.zero_le _, h0⟩, ?_⟩
 rintro i m σ H ⟨rfl, hi, p⟩
 have q := hl i σ H hi p
 by_cases hlt : i < xs.length
 ·refine .inr ⟨⟨xs, xs[i], q, by simp [hlt]⟩, Pv (i + 1), fun σ' H' p' => ⟨xs.length - (i + 1), by omega, rfl, hlt, p'⟩, fun x H' y => ?_⟩
  obtain ⟨t, x, rfl, ht, y, rfl⟩ := y
  exact hs i x σ H (y xs q) p t ht
 ·have e : i = xs.length := by omega
  subst e
  exact .inl ⟨⟨xs, q, rfl⟩, hd σ H p⟩
end L2
set_option Elab.async false
set_option linter.all false
set_option maxRecDepth 100000
namespace L2
open PySem PySem.Spec PyProof.Rows
theorem ObjOk.here {P : Program} {w : World} {H : Hp} {h : Heap} {a : Addr} {o : HO} (x : ObjOk P w H h a o) : ∃ u, h.get? a = some u := by
 cases o with
 | lst xs => obtain ⟨_, _, _, _, e⟩ := x; exact ⟨_, e⟩
 | tup xs => obtain ⟨_, _, _, ⟨o, e, _⟩, _⟩ := x; exact ⟨_, e⟩
 | dK kvs => obtain ⟨_, _, _, _, o, _, _, e, _⟩ := x; exact ⟨_, e⟩
 | dT kvs => obtain ⟨_, _, _, _, o, _, _, e, _⟩ := x; exact ⟨_, e⟩
 | set S n => obtain ⟨o, _, _, _, e, _⟩ := x; exact ⟨_, e⟩
 | ins C dx fs => obtain ⟨_, _, _, e, _⟩ := x; exact ⟨_, e⟩
 | own y => exact x
 | xd fs => obtain ⟨_, ⟨_, _, _, e, _⟩, _⟩ := x; exact ⟨_, e⟩
 | rng lo hi => obtain ⟨_, _, _, e⟩ := x; exact ⟨_, e⟩
 | frz ob u => obtain ⟨e, _⟩ := x; exact ⟨_, e⟩
 | tbl ps => exact ⟨_, show h.get? a = some _ from x⟩
 | met f y => exact ⟨_, show h.get? a = some _ from x⟩
 | ext φ => obtain ⟨_, e, _⟩ := x; exact e
def InB (B : Heap) (l : List Env) (H : Hp) (h0 h : Heap) : Prop :=
 ∀ b o, h.get? b = some o -> b ∉ frs l -> ((H b).isSome = true ∨ ∃ o0, h0.get? b = some o0) -> B.get? b = some o
section
variable {P : Program} {w : World} {H H' : Hp} {B h0 h h1 : Heap} {l : List Env}
theorem flown_hok (hok : HOk P w H' h) (fr : ∀ b ∈ frs l, H' b = none) (i : InB B l H' h0 h) (st : B.StaysIn h1) : HOk P w H' h1 := fun b o e =>
 (hok b o e).stay (fun c u hc q => by
  have hs : ∃ x, H' c = some x := by
   rcases hc with z | z
   ·exact ⟨o, z ▸ e⟩
   ·exact ⟨_, z⟩
  obtain ⟨x, hx⟩ := hs
  exact st c u (i c u q (fun m => by rw [fr c m] at hx; cases hx) (.inl (by rw [hx]; rfl)))) (fun _ q => q) (fun _ _ q => q)
theorem flown_un (un : Un (frs l) [] H H' h0 h) (ff : h.FunFrames B l) (i : InB B l H' h0 h) (st : B.StaysIn h1) (up : h.UpToSlots h1) : Un (frs l) [] H H' h0 h1 where
 keep := fun b o q n hb hx => st b o (i b o (un.keep b o q n hb hx) hb (.inr ⟨o, q⟩))
 slot := fun b o q n hb hx => by
  obtain ⟨sl, e⟩ := un.slot b o q n hb hx
  obtain ⟨_, o', e', d⟩ := ff.mem hb
  rw [e] at e'; cases e'
  obtain ⟨sl2, e2⟩ := up b _ e d
  exact ⟨sl2, e2⟩
 free := un.free
 there := fun b o q hx => by
  obtain ⟨o', e⟩ := un.there b o q hx
  by_cases hb : b ∈ frs l
  ·obtain ⟨_, o2, e', d⟩ := ff.mem hb
   rw [e] at e'; cases e'
   obtain ⟨sl2, e2⟩ := up b _ e d
   exact ⟨_, e2⟩
  ·exact ⟨o', st b o' (i b o' e hb (.inr ⟨o, q⟩))⟩
 tups := un.tups
 frzs := un.frzs
 tbls := un.tbls
theorem flown_in (hok : HOk P w H' h) (un : Un (frs l) [] H H' h0 h) (i : InB B l H' h0 h) (st : B.StaysIn h1) : InB B l H' h0 h1 := fun b o e hb c => by
 have : ∃ u, h.get? b = some u := by
  rcases c with z | ⟨o0, z⟩
  ·obtain ⟨x, hx⟩ := Option.isSome_iff_exists.mp z
   exact (hok b x hx).here
  ·exact un.there b o0 z (by simp)
 obtain ⟨u, hu⟩ := this
 have q := i b u hu hb c
 have := st b u q
 rw [e] at this; cases this
 exact q
end
def CX1 (P : Program) (w : World) : CXT := fun l H s E e s' =>
 ∃ a cls H' B a0, e = Value.ref a /\ s'.os = s.os /\ AllBare s'.gens /\ Un (frs l) [] H H' s.heap s'.heap /\ HOk P w H' s'.heap /\ Heap.FlyingW B l a cls a0 s'.heap /\ InB B l H' s.heap s'.heap /\ E cls none H'
section
variable {X : Cx} {pins : List (Addr × Obj)} {σ : St} {H H' : Hp} {s s1 : Shared} {B h : Heap} {a : Addr} {cls a0 : Value} {E : XK}
theorem stk_free (I : Inv X pins σ H s) (un : Un (frs X.stack) [] H H' s.heap h) : ∀ b ∈ frs X.stack, H' b = none := fun b hb => by
 obtain ⟨_, o, ho, _⟩ := I.stack.mem hb
 exact un.free b o ho (I.stkFree b hb) (by simp)
theorem leave_end (I : Inv X pins σ H s) (hex : X.ex = []) (os : s1.os = s.os) (bare : AllBare s1.gens) (un : Un (frs X.stack) [] H H' s.heap h) (hok : HOk X.prog X.w H' h) (i : InB B X.stack H' s.heap h) (ff : h.FunFrames B X.stack) (up : h.UpToSlots s1.heap)
  (fl : Heap.FlyingW B X.outer a cls a0 s1.heap) (hE : E cls none H') : CX1 X.prog X.w X.outer X.H₀ X.s₀ E (.ref a) s1 := by
 have un1 := flown_un un ff i fl.1 up
 have hok1 := flown_hok hok (stk_free I un) i fl.1
 have I1 : Inv X pins σ H' s1 := I.call' os un1 hok1 bare (fun b z => absurd z (by simp))
 have bs := I1.base
 rw [hex] at bs
 refine ⟨a, cls, H', B, a0, rfl, I1.os, I1.bare, bs, I1.hok, fl, fun b o e hb c => ?_, hE⟩
 have nL : b ≠ X.env.locals := by
  rcases c with z | ⟨o0, z⟩
  ·intro q
   rw [q, I1.free] at z
   cases z
  ·exact Nat.ne_of_lt (Nat.lt_of_lt_of_le (Heap.lt_size z) I.ok.above)
 refine flown_in hok un i fl.1 b o e (fun hm => ?_) (c.imp id fun ⟨o0, z⟩ => I.base.there b o0 z (by rw [hex]; simp))
 rcases List.mem_cons.mp (I.stkSub b hm) with z | z
 ·exact nL z
 ·exact hb z
end
section
variable {P : Program} {w : World} {K : PySem.W.Frag} {mg : Str -> Option Value} {base : Heap} {N : List Str} {qual : Str} {scope : Scope} {f : Addr} {cd : Value} {A : Around} {outer : List Env} {s : Shared} {H : Hp} {E : XK}
def Raises (X : Cx) (E : XK) : Prop := ∀ (pins : List (Addr × Obj)) (σ : St) (H : Hp) (s : Shared) (h' : Heap) (e : Addr) (cls : Value) (vs : List Value), Inv X pins σ H s -> Heap.MadeExcOf s.heap h' e cls vs -> E cls none H -> X.xe (.ref e) { s with heap := h' }
theorem raises1 : Raises (cxOf (CX1 P w) P w K mg base N qual scope f cd A outer s H E) E := by
 intro pins σ H1 s1 h' e cls vs I hx hE
 have ff := PySem.W.funFrames_hide (as := frs (cxOf (CX1 P w) P w K mg base N qual scope f cd A outer s H E).stack) I.stack (fun env he b hb => List.mem_filterMap.mpr ⟨env, he, hb⟩)
 refine wpAny_leaves_madeW (base := PySem.W.hideAll s1.heap (frs (cxOf (CX1 P w) P w K mg base N qual scope f cd A outer s H E).stack)) (h := s1.heap) I.ok.frames rfl (fun b o q => PySem.W.of_hideAll _ q) ff hx fun h1 t fl tup nt up => ?_
 exact leave_end (s1 := { s1 with heap := h1 }) I rfl rfl I.bare Un.refl I.hok (fun b o q hb _ => PySem.W.hideAll_get _ q hb) ff ((Heap.UpToSlots.of_keeps hx.keeps).trans up) fl hE
end
section
variable {X : Cx} {x : Str} {C : Addr} {bm : List Value} {B newId initId : String} {np cpos pos : Pos} {e₀ : Expr} {t : TA} {E : XK}
theorem own_of {K : PySem.W.Frag} {h : Heap} {mg : Str -> Option Value} {bmB : List Value} (X : K.In h) (hm : mg x = some (.ref C)) (q : PySem.W.excIn K C bmB newId = true) : OwnCls x C bmB newId mg h := by
 refine ⟨hm, ?_⟩
 unfold PySem.W.excIn at q
 split at q
 ·rename_i dd cd sl ho
  split at q
  ·rename_i C' bm k0 k1 k2 k3 n k5 hm' hs
   simp only [Bool.and_eq_true, beq_iff_eq, Bool.not_eq_true'] at q
   obtain ⟨⟨⟨⟨⟨rfl, rfl⟩, hdel⟩, ht⟩, hok⟩, hni⟩ := q
   obtain ⟨nm, bs, mro, ns, qn, hd, sn, sub, ab, col, del⟩ := cd
   dsimp only at hm' hdel hok hni
   subst hm' hdel
   have hsl : sl = #[k0, k1, k2, k3, some (.builtin n), k5] := by
    obtain ⟨l⟩ := sl
    simp only at hs
    rw [hs]
   subst hsl
   exact ⟨bm, ns, nm, qn, bs, hd, sn, sub, ab, col, dd, k0, k1, k2, k3, k5, _, X _ _ ho, .of_isNs (PySem.W.isNs_of_in X hok), PySem.W.nsMap_none_of_in X hok hni, PySem.W.tail_of_in X ht⟩
  ·cases q
 ·cases q
def tRaise (cls : Value) (E : XK) (t : TA) : TS := fun _ σ H => t σ H fun vs H1 => vs.length <= sizeLine /\ E cls none H1
theorem ps_raise (hh : X.calm = true) (R : Raises X E) (hm : X.mg x = some (.ref C)) (qx : PySem.W.excIn X.K C bm newId = true) (FB : ExcBaseFacts B newId initId bm) (hg : Gl X x) (ha : PA X [e₀] t)
  (he : starEach [e₀] X.env = (false, eval e₀ X.env) :: starEach [] X.env := by rfl) (hpl : (backTo cpos (starEach [e₀] X.env)).any (·.1) = false := by rfl) (hd : (x == ("__debug__" : Str)) = false := by decide) :
  PS X (.Raise (some (.Call (.Name x np) [e₀] [] cpos)) none pos) (tRaise (.ref C) E t) := by
 intro pins s σ H D I h
 have O := own_of I.ok.mod.kin hm qx
 obtain ⟨tl, N, nm, q, bs, hdct, sn, sub, ab, col, dd, k0, k1, k2, k3, k5, mN, hC, hN, hni, T⟩ := O.obj
 refine wpAny_Raise_call_subT (C := C) (nm := nm) (q := q) (N := N) (bs := bs) (bm := tl) (hdct := hdct) (sn := sn) (sub := sub) (ab := ab) (col := col) (dd := dd) (k0 := k0) (k1 := k1) (k2 := k2) (k3 := k3) (k5 := k5)
  FB (mN := mN) (T.hasType FB.hasBase) (I.ok.hd hh) hpl hni (ld_glob I hg O.bound ⟨rfl, ?_⟩ hd)
 have ha' := ha cpos pins s σ H _ I h
 rw [he] at ha' ⊢
 refine Calls.evalArgs_plain (wpAny_mono ha' (fun us s₂ ⟨vs, H1, I1, r, z, q⟩ => ⟨rfl, by rw [<- r.length]; exact z, I1.bk _ _ hC, hN.keeps I1.bk, T.keeps I1.bk, fun h' e hm => R pins σ H1 s₂ h' e _ _ I1 hm q⟩) fun _ _ y => y)
end
section
variable {P : Program} {w : World} {K : PySem.W.Frag} {mg : Str -> Option Value} {base : Heap}
theorem Fun.okX {x qual : Str} {st : Stmt} {f : Addr} {fd : FuncData} {N ps : List Str} {k : Nat} {sp : Sp} (F : Fun K x qual st f fd) (S : FnScope N ps (defScope st)) (len : ∀ vs H Q E, sp vs H Q E -> vs.length = ps.length)
  (hbody : ∀ (cdv : Value) (A : Around) (outer : List Env) (s : Shared) (H : Hp) (vs : List V) (Q : VK) (E : XK), Room k (A.deeper (envOfC qual (defScope st) s.heap.objs.size f cdv)) -> sp vs H Q E ->
   ∃ t, PSs (cxOf (CX1 P w) P w K mg base N qual (defScope st) f cdv A outer s H E) (defBody st) t /\ t { nx := fun _ H' => Q .non H', rt := Q } (start N vs) H) : FnOk P w K mg base (CX1 P w) (k + 1) f fd ps sp := by
 obtain ⟨oc, od, kV, doc, pm, an, cdv, ct, osl, rfl, lk, hcd⟩ := F.ex
 refine fn_of lk hcd S len fun A outer s H vs Q E hr hsp => ?_
 obtain ⟨t, h, q⟩ := hbody cdv A outer s H vs Q E hr hsp
 exact ⟨t, h, q⟩
end
end L2
set_option Elab.async false
set_option linter.all false
set_option maxRecDepth 100000
namespace L2
open PySem PySem.Spec PySem.Calls PyProof.Rows PySem.W Builtin Builtin.ObjectAttr Builtin.Getset_descriptor
structure ExcK (K : PySem.W.Frag) (C : Addr) : Prop where
 cl : (clsIn K C).isSome = true
 ga : findIn K (.ref C) "__getattribute__" = some (some (.builtin "BaseException.__getattribute__"))
 ha : findIn K (.ref C) "__getattr__" = some none
 ca : findIn K (.ref C) "__class__" = some (some (.builtin "object.__class__"))
 gt : specialIn K (.builtin "object.__class__") "__get__" = some (some (.builtin "getset_descriptor.__get__"))
 tk : takesIn K (.builtin "object.__class__") = some true
 mo : mroIn K C (.type "object") = some true
 mb : mroIn K C (.type "BaseException") = some true
section
variable {prog : Program} {w : World} {A : Around} {E : Value -> Shared -> Prop} {s : Shared} {K : PySem.W.Frag} {x C : Addr}
def exo (a : Addr) (cls : Value) : HO := .ext fun h => ∃ o, h.get? a = some o /\ o.cls = cls
end
section
variable {X : Cx}
def clsV : V -> Option Value
 | .ref C => some (.ref C)
 | .ty T => some (.type T)
 | _ => none
def rIsiE (K : PySem.W.Frag) : List V -> Hp -> VK -> Prop := fun xs H Q => ∃ a C c cv b, xs = [.ref a, c] /\ clsV c = some cv /\ H a = some (exo a (.ref C)) /\ ExcK K C /\ PySem.W.kitOne K (.ref C) cv = some b /\ Q (.bl b) H
def rIsiC (K : PySem.W.Frag) : List V -> Hp -> VK -> Prop := fun xs H Q => ∃ x C t b, xs = [x, .ref C] /\ TyOf K H x t /\ PySem.W.kitOne K t (.ref C) = some b /\ Q (.bl b) H
theorem call_isiC : CallR X (.builtin "isinstance") (rIsiC X.K) := by
 intro pins s σ H xs us Q I r h
 obtain ⟨x, C, t, b, rfl, ty, e, q⟩ := h
 obtain ⟨u, w', rfl, ru, rw'⟩ := vals2 r
 cases (show w' = Value.ref C from rw')
 exact isinst_ok I ru ty e fun tk => ⟨.bl b, H, I.tok tk, rfl, q⟩
end
end L2
set_option Elab.async false
set_option linter.all false
set_option maxRecDepth 100000
namespace L2
open PySem PySem.Spec PyProof.Rows
abbrev Cx.inX (X : Cx) (a : Addr) : Cx := { X with A := X.A.mark (some (.ref a)), calm := false }
section
variable {X : Cx} {pins : List (Addr × Obj)} {σ : St} {H : Hp} {s : Shared} {a : Addr}
theorem Cx.Ok.inX (ok : X.Ok) (a : Addr) : (X.inX a).Ok :=
 ⟨ok.mod, ok.kind, ok.glob, ok.blt, ok.above, ok.inj, ok.has, ok.cab, fun z => absurd z (by simp), ok.frames, ok.stk, ok.exf, ok.bs, ok.bsz, ok.noex, ok.exfs, ok.funs, ok.frf⟩
theorem Inv.inX (I : Inv X pins σ H s) (a : Addr) : Inv (X.inX a) pins σ H s := ⟨I.ok.inX a, I.os, I.bare, I.base, I.loc, I.cell, I.free, I.freeC, I.pin, I.hok, I.len⟩
theorem Inv.outX (ok : X.Ok) (I : Inv (X.inX a) pins σ H s) : Inv X pins σ H s := ⟨ok, I.os, I.bare, I.base, I.loc, I.cell, I.free, I.freeC, I.pin, I.hok, I.len⟩
theorem goes_ok {M : Model} {A : Around} {E : Value -> Shared -> Prop} {i : Nat} {n : Str} {pos : Pos} {Q : Unit -> Shared -> Prop} (I : Inv X pins σ H s) (hN : X.N.Nodup) (hi : X.N[i]? = some n) (hl : X.env.scope.names.lookup n = some .local)
  (h : ∀ s', Inv X pins (σ.set i none) H s' -> Q () s') : wpAny M A (do bindName X.env n .none; unbindBehindTheSuite X.env n pos) Q E s := by
 obtain ⟨m, hn, hl'⟩ := id I.loc
 have hcls : (X.env.scope.kind == .class || (X.env.scope.kind == .module && X.env.locals != X.env.globals)) = false := by rw [I.ok.kind]; rfl
 have hiσ : i < σ.length := by rw [I.len]; exact (List.getElem?_eq_some_iff.mp hi).1
 have cne := I.cne
 refine wpAny_nameGoes_keeps hl hn hcls fun h' v hn' hs => ?_
 obtain ⟨oL, _, _, hoL, _⟩ := id hn
 refine h _ ⟨I.ok, I.os, I.bare, ⟨fun b o e n hb hx => ?_, fun b o e n hb hx => ?_, I.base.free, fun b o e hx => ?_, I.base.tups, I.base.frzs, I.base.tbls⟩, ⟨_, hn', fun j y v' e1 e2 e3 => ?_⟩, fun y c e => ?_, I.free, I.freeC, fun p hp => ?_, fun b ob e => ?_, by simpa using I.len⟩
 ·exact (hs.2 b (Nat.ne_of_lt (Nat.lt_of_lt_of_le (Heap.lt_size e) I.ok.above))).trans (I.base.keep b o e n hb hx)
 ·obtain ⟨sl, e1⟩ := I.base.slot b o e n hb hx
  exact ⟨sl, (hs.2 b (Nat.ne_of_lt (Nat.lt_of_lt_of_le (Heap.lt_size e) I.ok.above))).trans e1⟩
 ·obtain ⟨o', e1⟩ := I.base.there b o e hx
  exact ⟨o', (hs.2 b (Nat.ne_of_lt (Nat.lt_of_lt_of_le (Heap.lt_size e) I.ok.above))).trans e1⟩
 ·by_cases hj : j = i
  ·subst hj
   rw [List.getElem?_set_self hiσ] at e2
   cases e2
  ·rw [List.getElem?_set_ne (Ne.symm hj)] at e2
   obtain ⟨u', r', q⟩ := hl' j y v' e1 e2 e3
   refine ⟨u', r', ?_⟩
   rcases q with ⟨k, e⟩ | ⟨k, c, e, z⟩
   ·refine .inl ⟨k, ?_⟩
    have : y ≠ n := fun e => hj (nodup_ix hN e1 (e ▸ hi))
    simp [this, e]
   ·exact .inr ⟨k, c, e, z.sameBut hs (cne y c e)⟩
 ·obtain ⟨w', z⟩ := I.cell y c e
  exact ⟨w', z.sameBut hs (cne y c e)⟩
 ·obtain ⟨e, n, ne, nf, d⟩ := I.pin p hp
  exact ⟨(hs.2 p.1 ne).trans e, n, ne, nf, d⟩
 ·refine (I.hok b ob e).stay (fun c w' hc q => (hs.2 c ?_).trans q) (fun _ q => q) fun _ _ q => q
  rintro rfl
  rcases hc with z | hc
  ·rw [<- z, I.free] at e; cases e
  ·rw [I.free] at hc; cases hc
end
abbrev XS := St -> Value -> Hp -> Prop
def XP (X : Cx) (pins : List (Addr × Obj)) (ES : XS) (e : Value) (s' : Shared) : Prop := ∃ σ H s, Inv X pins σ H s /\ CX1 X.prog X.w X.stack H s (fun cls _ H' => ES σ cls H') e s'
def PEX (X : Cx) (e : Expr) (t : XS -> TE) : Prop :=
 ∀ (ES : XS) (pins : List (Addr × Obj)) (s : Shared) (σ : St) (H : Hp) (Q : VK), Inv X pins σ H s -> t ES σ H Q -> wpAny (model X.prog X.w) X.A (eval e X.env) (EP X pins σ Q) (XP X pins ES) s
def PSX (X : Cx) (st : Stmt) (t : XS -> TS) : Prop :=
 ∀ (ES : XS) (pins : List (Addr × Obj)) (s : Shared) (σ : St) (H : Hp) (D : Ends), Inv X pins σ H s -> t ES D σ H -> wpAny (model X.prog X.w) X.A (exec st X.env) (SP X pins D) (XP X pins ES) s
def PSsX (X : Cx) (st : List Stmt) (t : XS -> TS) : Prop :=
 ∀ (ES : XS) (pins : List (Addr × Obj)) (s : Shared) (σ : St) (H : Hp) (D : Ends), Inv X pins σ H s -> t ES D σ H -> wpAny (model X.prog X.w) X.A (execs st X.env) (SP X pins D) (XP X pins ES) s
section
variable {X : Cx} {st : Stmt} {e c : Expr} {te : XS -> TE} {t u : XS -> TS} {pos : Pos} {a b : List Stmt} {tc : TT}
end
section
variable {X : Cx} {k : Nat} {f C : Addr} {fd : FuncData} {ps : List Str} {sp : Sp} {dvs : List V} {ds : List Value} {ES : XS} {x m : Str} {p pos apos : Pos} {e o : Expr} {es : List Expr} {ta : TE} {t : TA}
def tCallX (sp : Sp) (dvs : List V) (t : TA) (ES : XS) : TE := fun σ H Q => t σ H fun vs H1 => sp (vs ++ dvs) H1 Q (fun cls _ H' => ES σ cls H')
def tMethX (C : Addr) (m : Str) (sp : Sp) (dvs : List V) (ta : TE) (t : TA) (ES : XS) : TE := fun σ H Q => ta σ H fun x H1 => ∃ a dx fs, x = .ref a /\ H1 a = some (.ins C dx fs) /\ fs.lookup m = none /\
 t σ H1 fun vs H2 => sp (x :: (vs ++ dvs)) H2 Q (fun cls _ H' => ES σ cls H')
def tMakeX (C : Addr) (sp : Sp) (dvs : List V) (t : TA) (ES : XS) : TE := fun σ H Q => t σ H fun vs H1 => ∀ x dx, H1 x = none -> H1 dx = none -> dx ≠ x ->
 sp (.ref x :: (vs ++ dvs)) (upd (upd H1 dx (.own x)) x (.ins C dx [])) (fun v H2 => v = .non /\ Q (.ref x) H2) (fun cls _ H' => ES σ cls H')
end
section
variable {X : Cx} {i : Nat} {x n : Str} {D C : Addr} {np hpos pos : Pos} {b₀ : Stmt} {suite body : List Stmt} {tb : XS -> TS} {ts : TS}
def Ends.gone (D : Ends) (i : Nat) : Ends := { nx := fun σ H => D.nx (σ.set i none) H, rt := D.rt, bk := fun σ H => D.bk (σ.set i none) H, ct := fun σ H => D.ct (σ.set i none) H }
def tTry (i : Nat) (C : Addr) (tb : XS -> TS) (ts : TS) : TS := fun D σ H =>
 tb (fun σ' cls H' => cls = .ref C /\ ∀ a, H' a = none -> ts (D.gone i) (σ'.set i (some (.ref a))) (upd H' a (exo a (.ref C)))) D σ H
end
end L2
set_option Elab.async false
set_option linter.all false
set_option maxRecDepth 100000
namespace L2
open PySem
def rLL (K : PySem.W.Frag) {D1 D2 : Type} (R1 : Rp D1) (R2 : Rp D2) : Rp (D1 × D2) := fun H x d => ∃ a u v, x = .ref a /\ SqL K H a [u, v] /\ R1 H u d.1 /\ R2 H v d.2
end L2
namespace Ev
open PySem L2
abbrev sCWays : Stmt := top 36
abbrev sCPiece : Stmt := top 37
abbrev sCPieces : Stmt := top 38
abbrev sGoods : Stmt := top 39
abbrev sCell : Stmt := top 41
abbrev sDigit : Stmt := top 42
abbrev sNames : Stmt := top 43
abbrev sLWeb : Stmt := top 44
abbrev sWays : Stmt := top 45
abbrev sPieces : Stmt := top 46
abbrev sCStand : Stmt := top 19
abbrev sThree : Stmt := top 21
abbrev sFault : Stmt := top 22
abbrev sBad : Stmt := top 23
abbrev sJudged : Stmt := top 24
abbrev sStand : Stmt := top 47
abbrev sMade : Stmt := top 48
abbrev sMoved : Stmt := top 25
abbrev sReason : Stmt := top 49
abbrev sWalked : Stmt := top 50
abbrev sMove : Stmt := top 51
abbrev sLMoved : Stmt := top 52
abbrev sNoMove : Stmt := top 8
abbrev sLaw : Stmt := top 53
def But (l : Addr) (H H' : Hp) : Prop := ∀ b o, H b = some o -> b ≠ l -> H' b = some o
theorem But.refl (l : Addr) (H : Hp) : But l H H := fun _ _ e _ => e
theorem But.trans {l : Addr} {H H1 H2 : Hp} (h : But l H H1) (h2 : But l H1 H2) : But l H H2 := fun b o e n => h2 b o (h b o e n) n
theorem But.of {l : Addr} {H H1 : Hp} (h : Same H H1) : But l H H1 := fun b o e _ => h b o e
theorem But.upd {l : Addr} {H : Hp} {o : HO} : But l H (upd H l o) := fun b u e n => by rw [upd_ne n]; exact e
def stt (H : Hp) (l : Addr) : Prop := (∃ n : Int, H l = some (.lst [.int n])) ∨ ∃ n m c : Int, H l = some (.lst [.int n, .int m, .int c])
theorem stt.some {H : Hp} {l : Addr} (h : stt H l) : ∃ xs, H l = some (.lst xs) := by
 rcases h with ⟨n, e⟩ | ⟨n, m, c, e⟩
 ·exact ⟨_, e⟩
 ·exact ⟨_, e⟩
theorem But.free {l b : Addr} {H H' : Hp} (h : But l H H') (s : stt H' l) (e : H' b = none) : H b = none := by
 cases z : H b with
 | none => rfl
 | some o =>
  by_cases q : b = l
  ·subst q
   obtain ⟨xs, e2⟩ := s.some
   rw [e] at e2
   cases e2
  ·rw [h b o z q] at e
   cases e
theorem atI_nat {α : Type} {xs : List α} {i : Int} (h0 : 0 <= i) (h1 : i < xs.length) : atI xs i = xs[i.toNat]? := by
 unfold atI ixN
 rw [if_pos h0, if_pos h1]
 rfl
section
variable {P : Program} {w : World} {K : PySem.W.Frag} {mg : Str -> Option Value} {base : Heap}
def spDigit : Sp := fun vs H Q _ => ∃ (l : Addr) (b : Int), vs = [.ref l, .int b] /\ 0 < b /\ b < 1073741824 /\ stt H l /\ ∀ r H', 0 <= r -> r < b -> But l H H' -> stt H' l -> Q (.int r) H'
theorem small (x : Int) : -(2 ^ 64) < x % 2147483647 /\ x % 2147483647 < 2 ^ 64 := by
 have h1 := Int.emod_nonneg x (b := 2147483647) (by decide)
 have h2 := Int.emod_lt_of_pos x (b := 2147483647) (by decide)
 exact ⟨by omega, by omega⟩
end
end Ev
namespace Ev
open PySem L2
theorem abc_list : ("abcdefghijklmnopqrstuvwxyz" : Str).cps.toList = [97,98,99,100,101,102,103,104,105,106,107,108,109,110,111,112,113,114,115,116,117,118,119,120,121,122] := by decide +kernel
theorem abc_at {r : Int} (h0 : 0 <= r) (h1 : r < 26) : ∃ c, atI ("abcdefghijklmnopqrstuvwxyz" : Str).cps.toList r = some c /\ okc c = true := by
 rw [abc_list, atI_nat h0 (by simpa using h1)]
 have hn : r.toNat < 26 := by omega
 refine ⟨_, List.getElem?_eq_getElem (by simpa using hn), ?_⟩
 have all : ∀ c ∈ [97,98,99,100,101,102,103,104,105,106,107,108,109,110,111,112,113,114,115,116,117,118,119,120,121,122], okc c = true := by decide +kernel
 exact all _ (List.getElem_mem _)
end Ev
namespace Ev
open PySem L2
def insAt {α : Type} (l : List α) (k : Nat) (x : α) : List α := l.take k ++ x :: l.drop k
theorem hit2 {α : Type} {a b : α} {r : Int} (h0 : 0 <= r) (h1 : r < 2) : atI [a, b] r = some a ∨ atI [a, b] r = some b := by
 have : r = 0 ∨ r = 1 := by omega
 rcases this with rfl | rfl
 ·exact .inl rfl
 ·exact .inr rfl
section
theorem tups_keep {K : PySem.W.Frag} {H H' : Hp} {l : Addr} {ys : List V} {ks : List (List Key)} (t : TupsAt K H ys ks) (b : But l H H') {xs : List V} (hl : H l = some (.lst xs)) : TupsAt K H' ys ks := Paired.mapP t fun y k ⟨a, z, q⟩ => ⟨a, z, b _ _ q (ne_of q hl (by intro z; cases z))⟩
end
end Ev
namespace Ev
open PySem L2
def kO (t : Str × Str) : List Key := kT (ord2 t.1 t.2)
structure TI (ns : List Str) (k j : Nat) (ts : List (Str × Str)) : Prop where
 at' : ∀ t ∈ ts, ∃ (a b : Nat) (x y : Str), b < a /\ (a < k ∨ (a = k /\ b < j)) /\ ns[a]? = some x /\ ns[b]? = some y /\ (t = (x, y) ∨ t = (y, x))
 nd : (ts.map kO).Nodup
 len : ts.length <= 7 * k + j
theorem kT_inj {a b : Str × Str} (h : kT a = kT b) : a = b := by
 unfold kT at h
 obtain ⟨h1, h2⟩ := List.cons.inj h
 obtain ⟨h2, _⟩ := List.cons.inj h2
 exact Prod.ext (Sum.inr.inj h1) (Sum.inr.inj h2)
theorem nth_inj {ns : List Str} (nd : ns.Nodup) {i j : Nat} {x : Str} (h : ns[i]? = some x) (h2 : ns[j]? = some x) : i = j := by
 obtain ⟨hi, e1⟩ := List.getElem?_eq_some_iff.mp h
 obtain ⟨hj, e2⟩ := List.getElem?_eq_some_iff.mp h2
 exact (List.getElem_inj nd).mp (e1.trans e2.symm)
theorem kO_two {a b c d : Str} (h : kO (a, b) = kO (c, d)) : (a = c /\ b = d) ∨ (a = d /\ b = c) := by
 have h := kT_inj h
 dsimp only at h
 rcases ord2_or a b with e | e <;> rcases ord2_or c d with e2 | e2 <;> rw [e, e2] at h <;> have h1 := (Prod.mk.inj h).1 <;> have h2 := (Prod.mk.inj h).2
 ·exact .inl ⟨h1, h2⟩
 ·exact .inr ⟨h1, h2⟩
 ·exact .inr ⟨h2, h1⟩
 ·exact .inl ⟨h2, h1⟩
theorem cut_take (ns : List Str) (k : Nat) : cutV (ns.map V.str) none (some (k : Int)) = (ns.take k).map V.str := by
 unfold cutV
 rw [HT.sIx_none, HT.sIx_nat, List.drop_zero, Nat.sub_zero, List.map_take, List.length_map]
 by_cases h : k <= ns.length
 ·rw [Nat.min_eq_left h]
 ·rw [Nat.min_eq_right (by omega), List.take_of_length_le (by rw [List.length_map]; omega), List.take_of_length_le (by rw [List.length_map]; omega)]
theorem stt.same {H H' : Hp} {l : Addr} (h : stt H l) (s : Same H H') : stt H' l := by
 rcases h with ⟨n, e⟩ | ⟨n, m, c, e⟩
 ·exact .inl ⟨n, s _ _ e⟩
 ·exact .inr ⟨n, m, c, s _ _ e⟩
end Ev
set_option Elab.async false
set_option linter.all false
set_option maxRecDepth 100000
namespace Ev
open PySem L2
theorem ltS_asymm {a b : Str} (h : ltS a b = true) : ltS b a = false := kLt_asymm (a := Sum.inr a) (b := Sum.inr b) h
theorem ltS_tot {a b : Str} (h : ltS a b = false) (h2 : ltS b a = false) : a = b := Sum.inr.inj (kLt_tot (a := Sum.inr a) (b := Sum.inr b) h h2)
def SAsc (ns : List Str) : Prop := ns.Pairwise fun a b => ltS b a = false
theorem ord2_comm (a b : Str) : ord2 a b = ord2 b a := by
 unfold ord2
 by_cases h : ltS a b = true
 ·rw [if_pos h, if_neg (by rw [ltS_asymm h]; decide)]
 ·by_cases h2 : ltS b a = true
  ·rw [if_neg h, if_pos h2]
  ·have := ltS_tot (by simpa using h) (by simpa using h2)
   subst this
   rw [if_neg h]
theorem inj_nodup {α β : Type} {f : α -> β} : ∀ {l : List α}, (l.map f).Nodup -> ∀ {a b : α}, a ∈ l -> b ∈ l -> f a = f b -> a = b
 | [], _, _, _, h, _, _ => by cases h
 | x :: l, nd, a, b, ha, hb, e => by
  rw [List.map_cons] at nd
  obtain ⟨n1, n2⟩ := List.nodup_cons.mp nd
  rcases List.mem_cons.mp ha with ha' | ha' <;> rcases List.mem_cons.mp hb with hb' | hb'
  ·rw [ha', hb']
  ·exact absurd (List.mem_map.mpr ⟨b, hb', by rw [<- ha', e]⟩) n1
  ·exact absurd (List.mem_map.mpr ⟨a, ha', by rw [<- hb', e]⟩) n1
  ·exact inj_nodup n2 ha' hb' e
theorem tsOf_mem {ts : List (Str × Str)} {x : Str × Str} : x ∈ tsOf ts ↔ ∃ t ∈ ts, ord2 t.1 t.2 = x := by
 have e : kT x ∈ (tsOf ts).map kT ↔ x ∈ tsOf ts := ⟨fun h => by
  obtain ⟨y, hy, e⟩ := List.mem_map.mp h
  rw [<- kT_inj e]
  exact hy, fun h => List.mem_map.mpr ⟨x, h, rfl⟩⟩
 rw [<- e, tsOf_keys, (sortKs_perm _).mem_iff, List.mem_map]
 exact ⟨fun ⟨t, ht, q⟩ => ⟨t, ht, kT_inj q⟩, fun ⟨t, ht, q⟩ => ⟨t, ht, by rw [q]⟩⟩
theorem kO_swap (a b : Str) : kO (a, b) = kO (b, a) := by
 show kT (ord2 a b) = kT (ord2 b a)
 rw [ord2_comm]
end Ev
set_option Elab.async false
set_option linter.all false
set_option maxRecDepth 100000
namespace Ev
open PySem L2
section
variable {P : Program} {w : World} {K : PySem.W.Frag} {mg : Str -> Option Value} {base : Heap}
theorem scCell : FnScope ["_law_script", "_law_k"] ["_law_script", "_law_k"] (defScope sCell) := ⟨rfl, rfl, rfl, by decide +kernel, rfl, by decide +kernel, by decide +kernel⟩
def spCell (K : PySem.W.Frag) : Sp := fun vs H Q _ => ∃ (l : Addr) (ns : List Int) (k : Int), vs = [.ref l, .int k] /\ 0 <= k /\ SqL K H l (ns.map V.int) /\ ∀ n, Q (.int n) H
theorem ok_cell {f : Addr} {fd : FuncData} (F : Fun K "_law_cell_at" "_law_cell_at" sCell f fd) (B : Bi mg) : FnOk P w K mg base CX0 1 f fd ["_law_script", "_law_k"] (spCell K) := by
 refine F.ok scCell (fun vs H Q E h => ?_) (fun cdv A outer s H vs Q E hr h => ?_)
 ·obtain ⟨l, ns, k, rfl, _⟩ := h
  rfl
 ·obtain ⟨l, ns, i, rfl, h0, hl, k⟩ := h
  refine ⟨_, pss_cons (ps_if (pt_cmpR op_lt (pv 1) (pe_callB call_len_seq (by rfl) B.len PySem.boot_len (pa_cons (pv 0) pa_nil)) (nomark _)) (pss_one (ps_ret (pe_ix ix_list (pv 0) (pv 1) (fun _ _ => rfl)))) pss_nil) (pss_one (ps_ret pe_int)), ?_⟩
  refine ⟨_, rfl, _, rfl, l, _, rfl, .inl hl, _, _, rfl, rfl, _, rfl, ?_⟩
  refine ite2 (fun c => ?_) (fun c => ?_)
  ·have c : i < (ns.map V.int).length := by simpa using c
   have e : atI (ns.map V.int) i = some (.int (ns[i.toNat]'(by rw [List.length_map] at c; omega))) := by
    rw [atI_nat h0 c, List.getElem?_map, List.getElem?_eq_getElem (by rw [List.length_map] at c; omega)]
    rfl
   exact ⟨_, rfl, _, rfl, l, _, _, _, rfl, rfl, hl, e, k _⟩
  ·exact k 0
theorem scDigit : FnScope ["_law_state", "_law_base", "_law_cell", "_law_found", "_law_number"] ["_law_state", "_law_base"] (defScope sDigit) := ⟨rfl, rfl, rfl, by decide +kernel, rfl, by decide +kernel, by decide +kernel⟩
theorem pick2 {n : Int} (b : Bool) : ∃ m : Int, atI [V.int 0, V.int n] (if b then 1 else 0) = some (.int m) := by
 cases b
 ·exact ⟨0, rfl⟩
 ·exact ⟨n, rfl⟩
theorem ok_digit {f : Addr} {fd : FuncData} (F : Fun K "_law_digit" "_law_digit" sDigit f fd) (B : Bi mg) : FnOk P w K mg base CX0 1 f fd ["_law_state", "_law_base"] spDigit := by
 refine F.ok scDigit (fun vs H Q E h => ?_) (fun cdv A outer s H vs Q E hr h => ?_)
 ·obtain ⟨l, b, rfl, _⟩ := h
  rfl
 ·obtain ⟨l, b, rfl, h0, h1, st, k⟩ := h
  refine ⟨_, pss_cons (ps_if (pt_cmpR op_eq (pe_callB call_len_seq (by rfl) B.len PySem.boot_len (pa_cons (pv 0) pa_nil)) pe_int (nomark _))
    (pss_cons (ps_set (i := 2) scDigit.nd rfl (Or.inl rfl) (pe_ix ix_list (pv 0) pe_int (fun _ _ => rfl)))
    (pss_cons (ps_asg (pe_ix ix_list (pe_lst (pa_cons pe_int (pa_cons (pv 2) pa_nil))) (pe_callTy call_int1 (by rfl) B.int PyProof.Rows.Boot.«int» (pa_cons (pe_cmpR op_ge (pv 2) (pe_op op_pow pe_int pe_int) (nomark _)) pa_nil)) (fun _ _ => rfl)) (pg_sub (pv 0) pe_int set_list))
    (pss_one (ps_expr (pe_bm PySem.F.plainAttrs_list PySem.F.slot_list_extend PySem.F.type_list_extend mt_extend (pv 0) (pa_cons (pe_lst (pa_cons (pe_op op_mod (pv 2) pe_int) (pa_cons pe_int pa_nil))) pa_nil)))))) pss_nil)
   (pss_cons (ps_if (pt_cmpR op_gt (pe_ix ix_list (pv 0) pe_int (fun _ _ => rfl)) pe_int (nomark _))
    (pss_cons (ps_set (i := 3) scDigit.nd rfl (Or.inl rfl) (pe_op op_mod (pe_ix ix_list (pv 0) pe_int (fun _ _ => rfl)) (pv 1)))
    (pss_cons (ps_asg (pe_op op_fdiv (pe_ix ix_list (pv 0) pe_int (fun _ _ => rfl)) (pv 1)) (pg_sub (pv 0) pe_int set_list))
    (pss_one (ps_ret (pv 3))))) pss_nil)
   (pss_cons (ps_asg (pe_op op_add (pe_ix ix_list (pv 0) pe_int (fun _ _ => rfl)) pe_int) (pg_sub (pv 0) pe_int set_list))
   (pss_cons (ps_set (i := 4) scDigit.nd rfl (Or.inl rfl) (pe_op op_mod (pe_op op_mul (pe_op op_add (pe_op op_add (pe_ix ix_list (pv 0) pe_int (fun _ _ => rfl)) (pe_op op_mul pe_int (pe_ix ix_list (pv 0) pe_int (fun _ _ => rfl)))) pe_int) pe_int) pe_int))
   (pss_cons (ps_set (i := 4) scDigit.nd rfl (Or.inl rfl) (pe_op op_mod (pe_op op_mul (pv 4) (pe_op op_add (pe_op op_fdiv (pv 4) pe_int) pe_int)) pe_int))
   (pss_one (ps_ret (pe_op op_mod (pe_op op_mod (pe_op op_mul (pv 4) (pe_op op_add (pe_op op_fdiv (pv 4) pe_int) pe_int)) pe_int) (pv 1)))))))), ?_⟩
  rcases st with ⟨n, hl0⟩ | ⟨n, m, c, hl⟩
  case' inl =>
   refine ⟨_, rfl, l, _, rfl, .inl (.of hl0), rfl, _, rfl, iteT ?_⟩
   refine ⟨_, rfl, l, _, _, _, rfl, rfl, .of hl0, rfl, ?_⟩
   refine ⟨_, rfl, by show 2 <= sizeLine; decide, fun p hp => ?_⟩
   have lp : l ≠ p := ne_of_none hl0 hp
   refine ⟨_, rfl, _, _, rfl, rfl, ⟨by decide, by decide, by decide⟩, _, _, rfl, rfl, .inr ⟨_, rfl, ?_⟩⟩
   obtain ⟨n', hn'⟩ := pick2 (n := n) (decide ((10 : Int) ^ (18 : Int).toNat <= n))
   refine ⟨p, _, _, _, rfl, rfl, .of upd_same, hn', ?_⟩
   refine ⟨_, rfl, l, _, _, 0, rfl, rfl, by rw [upd_ne lp]; exact hl0, rfl, ?_⟩
   have hl1 : (upd (upd H p (.lst [.int 0, .int n])) l (.lst ([V.int n].set 0 (.int n')))) l = some (.lst [.int n']) := upd_same
   have bt1 : But l H (upd (upd H p (.lst [.int 0, .int n])) l (.lst ([V.int n].set 0 (.int n')))) := (But.of (Same.new hp)).trans But.upd
   generalize (upd (upd H p (.lst [.int 0, .int n])) l (.lst ([V.int n].set 0 (.int n')))) = Ha at hl1 bt1 ⊢
   refine ⟨_, rfl, .inl ⟨rfl, _, .of hl1⟩, _, rfl, _, _, rfl, rfl, by show (0 : Int) < 2147483647; decide, by show 2 <= sizeLine; decide, fun q hq => ?_⟩
   refine ⟨l, q, _, _, rfl, rfl, Same.new hq _ _ hl1, upd_same, by show 1 + 2 <= sizeLine; decide, ?_⟩
   have bt : But l H (upd (upd Ha q (.lst [.int (n % 2147483647), .int 0])) l (.lst ([.int n'] ++ [.int (n % 2147483647), .int 0]))) := bt1.trans ((But.of (Same.new hq)).trans But.upd)
   have hl : (upd (upd Ha q (.lst [.int (n % 2147483647), .int 0])) l (.lst ([.int n'] ++ [.int (n % 2147483647), .int 0]))) l = some (.lst [.int n', .int (n % 2147483647), .int 0]) := upd_same
   generalize (upd (upd Ha q (.lst [.int (n % 2147483647), .int 0])) l (.lst ([.int n'] ++ [.int (n % 2147483647), .int 0]))) = H1 at bt hl ⊢
  case' inr =>
   refine ⟨_, rfl, l, _, rfl, .inl (.of hl), rfl, _, rfl, iteF ?_⟩
   have bt := But.refl l H
  all_goals
   refine ⟨_, rfl, l, _, _, _, rfl, rfl, .of hl, rfl, _, _, rfl, rfl, _, rfl, ?_⟩
   refine ite2 (fun c => ?_) (fun c => ?_)
   ·refine ⟨_, rfl, l, _, _, _, rfl, rfl, .of hl, rfl, _, rfl, _, _, rfl, rfl, h0, ?_⟩
    refine ⟨_, rfl, l, _, _, _, rfl, rfl, .of hl, rfl, _, rfl, _, _, rfl, rfl, ⟨h0, h1⟩, _, rfl, l, _, _, 0, rfl, rfl, hl, rfl, ?_⟩
    exact ⟨_, rfl, k _ _ (Int.emod_nonneg _ (by omega)) (Int.emod_lt_of_pos _ h0) (bt.trans But.upd) (.inr ⟨_, _, _, upd_same⟩)⟩
   ·refine ⟨_, rfl, l, _, _, _, rfl, rfl, .of hl, rfl, _, _, rfl, rfl, _, rfl, l, _, _, 2, rfl, rfl, hl, rfl, ?_⟩
    refine ⟨_, rfl, l, _, _, _, rfl, rfl, .of upd_same, rfl, _, rfl, l, _, _, _, rfl, rfl, .of upd_same, rfl, _, _, rfl, rfl, .inl ⟨by decide, by decide⟩, _, _, rfl, rfl, _, _, rfl, rfl, _, _, rfl, rfl, .inr ⟨by decide, by decide⟩, _, _, rfl, rfl, by show (0 : Int) < 2147483647; decide, ?_⟩
    refine ⟨_, rfl, _, rfl, _, _, rfl, rfl, ⟨by decide, by decide⟩, _, _, rfl, rfl, _, _, rfl, rfl, .inl (small _), _, _, rfl, rfl, by show (0 : Int) < 2147483647; decide, ?_⟩
    refine ⟨_, rfl, _, rfl, _, _, rfl, rfl, ⟨by decide, by decide⟩, _, _, rfl, rfl, _, _, rfl, rfl, .inl (small _), _, _, rfl, rfl, by show (0 : Int) < 2147483399; decide, _, rfl, _, _, rfl, rfl, h0, ?_⟩
    exact k _ _ (Int.emod_nonneg _ (by omega)) (Int.emod_lt_of_pos _ h0) (bt.trans But.upd) (.inr ⟨_, _, _, upd_same⟩)
end
end Ev
set_option Elab.async false
set_option linter.all false
set_option maxRecDepth 100000
namespace Ev
open PySem L2
theorem pa_s {X : Cx} {x : Str} {j : Nat} {pos : Pos} {es : List Expr} {t : TA} (hr : PA X es t) : PA X (.Constant (.str x) j pos :: es) (tCons (tC (.str x)) t) := pa_cons pe_str hr (by rfl)
def strC : Expr -> Option Str
 | .Constant (.str x) _ _ => some x
 | _ => none
def tStrs (xs : List Str) : TA := fun _ H Q => Q (xs.map V.str) H
theorem pa_strs {X : Cx} : ∀ {es : List Expr} {xs : List Str}, es.map strC = xs.map some -> PA X es (tStrs xs)
 | [], [], _ => pa_nil
 | [], _ :: _, h => by cases h
 | _ :: _, [], h => by cases h
 | e :: es, x :: xs, h => by
  rw [List.map_cons, List.map_cons] at h
  obtain ⟨h1, h2⟩ := List.cons.inj h
  have ih := pa_strs (X := X) h2
  unfold strC at h1
  split at h1
  ·cases h1
   exact pa_s ih
  ·cases h1
def wordsL : List Str := ["hand", "tie", "piece", "yard", "free", "fixed", "none", "tick", "come", "go", "rest", "run", "show", "ok"]
theorem words_nd : wordsL.Nodup := by decide +kernel
theorem words_ok : ∀ n ∈ wordsL, nameB n = true := by decide +kernel
structure Nm (m : Nat) (ns : List Str) : Prop where
 len : ns.length = m
 nd : ns.Nodup
 ok : ∀ n ∈ ns, nameB n = true
 end_ : ∀ n ∈ ns, n ∈ wordsL ∨ ∃ k, k < m /\ n.cps.toList.getLast? = some (97 + k % 26)
theorem cut_drop (ns : List Str) (k : Nat) (h : k <= ns.length) : cutV (ns.map V.str) (some (k : Int)) none = (ns.drop k).map V.str := by
 unfold cutV
 rw [HT.sIx_nat, HT.sIx_none, List.length_map, Nat.min_eq_left h, List.map_drop, List.take_of_length_le]
 rw [List.length_drop, List.length_map]
 omega
theorem nm_words {m t : Nat} (hm : m < 15) (ht : t <= 14) : Nm m ((wordsL.drop t ++ wordsL.take t).take m) := by
 have p : (wordsL.drop t ++ wordsL.take t).Perm wordsL := List.perm_append_comm.trans (by rw [List.take_append_drop])
 have sub := List.take_sublist m (wordsL.drop t ++ wordsL.take t)
 have hl : (wordsL.drop t ++ wordsL.take t).length = 14 := p.length_eq
 refine ⟨?_, sub.nodup (p.nodup_iff.mpr words_nd), fun n hn => words_ok n (p.mem_iff.mp (sub.subset hn)), fun n hn => .inl (p.mem_iff.mp (sub.subset hn))⟩
 rw [List.length_take, hl]
 omega
def Tl (m k : Nat) (n : Str) : Prop := nameB n = true /\ ∃ w : List Nat, n.cps.toList = w ++ (if 26 < m then [97 + k / 26] else []) ++ [97 + k % 26]
theorem tl_inj {m i j : Nat} {n : Str} (hm : m <= 676) (hi : i < m) (hj : j < m) (a : Tl m i n) (b : Tl m j n) : i = j := by
 obtain ⟨_, w1, e1⟩ := a
 obtain ⟨_, w2, e2⟩ := b
 rw [e1] at e2
 have l := congrArg List.getLast? e2
 rw [List.getLast?_append, List.getLast?_append] at l
 simp at l
 by_cases h : 26 < m
 ·rw [if_pos h, if_pos h] at e2
  have z := List.append_inj' e2 rfl
  have z2 := List.append_inj' z.1 rfl
  have := (List.cons.inj z2.2).1
  omega
 ·omega
theorem nm_tails {m : Nat} {ns : List Str} (hm : m <= 676) (hl : ns.length = m) (h : ∀ k n, ns[k]? = some n -> Tl m k n) : Nm m ns := by
 refine ⟨hl, ?_, fun n hn => ?_, fun n hn => ?_⟩
 ·rw [List.nodup_iff_pairwise_ne, List.pairwise_iff_getElem]
  intro i j hi hj lt e
  have a := h i _ (List.getElem?_eq_getElem hi)
  have b := h j _ (List.getElem?_eq_getElem hj)
  rw [e] at a
  have := tl_inj hm (by omega) (by omega) a b
  omega
 ·obtain ⟨k, hk, e⟩ := List.getElem_of_mem hn
  exact (h k n (by rw [List.getElem?_eq_getElem hk, e])).1
 ·obtain ⟨k, hk, e⟩ := List.getElem_of_mem hn
  obtain ⟨_, w, e2⟩ := h k n (by rw [List.getElem?_eq_getElem hk, e])
  refine .inr ⟨k, by omega, ?_⟩
  rw [e2, List.getLast?_append]
  rfl
theorem abc_nth {q : Nat} (h : q < 26) : atI ("abcdefghijklmnopqrstuvwxyz" : Str).cps.toList (q : Int) = some (97 + q) := by
 rw [abc_list, atI_nat (by omega) (by show (q : Int) < ((26 : Nat) : Int); omega), Int.toNat_natCast]
 have all : ∀ i : Fin 26, [97,98,99,100,101,102,103,104,105,106,107,108,109,110,111,112,113,114,115,116,117,118,119,120,121,122][i.val]? = some (97 + i.val) := by decide +kernel
 exact all ⟨q, h⟩
theorem app_chars (x : Str) (c : Nat) : (x ++ (⟨#[c]⟩ : Str)).cps.toList = x.cps.toList ++ [c] := PySem.W.KT.app_list _ _
theorem len_chars (x : Str) : x.length = x.cps.toList.length := by rw [Array.length_toList]; rfl
theorem okc_abc {q : Nat} (h : q < 26) : okc (97 + q) = true := by
 unfold okc
 rw [decide_eq_true (by omega), decide_eq_true (by omega)]
 rfl
section
variable {P : Program} {w : World} {K : PySem.W.Frag} {mg : Str -> Option Value} {base : Heap}
theorem scNames : FnScope ["_law_state", "_law_many", "_law_letters", "_law_words", "_law_turn", "_law_names_here", "_law_k", "_law_word", "_law_j"] ["_law_state", "_law_many"] (defScope sNames) := ⟨rfl, rfl, rfl, by decide +kernel, rfl, by decide +kernel, by decide +kernel⟩
def spNames : Sp := fun vs H Q _ => ∃ (l : Addr) (m : Nat), vs = [.ref l, .int m] /\ m <= 30 /\ stt H l /\ ∀ (a : Addr) (ns : List Str) (H' : Hp), But l H H' -> stt H' l -> H a = none -> H' a = some (.lst (ns.map V.str)) -> Nm m ns -> Q (.ref a) H'
set_option maxHeartbeats 800000 in
theorem ok_names {f : Addr} {fd : FuncData} (F : Fun K "_law_names" "_law_names" sNames f fd) (B : Bi mg) (cD : Cal P w K mg base 1 "_law_digit" ["_law_state", "_law_base"] spDigit) : FnOk P w K mg base CX0 2 f fd ["_law_state", "_law_many"] spNames := by
 refine F.ok scNames (fun vs H Q E h => ?_) (fun cdv A outer s H vs Q E hr h => ?_)
 ·obtain ⟨l, m, rfl, _⟩ := h
  rfl
 ·obtain ⟨l, m, rfl, m30, st, k⟩ := h
  have sz := sizeLine_eq
  refine' ⟨_, ?u0, ?kk⟩
  case' u0 => refine' pss_cons ?u1 ?u2
  case u1 => exact ps_set (i := 2) scNames.nd rfl (Or.inl rfl) pe_str
  case' u2 => refine' pss_cons ?u3 ?u4
  case' u3 => refine' ps_set (i := 3) ?u5 ?u6 ?u7 ?u8
  case u5 => exact scNames.nd
  case u6 => exact rfl
  case u7 => exact Or.inl rfl
  case' u8 => refine' pe_lst ?u9
  first | (case' u9 => refine' pa_strs (xs := wordsL) ?u10) | (case' u8 => refine' pa_strs (xs := wordsL) ?u10)
  first | (case u10 => exact by decide +kernel) | (case u9 => exact by decide +kernel)
  case' u4 => refine' pss_cons ?u11 ?u12
  case' u11 => refine' ps_if ?u13 ?u14 ?u15
  case' u13 => refine' PW.pt ?u16
  first | (case' u16 => refine' pw_and ?u17 ?u18) | (case' u13 => refine' pw_and ?u17 ?u18)
  case u17 => exact pt_cmpR op_lt (pv 1) pe_int (nomark _)
  case u18 => exact pw_and1 (pt_cmpR op_eq (pe_fn cD hr (pa_cons (pv 0) (pa_cons pe_int pa_nil))) pe_int (nomark _))
  case' u14 => refine' pss_cons ?u19 ?u20
  case u19 => exact ps_set (i := 4) scNames.nd rfl (Or.inl rfl) (pe_fn cD hr (pa_cons (pv 0) (pa_cons pe_int pa_nil)))
  case' u20 => refine' pss_one ?u21
  first | (case' u21 => refine' ps_ret ?u22) | (case' u20 => refine' ps_ret ?u22)
  first | (case' u22 => refine' pe_slice ?u23 ?u24 ?u25 ?u26) | (case' u21 => refine' pe_slice ?u23 ?u24 ?u25 ?u26)
  case u23 => exact sl_list
  case u24 => exact pe_op op_cat (pe_slice sl_list (pv 3) (po_some (pv 4)) po_none) (pe_slice sl_list (pv 3) po_none (po_some (pv 4)))
  case u25 => exact po_none
  case u26 => exact po_some (pv 1)
  case u15 => exact pss_nil
  case' u12 => refine' pss_cons ?u27 ?u28
  case u27 => exact ps_set (i := 5) scNames.nd rfl (Or.inl rfl) (pe_lst pa_nil)
  case' u28 => refine' pss_cons ?u29 ?u30
  case' u29 => refine' ps_for ?u31 ?u32 ?u33 ?u34 ?u35
  case u31 => exact PassesOwn.never
  case u32 => exact rfl
  case u33 => exact pi_range1 (by rfl) B.range (pa_cons (pv 1) pa_nil)
  case u34 => exact pg_name (i := 6) scNames.nd rfl (Or.inl rfl)
  case' u35 => refine' pss_cons ?u36 ?u37
  case u36 => exact ps_set (i := 7) scNames.nd rfl (Or.inl rfl) pe_str
  case' u37 => refine' pss_cons ?u38 ?u39
  case' u38 => refine' ps_for ?u40 ?u41 ?u42 ?u43 ?u44
  case u40 => exact PassesOwn.never
  case u41 => exact rfl
  case' u42 => refine' pi_range1 ?u45 ?u46 ?u47
  case u45 => exact by rfl
  case u46 => exact B.range
  case u47 => exact pa_cons (pe_fn cD hr (pa_cons (pv 0) (pa_cons (pe_op op_sub pe_int (pe_op op_fdiv (pv 1) pe_int)) pa_nil))) pa_nil
  case u43 => exact pg_name (i := 8) scNames.nd rfl (Or.inl rfl)
  case' u44 => refine' pss_one ?u48
  first | (case' u48 => refine' ps_set (i := 7) ?u49 ?u50 ?u51 ?u52) | (case' u44 => refine' ps_set (i := 7) ?u49 ?u50 ?u51 ?u52)
  case u49 => exact scNames.nd
  case u50 => exact rfl
  case u51 => exact Or.inl rfl
  case u52 => exact pe_op op_add_str (pv 7) (pe_ix ix_str (pv 2) (pe_fn cD hr (pa_cons (pv 0) (pa_cons pe_int pa_nil))) (fun _ _ => rfl))
  case' u39 => refine' pss_cons ?u53 ?u54
  case' u53 => refine' ps_if ?u55 ?u56 ?u57
  case u55 => exact pt_cmpR op_gt (pv 1) pe_int (nomark _)
  case' u56 => refine' pss_one ?u58
  first | (case' u58 => refine' ps_set (i := 7) ?u59 ?u60 ?u61 ?u62) | (case' u56 => refine' ps_set (i := 7) ?u59 ?u60 ?u61 ?u62)
  case u59 => exact scNames.nd
  case u60 => exact rfl
  case u61 => exact Or.inl rfl
  case u62 => exact pe_op op_add_str (pv 7) (pe_ix ix_str (pv 2) (pe_op op_fdiv (pv 6) pe_int) (fun _ _ => rfl))
  case u57 => exact pss_nil
  case' u54 => refine' pss_one ?u63
  first | (case' u63 => refine' ps_expr ?u64) | (case' u54 => refine' ps_expr ?u64)
  first | (case' u64 => refine' pe_bm ?u65 ?u66 ?u67 ?u68 ?u69 ?u70) | (case' u63 => refine' pe_bm ?u65 ?u66 ?u67 ?u68 ?u69 ?u70)
  case u65 => exact PySem.F.plainAttrs_list
  case u66 => exact PySem.F.slot_list_append
  case u67 => exact PySem.F.type_list_append
  case u68 => exact mt_append
  case u69 => exact pv 5
  case u70 => exact pa_cons (pe_op op_add_str (pv 7) (pe_ix ix_str (pv 2) (pe_op op_mod (pv 6) pe_int) (fun _ _ => rfl))) pa_nil
  case u30 => exact pss_one (ps_ret (pv 5))
  case' kk => skip
  refine ⟨by show 14 <= sizeLine; decide, fun lw hlw => ?_⟩
  have hw0 : upd H lw (.lst (wordsL.map V.str)) lw = some (.lst (wordsL.map V.str)) := upd_same
  have s0 : Same H (upd H lw (.lst (wordsL.map V.str))) := Same.new hlw
  have lwl : lw ≠ l := by
   obtain ⟨xs, e⟩ := st.some
   exact (ne_of_none e hlw).symm
  have st0 := st.same s0
  show tSeq _ _ _ _ (upd H lw (.lst (wordsL.map V.str)))
  generalize upd H lw (.lst (wordsL.map V.str)) = H0 at hw0 s0 st0 ⊢
  refine ⟨_, rfl, _, _, rfl, rfl, _, rfl, ?_⟩
  refine ite2 (fun c => ?yes) (fun c => ?no)
  case' yes =>
   refine ⟨_, rfl, l, 8, rfl, by decide, by decide, st0, fun r H1 r0 r8 b1 st1 => ⟨rfl, _, rfl, ?_⟩⟩
   refine ite2 (fun c2 => ?words) (fun c2 => ?more)
  case words =>
   have c : m < 15 := by
    have : (m : Int) < 15 := by simpa using c
    omega
   have hw1 := b1 _ _ hw0 lwl
   refine ⟨_, rfl, l, 14, rfl, by decide, by decide, st1, fun t H2 t0 t14 b2 st2 => ?_⟩
   have hw2 := b2 _ _ hw1 lwl
   obtain ⟨t, rfl⟩ := Int.eq_ofNat_of_zero_le t0
   have t14 : t < 14 := by omega
   refine ⟨_, rfl, _, rfl, _, rfl, lw, _, rfl, .of hw2, fun p1 hp1 => ?_⟩
   rw [cut_drop _ _ (by show t <= 14; omega)]
   have s3 := Same.new (o := .lst ((wordsL.drop t).map V.str)) hp1
   refine ⟨_, rfl, _, rfl, _, rfl, lw, _, rfl, .of (s3 _ _ hw2), fun p2 hp2 => ?_⟩
   rw [cut_take]
   have s4 := Same.new (o := .lst ((wordsL.take t).map V.str)) hp2
   refine ⟨p1, p2, _, _, rfl, rfl, s4 _ _ upd_same, upd_same, ?_, fun p3 hp3 => ?_⟩
   ·rw [List.length_map, List.length_map, List.length_drop, List.length_take]
    show 14 - t + min t 14 <= sizeLine
    omega
   have s5 := Same.new (o := .lst ((wordsL.drop t).map V.str ++ (wordsL.take t).map V.str)) hp3
   refine ⟨_, rfl, _, rfl, p3, _, rfl, .of upd_same, fun p4 hp4 => ?_⟩
   have e : cutV ((wordsL.drop t).map V.str ++ (wordsL.take t).map V.str) none (some (m : Int)) = ((wordsL.drop t ++ wordsL.take t).take m).map V.str := by
    rw [<- List.map_append, cut_take]
   rw [e]
   have s6 := s3.trans (s4.trans s5)
   have b6 := (But.of s0).trans (b1.trans (b2.trans (But.of s6)))
   have st6 := st2.same s6
   exact k p4 _ _ (b6.trans (But.of (Same.new hp4))) (st6.same (Same.new hp4)) (b6.free st6 hp4) upd_same (nm_words c (by omega))
  case' no =>
   generalize hH : H0 = H1
   have b1 : But l H0 H1 := by rw [hH]; exact But.refl l H1
   have st1 : stt H1 l := by rw [<- hH]; exact st0
  all_goals
   refine ⟨by show 0 <= sizeLine; decide, fun a ha => ?_⟩
   have s2 := Same.new (o := .lst []) ha
   have b0 : But l H H1 := (But.of s0).trans b1
   have ha0 : H a = none := b0.free st1 ha
   have hla : l ≠ a := by
    obtain ⟨xs, e⟩ := st1.some
    exact ne_of_none e ha
   refine ⟨_, rfl, _, rfl, by show (-(2 ^ 62) : Int) <= (m : Int); omega, by show (m : Int) < (2 ^ 62 : Int); omega, ?_⟩
   refine for_range (lo := 0) (n := (m : Int).toNat) (fun i σ H2 => ∃ (v4 v6 v7 v8 : Option V) (ns : List Str), σ = [some (.ref l), some (.int m), some (.str "abcdefghijklmnopqrstuvwxyz"), some (.ref lw), v4, some (.ref a), v6, v7, v8] /\ But l H H2 /\ stt H2 l /\ H2 a = some (.lst (ns.map V.str)) /\ ns.length = i /\ ∀ k n, ns[k]? = some n -> Tl m k n)
    ⟨_, _, _, _, [], rfl, b0.trans (But.of s2), st1.same s2, upd_same, rfl, fun k n e => by simp at e⟩ ?_ ?_
   ·rintro i σ H2 hi ⟨v4, v6, v7, v8, ns, rfl, b2, st2, ha2, ln, tl⟩
    rw [Int.zero_add]
    have hi : i < m := by omega
    refine ⟨_, rfl, _, rfl, _, _, rfl, rfl, ⟨by decide, by decide⟩, _, _, rfl, rfl, l, 8 - (m : Int) / 27, rfl, by omega, by omega, st2, fun r H3 r0 rb b3 st3 => ⟨_, rfl, by show (-(2 ^ 62) : Int) <= r; omega, by show r < (2 ^ 62 : Int); omega, ?_⟩⟩
    refine for_range (lo := 0) (n := r.toNat) (fun j σ H4 => ∃ (x : Str) (v8 : Option V), σ = [some (.ref l), some (.int m), some (.str "abcdefghijklmnopqrstuvwxyz"), some (.ref lw), v4, some (.ref a), some (.int i), some (.str x), v8] /\ But l H H4 /\ stt H4 l /\ H4 a = some (.lst (ns.map V.str)) /\ x.length = j /\ x.cps.toList.all okc = true)
     ⟨"", _, rfl, b2.trans b3, st3, b3 _ _ ha2 hla.symm, rfl, rfl⟩ ?_ ?_
    ·rintro j σ H4 hj ⟨x, v8, rfl, b4, st4, ha4, hx, ho⟩
     refine ⟨_, rfl, _, rfl, _, rfl, l, 26, rfl, by decide, by decide, st4, fun q H5 q0 q26 b5 st5 => ?_⟩
     obtain ⟨c, hc, oc⟩ := abc_at q0 q26
     refine ⟨_, _, _, rfl, rfl, by decide +kernel, hc, _, _, rfl, rfl, ?_, _, _, rfl, b4.trans b5, st5, b5 _ _ ha4 hla.symm, ?_, ?_⟩
     ·have : (⟨#[c]⟩ : Str).length = 1 := rfl
      omega
     ·rw [len_chars, app_chars, List.length_append, <- len_chars, hx]
      rfl
     ·rw [app_chars, List.all_append, ho]
      simp [oc]
    ·rintro σ H4 ⟨x, v8, rfl, b4, st4, ha4, hx, ho⟩
     refine ⟨_, rfl, _, _, rfl, rfl, _, rfl, ?_⟩
     refine ite2 (fun c3 => ?_) (fun c3 => ?_)
     have c3 : 26 < m := by
      have : (26 : Int) < (m : Int) := by simpa using c3
      omega
     have hc3 : atI ("abcdefghijklmnopqrstuvwxyz" : Str).cps.toList ((i : Int) / 26) = some (97 + i / 26) := by
      have := abc_nth (q := i / 26) (by omega)
      rw [<- this]
      congr 1
     refine ⟨_, rfl, _, rfl, _, rfl, _, _, rfl, rfl, ⟨by decide, by decide⟩, _, _, _, rfl, rfl, by decide +kernel, hc3, _, _, rfl, rfl, by show x.length + 1 <= sizeLine; omega, ?_⟩
     have ex : (x ++ (⟨#[97 + i / 26]⟩ : Str)).cps.toList = x.cps.toList ++ (if 26 < m then [97 + i / 26] else []) := by rw [if_pos c3]; exact app_chars _ _
     generalize x ++ (⟨#[97 + i / 26]⟩ : Str) = x' at ex ⊢
     rotate_left 1
     have c3 : ¬ 26 < m := by
      have : ¬ (26 : Int) < (m : Int) := by simpa using c3
      omega
     have ex : x.cps.toList = x.cps.toList ++ (if 26 < m then [97 + i / 26] else []) := by rw [if_neg c3, List.append_nil]
     obtain ⟨x', hx'⟩ : ∃ x' : Str, x' = x := ⟨_, rfl⟩
     rw [<- hx']
     have ex : x'.cps.toList = x.cps.toList ++ (if 26 < m then [97 + i / 26] else []) := by rw [hx']; exact ex
     all_goals
      have hc4 : atI ("abcdefghijklmnopqrstuvwxyz" : Str).cps.toList ((i : Int) % 26) = some (97 + i % 26) := by
       have := abc_nth (q := i % 26) (Nat.mod_lt _ (by decide))
       rw [<- this]
       congr 1
      have lx : x'.length <= 7 := by
       rw [len_chars, ex, List.length_append, <- len_chars, hx]
       by_cases hm : 26 < m
       ·rw [if_pos hm]
        show r.toNat + 1 <= 7
        omega
       ·rw [if_neg hm]
        show r.toNat + 0 <= 7
        omega
      refine ⟨_, rfl, .inl ⟨rfl, _, .of ha4⟩, _, rfl, _, rfl, _, rfl, _, _, rfl, rfl, by show (0 : Int) < 26; decide, _, _, _, rfl, rfl, by decide +kernel, hc4, _, _, rfl, rfl, ?_, a, _, _, rfl, rfl, ha4, ?_, ?_⟩
      ·have : (⟨#[97 + i % 26]⟩ : Str).length = 1 := rfl
       omega
      ·rw [List.length_map]
       omega
      ·refine ⟨_, _, _, _, ns ++ [x' ++ (⟨#[97 + i % 26]⟩ : Str)], rfl, fun b o e ne => ?_, ?_, ?_, ?_, fun kk n hn => ?_⟩
       ·rw [upd_ne (ne_of_none e ha0)]
        exact b4 _ _ e ne
       ·unfold stt
        rw [upd_ne hla]
        exact st4
       ·rw [upd_same, List.map_append]
        rfl
       ·rw [List.length_append, ln]
        rfl
       ·by_cases hk : kk < ns.length
        ·rw [List.getElem?_append_left hk] at hn
         exact tl kk n hn
        ·have hk2 : kk = i := by
          have := (List.getElem?_eq_some_iff.mp hn).1
          rw [List.length_append] at this
          simp only [List.length_singleton] at this
          omega
         subst hk2
         rw [List.getElem?_append_right (by omega), ln, Nat.sub_self] at hn
         have hn : x' ++ (⟨#[97 + kk % 26]⟩ : Str) = n := by simpa using hn
         subst hn
         have ey : (x' ++ (⟨#[97 + kk % 26]⟩ : Str)).cps.toList = x'.cps.toList ++ [97 + kk % 26] := app_chars _ _
         refine ⟨?_, x.cps.toList, by rw [ey, ex]⟩
         unfold nameB
         rw [len_chars, ey, List.length_append, <- len_chars, decide_eq_true (by show 1 <= x'.length + 1; omega), decide_eq_true (by show x'.length + 1 <= 8; omega), List.all_append, ex, List.all_append, ho]
         have o1 : ([97 + kk % 26] : List Nat).all okc = true := by simp [okc_abc (Nat.mod_lt kk (show 0 < 26 by decide))]
         have o2 : (if 26 < m then [97 + kk / 26] else ([] : List Nat)).all okc = true := by
          by_cases hm : 26 < m
          ·rw [if_pos hm]
           simp [okc_abc (show kk / 26 < 26 by omega)]
          ·rw [if_neg hm]
           rfl
         rw [o1, o2]
         rfl
   ·rintro σ H2 ⟨v4, v6, v7, v8, ns, rfl, b2, st2, ha2, ln, tl⟩
    exact ⟨_, rfl, k a ns H2 b2 st2 ha0 ha2 (nm_tails (by omega) (by omega) tl)⟩
end
end Ev
set_option Elab.async false
set_option linter.all false
set_option maxRecDepth 100000
namespace Ev
open PySem L2
theorem cutV_take (ys : List V) (k : Nat) : cutV ys none (some (k : Int)) = ys.take k := by
 unfold cutV
 rw [HT.sIx_none, HT.sIx_nat, List.drop_zero, Nat.sub_zero]
 by_cases h : k <= ys.length
 ·rw [Nat.min_eq_left h]
 ·rw [Nat.min_eq_right (by omega), List.take_of_length_le (Nat.le_refl _), List.take_of_length_le (by omega)]
theorem cutV_drop (ys : List V) (k : Nat) : cutV ys (some (k : Int)) none = ys.drop k := by
 unfold cutV
 rw [HT.sIx_nat, HT.sIx_none]
 by_cases h : k <= ys.length
 ·rw [Nat.min_eq_left h, List.take_of_length_le (by rw [List.length_drop]; omega)]
 ·rw [Nat.min_eq_right (by omega), List.drop_eq_nil_of_le (Nat.le_refl _), List.drop_eq_nil_of_le (by omega), List.take_nil]
theorem paired_take {α β : Type} {F : α -> β -> Prop} : ∀ {ys : List α} {ks : List β} (n : Nat), Paired F ys ks -> Paired F (ys.take n) (ks.take n)
 | _, _, 0, _ => .nil
 | _, _, _ + 1, .nil => .nil
 | _, _, n + 1, .cons a t => .cons a (paired_take n t)
theorem paired_drop {α β : Type} {F : α -> β -> Prop} : ∀ {ys : List α} {ks : List β} (n : Nat), Paired F ys ks -> Paired F (ys.drop n) (ks.drop n)
 | _, _, 0, h => h
 | _, _, _ + 1, .nil => .nil
 | _, _, n + 1, .cons _ t => paired_drop n t
theorem paired_app {α β : Type} {F : α -> β -> Prop} : ∀ {ys ys' : List α} {ks ks' : List β}, Paired F ys ks -> Paired F ys' ks' -> Paired F (ys ++ ys') (ks ++ ks')
 | _, _, _, _, .nil, h => h
 | _, _, _, _, .cons a t, h => .cons a (paired_app t h)
theorem rot_perm {α : Type} (l : List α) (t : Nat) : (l.drop t ++ l.take t).Perm l := List.perm_append_comm.trans (by rw [List.take_append_drop])
theorem hit3 {α : Type} {p : α -> Prop} {a b c : α} {r : Int} (h0 : 0 <= r) (h1 : r < 3) (ha : p a) (hb : p b) (hc : p c) : ∃ x, atI [a, b, c] r = some x /\ p x := by
 have : r = 0 ∨ r = 1 ∨ r = 2 := by omega
 rcases this with rfl | rfl | rfl
 ·exact ⟨_, rfl, ha⟩
 ·exact ⟨_, rfl, hb⟩
 ·exact ⟨_, rfl, hc⟩
structure TJ (ns : List Str) (k q : Nat) (ts : List (Str × Str)) : Prop where
 at' : ∀ t ∈ ts, ∃ (a b : Nat) (x y : Str), a < b /\ (a < k ∨ (a = k /\ b < k + 1 + q)) /\ ns[a]? = some x /\ ns[b]? = some y /\ (t = (x, y) ∨ t = (y, x))
 nd : (ts.map kO).Nodup
 len : ts.length <= 7 * k + q
theorem TJ.skip {ns : List Str} {k j : Nat} {ts : List (Str × Str)} (h : TJ ns k j ts) : TJ ns k (j + 1) ts :=
 ⟨fun t ht => let ⟨a, b, x, y, h1, h2, h3, h4, h5⟩ := h.at' t ht; ⟨a, b, x, y, h1, by omega, h3, h4, h5⟩, h.nd, by have := h.len; omega⟩
theorem TJ.next {ns : List Str} {k q : Nat} {ts : List (Str × Str)} (h : TJ ns k q ts) (h7 : q <= 7) : TJ ns (k + 1) 0 ts :=
 ⟨fun t ht => let ⟨a, b, x, y, h1, h2, h3, h4, h5⟩ := h.at' t ht; ⟨a, b, x, y, h1, by omega, h3, h4, h5⟩, h.nd, by have := h.len; omega⟩
theorem TJ.add {ns : List Str} {k q : Nat} {ts : List (Str × Str)} (h : TJ ns k q ts) (nd : ns.Nodup) {x y : Str} {t : Str × Str} (hx : ns[k]? = some x) (hy : ns[k + 1 + q]? = some y) (ht : t = (x, y) ∨ t = (y, x)) : TJ ns k (q + 1) (ts ++ [t]) := by
 refine ⟨fun u hu => ?_, ?_, by have := h.len; rw [List.length_append]; simp only [List.length_singleton]; omega⟩
 ·rcases List.mem_append.mp hu with hu | hu
  ·exact h.skip.at' u hu
  ·obtain rfl : u = t := by simpa using hu
   exact ⟨k, k + 1 + q, x, y, by omega, .inr ⟨rfl, by omega⟩, hx, hy, ht⟩
 ·rw [List.map_append]
  refine nd_snoc h.nd fun m => ?_
  obtain ⟨u, hu, e⟩ := List.mem_map.mp m
  obtain ⟨a, b, c, d, h1, h2, h3, h4, h5⟩ := h.at' u hu
  have key : (c = x /\ d = y) ∨ (c = y /\ d = x) := by
   rcases h5 with rfl | rfl <;> rcases ht with rfl | rfl <;> rcases kO_two e with ⟨q1, q2⟩ | ⟨q1, q2⟩ <;> simp_all
  rcases key with ⟨rfl, rfl⟩ | ⟨rfl, rfl⟩
  ·have := nth_inj nd h3 hx
   have := nth_inj nd h4 hy
   omega
  ·have := nth_inj nd h3 hy
   have := nth_inj nd h4 hx
   omega
theorem TJ.good {ns : List Str} {k j : Nat} {ts : List (Str × Str)} (h : TJ ns k j ts) (nd : ns.Nodup) (ok : ∀ n ∈ ns, nameB n = true) : ∀ t ∈ ts, goodT t /\ t.1 ∈ ns /\ t.2 ∈ ns := fun t ht => by
 obtain ⟨a, b, x, y, h1, h2, h3, h4, h5⟩ := h.at' t ht
 have mx := List.mem_of_getElem? h3
 have my := List.mem_of_getElem? h4
 have ne : x ≠ y := fun e => by
  subst e
  have := nth_inj nd h3 h4
  omega
 rcases h5 with rfl | rfl
 ·exact ⟨⟨ok _ mx, ok _ my, ne⟩, mx, my⟩
 ·exact ⟨⟨ok _ my, ok _ mx, ne.symm⟩, my, mx⟩
def EndB (m : Nat) (n : Str) : Prop := n ∈ wordsL ∨ ∃ k, k < m /\ n.cps.toList.getLast? = some (97 + k % 26)
section
variable {P : Program} {w : World} {K : PySem.W.Frag} {mg : Str -> Option Value} {base : Heap}
theorem scLWeb : FnScope ["_law_state", "_law_most", "_law_names_here", "_law_hands", "_law_thin", "_law_ties", "_law_k", "_law_one", "_law_other", "_law_turn"] ["_law_state", "_law_most"] (defScope sLWeb) := ⟨rfl, rfl, rfl, by decide +kernel, rfl, by decide +kernel, by decide +kernel⟩
def spLWeb (K : PySem.W.Frag) : Sp := fun vs H Q _ => ∃ (l : Addr), vs = [.ref l, .int 8] /\ stt H l /\ ∀ (t lh lt : Addr) (ys zs : List V) (hs : List (Str × Int)) (ts : List (Str × Str)) (H' : Hp), But l H H' -> stt H' l -> H' t = some (.tup [.ref lh, .ref lt]) -> H lh = none -> H lt = none -> lh ≠ lt ->
 H' lh = some (.lst ys) -> TupsAt K H' ys (hs.map kH) -> H' lt = some (.lst zs) -> TupsAt K H' zs (ts.map kT) -> Good hs ts -> (∀ n ∈ hs.map (·.1), EndB 8 n) -> Q (.ref t) H'
theorem ok_lweb {f : Addr} {fd : FuncData} (F : Fun K "_law_web" "_law_web" sLWeb f fd) (B : Bi mg) (cD : Cal P w K mg base 1 "_law_digit" ["_law_state", "_law_base"] spDigit) (cN : Cal P w K mg base 2 "_law_names" ["_law_state", "_law_many"] spNames) : FnOk P w K mg base CX0 3 f fd ["_law_state", "_law_most"] (spLWeb K) := by
 refine F.ok scLWeb (fun vs H Q E h => ?_) (fun cdv A outer s H vs Q E hr h => ?_)
 ·obtain ⟨l, rfl, _⟩ := h
  rfl
 ·obtain ⟨l, rfl, st, k⟩ := h
  have sz := sizeLine_eq
  have hr1 : Room 1 _ := hr.mono (by decide)
  refine' ⟨_, pss_cons (ps_set (i := 2) scLWeb.nd rfl (Or.inl rfl) (pe_fn cN hr (pa_cons (pv 0) (pa_cons (pe_op op_add pe_int (pe_fn cD hr1 (pa_cons (pv 0) (pa_cons (pv 1) pa_nil)))) pa_nil))))
   (pss_cons (ps_setC (i := 3) ["_law_name", "_law_state"] 1 [0] scLWeb.nd rfl (Or.inl rfl) (pi_list (pv 2)) (fun fp s H => pg_name (i := 0) (show (["_law_name", "_law_state"] : List Str).Nodup by decide +kernel) rfl (Or.inl rfl)) (fun fp s H => pts_nil)
    (fun fp s H => ?he))
   (pss_cons (ps_set (i := 4) scLWeb.nd rfl (Or.inl rfl) (pe_op op_add pe_int (pe_fn cD hr1 (pa_cons (pv 0) (pa_cons pe_int pa_nil)))))
   (pss_cons (ps_set (i := 5) scLWeb.nd rfl (Or.inl rfl) (pe_lst pa_nil))
   (pss_cons (ps_for PassesOwn.never rfl (pi_enum (by rfl) B.enum (pa_cons (pv 2) pa_nil)) (pg_tup rfl (pgs_cons (pg_name (i := 6) scLWeb.nd rfl (Or.inl rfl)) (pgs_cons (pg_name (i := 7) scLWeb.nd rfl (Or.inl rfl)) pgs_nil)))
    (pss_one (ps_for PassesOwn.never rfl (pi_list (pe_slice sl_list (pv 2) (po_some (pe_op op_add (pv 6) pe_int)) po_none)) (pg_name (i := 8) scLWeb.nd rfl (Or.inl rfl))
     (pss_one (ps_if (pt_cmpR op_eq (pe_fn cD hr1 (pa_cons (pv 0) (pa_cons (pv 4) pa_nil))) pe_int (nomark _))
      (pss_one (ps_expr (pe_bm PySem.F.plainAttrs_list PySem.F.slot_list_append PySem.F.type_list_append mt_append (pv 5) (pa_cons (pe_ix ix_list (pe_lst (pa_cons (pe_tup (pa_cons (pv 7) (pa_cons (pv 8) pa_nil))) (pa_cons (pe_tup (pa_cons (pv 8) (pa_cons (pv 7) pa_nil))) pa_nil))) (pe_fn cD hr1 (pa_cons (pv 0) (pa_cons pe_int pa_nil))) (fun _ _ => rfl)) pa_nil))))
      pss_nil)))))
   (pss_cons (ps_set (i := 9) scLWeb.nd rfl (Or.inl rfl) (pe_fn cD hr1 (pa_cons (pv 0) (pa_cons (pe_callB call_len_seq (by rfl) B.len PySem.boot_len (pa_cons (pv 3) pa_nil)) pa_nil))))
   (pss_one (ps_ret (pe_tup (pa_cons (pe_op op_cat (pe_slice sl_list (pv 3) (po_some (pv 9)) po_none) (pe_slice sl_list (pv 3) po_none (po_some (pv 9)))) (pa_cons (pv 5) pa_nil)))))))))), ?_⟩
  case he => exact pe_tup (pa_cons (pv 0) (pa_cons (pe_op op_add pe_int (pe_fn cD hr1 (pa_cons (pv 1) (pa_cons (pe_ix (ixK (K := K) rIxL ix_list) (pe_lst (pa_cons pe_int (pa_cons pe_int (pa_cons pe_int pa_nil)))) (pe_fn cD hr1 (pa_cons (pv 1) (pa_cons pe_int pa_nil))) (fun _ _ => rfl)) pa_nil)))) pa_nil))
  refine ⟨_, rfl, _, rfl, _, rfl, l, 8, rfl, by decide, by decide, st, fun r H1 r0 r8 b1 st1 => ⟨_, _, rfl, rfl, ?_⟩⟩
  obtain ⟨r, rfl⟩ := Int.eq_ofNat_of_zero_le r0
  refine ⟨l, 1 + r, by show [V.ref l, V.int (1 + (r : Int))] = [V.ref l, V.int ((1 + r : Nat) : Int)]; rw [Int.natCast_add]; rfl, by omega, st1, fun ln ns H2 b2 st2 fn hn2 N => ?_⟩
  have n8 : ns.length <= 8 := by rw [N.len]; omega
  have n1 : 1 <= ns.length := by rw [N.len]; omega
  have lnl : ln ≠ l := fun e => by
   subst e
   obtain ⟨xs, e2⟩ := st1.some
   rw [fn] at e2
   cases e2
  refine ⟨_, rfl, ln, rfl, ⟨_, .of hn2⟩, fun lh0 hlh0 => ?_⟩
  have lh0l : lh0 ≠ l := by
   obtain ⟨xs, e⟩ := st2.some
   exact (ne_of_none e hlh0).symm
  refine comp_list (own := 1) (fv := [some (.ref l)]) (xs := ns.map V.str) rfl gok1 (fun i out H' => ∃ hs : List (Str × Int), But l H2 H' /\ stt H' l /\ H' lh0 = some (.lst out) /\ TupsAt K H' out (hs.map kH) /\ hs.map (·.1) = ns.take i /\ ∀ h ∈ hs, 1 <= h.2 /\ h.2 <= 1000) ⟨[], But.of (Same.new hlh0), st2.same (Same.new hlh0), upd_same, .nil, rfl, by simp⟩ (fun i out H' _ ⟨_, b, _⟩ => .of (b _ _ hn2 lnl)) (fun ys0 H3 ⟨hs0, b3, st3, hh3, tu3, en, gh⟩ => ?_) (fun i x out H' hx ⟨hs, b, stx, hD, tu, en, gh⟩ => ?_)
  rotate_left 1
  ·obtain ⟨n, hn, rfl⟩ := map_get_str hx
   have li : out.length = i := by
    have h1 := Paired.length tu
    rw [List.length_map] at h1
    have h2 := congrArg List.length en
    rw [List.length_map, List.length_take] at h2
    have := (List.getElem?_eq_some_iff.mp hn).1
    omega
   have hi := (List.getElem?_eq_some_iff.mp hn).1
   refine ⟨_, rfl, rfl, fun Nx hN => yesT ?_⟩
   refine ⟨_, rfl, _, rfl, by show 3 <= sizeLine; decide, fun p hp => ?_⟩
   have s4 := Same.new (o := .lst [.int 3, .int 12, .int 1000]) hp
   have lp : p ≠ l := by
    obtain ⟨xs, e⟩ := stx.some
    exact (ne_of_none e hp).symm
   refine ⟨_, rfl, l, 3, rfl, by decide, by decide, stx.same s4, fun r1 H5 q0 q1 b5 st5 => ?_⟩
   obtain ⟨y, hy, bb, eb, e1, e2⟩ := hit3 (p := fun y : V => ∃ n : Int, y = .int n /\ 0 < n /\ n <= 1000) (a := V.int 3) (b := .int 12) (c := .int 1000) q0 q1 ⟨3, rfl, by decide, by decide⟩ ⟨12, rfl, by decide, by decide⟩ ⟨1000, rfl, by decide, by decide⟩
   subst eb
   refine ⟨p, _, _, _, rfl, rfl, .of (b5 _ _ upd_same lp), hy, l, bb, rfl, e1, by omega, st5, fun r2 H6 q2 q3 b6 st6 => ⟨_, _, rfl, rfl, by show 2 <= sizeLine; decide, fun t ht => ?_⟩⟩
   have b36 : But l H' H6 := (But.of s4).trans (b5.trans b6)
   have hD6 := b36 _ _ hD lh0l
   have s7 := Same.new (o := .tup [.str n, .int (1 + r2)]) ht
   obtain ⟨xs0, hlx⟩ := stx.some
   have tu6 := tups_keep tu b36 hlx
   have tt : upd H6 t (.tup [.str n, .int (1 + r2)]) t = some (.tup ((kH (n, 1 + r2)).map kV)) := upd_same
   refine ⟨out, s7 _ _ hD6, by omega, hN _ _ ⟨hs ++ [(n, 1 + r2)], fun b' o e ne => ?_, ?_, upd_same, ?_, ?_, fun h hh => ?_⟩⟩
   ·rw [upd_ne (ne_of_none e hlh0)]
    exact s7 _ _ (b36 _ _ (b _ _ e ne) ne)
   ·have := st6.same s7
    unfold stt
    rw [upd_ne lh0l.symm]
    exact this
   ·rw [List.map_append]
    exact tups_but (tups_snoc (tu6.same s7) tt) (s7 _ _ hD6)
   ·rw [List.map_append, en, List.take_add_one, hn]
    rfl
   ·rcases List.mem_append.mp hh with hh | hh
    ·exact gh h hh
    ·obtain rfl : h = (n, 1 + r2) := by simpa using hh
     exact ⟨by show 1 <= 1 + r2; omega, by show 1 + r2 <= 1000; omega⟩
  rw [List.length_map, List.take_length] at en
  have ln3 := b3 _ _ hn2 lnl
  have lh0n : H2 lh0 = none := hlh0
  refine ⟨_, rfl, l, 4, rfl, by decide, by decide, st3, fun r3 H4 q0 q1 b4 st4 => ⟨_, _, rfl, rfl, ?_⟩⟩
  refine ⟨by show 0 <= sizeLine; decide, fun a ha => ?_⟩
  have s5 := Same.new (o := .lst []) ha
  have hla : l ≠ a := by
   obtain ⟨xs, e⟩ := st4.some
   exact ne_of_none e ha
  have ln4 := b4 _ _ ln3 lnl
  have hh4 := b4 _ _ hh3 lh0l
  have lna : ln ≠ a := ne_of_none ln4 ha
  have lha : lh0 ≠ a := ne_of_none hh4 ha
  have B4 : But l H H4 := b1.trans (b2.trans (b3.trans b4))
  have ha0 : H a = none := B4.free st4 ha
  have hlh00 : H lh0 = none := (b1.trans b2).free st2 hlh0
  obtain ⟨xs3, hl3⟩ := st3.some
  have tu4 := tups_keep tu3 b4 hl3
  let Iv : Nat -> Nat -> Hp -> Prop := fun kk q H' => ∃ zs ts, But l H H' /\ stt H' l /\ H' ln = some (.lst (ns.map V.str)) /\ H' lh0 = some (.lst ys0) /\ TupsAt K H' ys0 (hs0.map kH) /\ H' a = some (.lst zs) /\ TupsAt K H' zs (ts.map kT) /\ TJ ns kk q ts
  refine ⟨_, rfl, ln, rfl, ⟨_, .of (s5 _ _ ln4)⟩, for_enum (K := K) (a := ln) (xs := ns.map V.str) (fun i σ H' => ∃ (v6 v7 v8 v9 : Option V), σ = [some (.ref l), some (.int 8), some (.ref ln), some (.ref lh0), some (.int (1 + r3)), some (.ref a), v6, v7, v8, v9] /\ Iv i 0 H')
   ⟨none, none, none, none, rfl, [], [], B4.trans (But.of s5), st4.same s5, s5 _ _ ln4, s5 _ _ hh4, tu4.same s5, upd_same, .nil, ⟨by simp, .nil, Nat.zero_le _⟩⟩ (fun i σ H' _ ⟨_, _, _, _, _, _, _, _, _, q, _⟩ => .of q) ?_ ?_⟩
  ·rintro i x σ H6 hx ⟨v6, v7, v8, v9, rfl, zs6, ts6, b6, st6, hn6, hh6, th6, ha6, tu6, tj6⟩ u hu
   obtain ⟨one, hone, rfl⟩ := map_get_str hx
   have hi : i < ns.length := (List.getElem?_eq_some_iff.mp hone).1
   have s7 : Same H6 (upd H6 u (.tup [.int i, .str one])) := Same.new hu
   have hu7 : upd H6 u (.tup [.int i, .str one]) u = some (.tup [.int i, .str one]) := upd_same
   refine ⟨u, _, rfl, .of hu7, rfl, _, _, rfl, _, _, rfl, rfl, ?_⟩
   generalize upd H6 u (.tup [.int i, .str one]) = H7 at s7 hu7 ⊢
   refine ⟨_, rfl, _, rfl, _, _, rfl, rfl, _, rfl, ln, _, rfl, .of (s7 _ _ hn6), fun p hp => ?_⟩
   have ec : cutV (ns.map V.str) (some ((i : Int) + 1)) none = (ns.drop (i + 1)).map V.str := cut_drop ns (i + 1) (by omega)
   rw [ec]
   have s8 : Same H7 (upd H7 p (.lst ((ns.drop (i + 1)).map V.str))) := Same.new hp
   have lp : l ≠ p := by
    obtain ⟨xs, e⟩ := (st6.same s7).some
    exact ne_of_none e hp
   have pa : p ≠ a := (ne_of_none (s7 _ _ ha6) hp).symm
   have s78 := s7.trans s8
   refine ⟨p, rfl, ⟨_, .of upd_same⟩, for_list (K := K) (a := p) (xs := (ns.drop (i + 1)).map V.str) (fun j σ H' => ∃ (v8 v9 : Option V), σ = [some (.ref l), some (.int 8), some (.ref ln), some (.ref lh0), some (.int (1 + r3)), some (.ref a), some (.int i), some (.str one), v8, v9] /\ H' p = some (.lst ((ns.drop (i + 1)).map V.str)) /\ Iv i j H')
    ⟨_, _, rfl, upd_same, zs6, ts6, b6.trans (But.of s78), st6.same s78, s78 _ _ hn6, s78 _ _ hh6, th6.same s78, s78 _ _ ha6, tu6.same s78, tj6⟩ (fun j σ H' _ ⟨_, _, _, q, _⟩ => .of q) ?_ ?_⟩
   ·rintro j y σ H9 hy ⟨v8, v9, rfl, hp9, zs9, ts9, b9, st9, hn9, hh9, th9, ha9, tu9, tj9⟩
    obtain ⟨o, ho, rfl⟩ := map_get_str hy
    rw [List.getElem?_drop] at ho
    refine ⟨_, rfl, _, rfl, l, 1 + r3, rfl, by omega, by omega, st9, fun r4 H10 q2 q3 b10 st10 => ⟨rfl, _, rfl, ?_⟩⟩
    obtain ⟨xs9, hl9⟩ := st9.some
    have hn10 := b10 _ _ hn9 lnl
    have hh10 := b10 _ _ hh9 lh0l
    have ha10 := b10 _ _ ha9 hla.symm
    have hp10 := b10 _ _ hp9 lp.symm
    have tu10 := tups_keep tu9 b10 hl9
    have th10 := tups_keep th9 b10 hl9
    refine ite2 (fun c => ?_) (fun c => ?_)
    ·refine ⟨_, rfl, .inl ⟨rfl, _, .of ha10⟩, _, rfl, _, rfl, by show 2 <= sizeLine; decide, fun t1 ht1 => ?_⟩
     have s11 := Same.new (o := .tup [.str one, .str o]) ht1
     refine ⟨_, rfl, _, rfl, by show 2 <= sizeLine; decide, fun t2 ht2 => ?_⟩
     have s12 := Same.new (o := .tup [.str o, .str one]) ht2
     refine ⟨by show 2 <= sizeLine; decide, fun lx hlx => ?_⟩
     have s13 := Same.new (o := .lst [.ref t1, .ref t2]) hlx
     have s14 := (s11.trans s12).trans s13
     have st13 := st10.same s14
     refine ⟨_, rfl, l, 2, rfl, by decide, by decide, st13, fun r5 H14 q4 q5 b14 st14 => ?_⟩
     have lxl : lx ≠ l := by
      obtain ⟨xs, e⟩ := (st10.same (s11.trans s12)).some
      exact (ne_of_none e hlx).symm
     have hlx14 := b14 _ _ (show upd (upd (upd H10 t1 (.tup [.str one, .str o])) t2 (.tup [.str o, .str one])) lx (.lst [.ref t1, .ref t2]) lx = _ from upd_same) lxl
     obtain ⟨xs13, hl13⟩ := st13.some
     have ht1' := s13 _ _ (s12 _ _ (show upd H10 t1 (.tup [.str one, .str o]) t1 = _ from upd_same))
     have ht2' := s13 _ _ (show upd (upd H10 t1 (.tup [.str one, .str o])) t2 (.tup [.str o, .str one]) t2 = _ from upd_same)
     have ht1'' := b14 _ _ ht1' (ne_of ht1' hl13 (by intro z; cases z))
     have ht2'' := b14 _ _ ht2' (ne_of ht2' hl13 (by intro z; cases z))
     have pick : ∃ (t : Addr) (tt : Str × Str), atI [V.ref t1, V.ref t2] r5 = some (.ref t) /\ H14 t = some (.tup ((kT tt).map kV)) /\ (tt = (one, o) ∨ tt = (o, one)) := by
      rcases hit2 (a := V.ref t1) (b := V.ref t2) q4 q5 with e | e
      ·exact ⟨t1, (one, o), e, ht1'', .inl rfl⟩
      ·exact ⟨t2, (o, one), e, ht2'', .inr rfl⟩
     obtain ⟨t, tt, et, ht, etc⟩ := pick
     have b1014 : But l H10 H14 := (But.of s14).trans b14
     obtain ⟨xs10, hl10⟩ := st10.some
     have ha14 := b1014 _ _ ha10 hla.symm
     have hn14 := b1014 _ _ hn10 lnl
     have hh14 := b1014 _ _ hh10 lh0l
     have hp14 := b1014 _ _ hp10 lp.symm
     have tu14 := tups_keep tu10 b1014 hl10
     have th14 := tups_keep th10 b1014 hl10
     have lz := Paired.length tu9
     rw [List.length_map] at lz
     have tl := tj9.len
     have hj : j < 8 := by
      have := (List.getElem?_eq_some_iff.mp ho).1
      omega
     refine ⟨lx, _, _, _, rfl, rfl, .of hlx14, et, a, _, _, rfl, rfl, ha14, by omega, ?_⟩
     refine ⟨_, _, rfl, by rw [upd_ne pa]; exact hp14, _, ts9 ++ [tt], fun b o e ne => ?_, ?_, by rw [upd_ne lna]; exact hn14, by rw [upd_ne lha]; exact hh14, tups_but th14 ha14, upd_same, ?_, tj9.add N.nd hone ho etc⟩
     ·rw [upd_ne (ne_of_none e ha0)]
      exact b1014 _ _ (b10 _ _ (b9 _ _ e ne) ne) ne
     ·unfold stt
      rw [upd_ne hla]
      exact st14
     ·rw [List.map_append]
      exact tups_but (tups_snoc tu14 ht) ha14
    ·exact ⟨_, _, rfl, hp10, zs9, ts9, b9.trans b10, st10, hn10, hh10, th10, ha10, tu10, tj9.skip⟩
   ·rintro σ H9 ⟨v8, v9, rfl, hp9, zs9, ts9, b9, st9, hn9, hh9, th9, ha9, tu9, tj9⟩
    exact ⟨_, _, _, _, rfl, zs9, ts9, b9, st9, hn9, hh9, th9, ha9, tu9, tj9.next (by rw [List.length_map, List.length_drop]; omega)⟩
  ·rintro σ H6 ⟨v6, v7, v8, v9, rfl, zs6, ts6, b6, st6, hn6, hh6, th6, ha6, tu6, tj6⟩
   rw [List.length_map] at tj6
   have ly : ys0.length = ns.length := by
    have h1 := Paired.length th6
    rw [List.length_map] at h1
    have h2 := congrArg List.length en
    rw [List.length_map] at h2
    omega
   refine ⟨_, rfl, _, rfl, lh0, _, rfl, .inl (.of hh6), l, _, rfl, by show (0 : Int) < (ys0.length : Int); omega, by show (ys0.length : Int) < 1073741824; omega, st6, fun tn H7 q0 q1 b7 st7 => ?_⟩
   obtain ⟨tn, rfl⟩ := Int.eq_ofNat_of_zero_le q0
   obtain ⟨xs6, hl6⟩ := st6.some
   have hh7 := b7 _ _ hh6 lh0l
   have ha7 := b7 _ _ ha6 hla.symm
   have tu7 := tups_keep tu6 b7 hl6
   have th7 := tups_keep th6 b7 hl6
   refine ⟨_, rfl, _, rfl, _, rfl, lh0, _, rfl, .of hh7, fun p1 hp1 => ?_⟩
   rw [cutV_drop]
   have s8 := Same.new (o := .lst (ys0.drop tn)) hp1
   refine ⟨_, rfl, _, rfl, _, rfl, lh0, _, rfl, .of (s8 _ _ hh7), fun p2 hp2 => ?_⟩
   rw [cutV_take]
   have s9 := Same.new (o := .lst (ys0.take tn)) hp2
   refine ⟨p1, p2, _, _, rfl, rfl, s9 _ _ upd_same, upd_same, by rw [List.length_drop, List.length_take]; omega, fun p3 hp3 => ?_⟩
   have s10 := Same.new (o := .lst (ys0.drop tn ++ ys0.take tn)) hp3
   have s710 := s8.trans (s9.trans s10)
   refine ⟨_, rfl, by show 2 <= sizeLine; decide, fun t ht => ?_⟩
   have s11 := Same.new (o := .tup [.ref p3, .ref a]) ht
   have s711 := s710.trans s11
   have b67 := b6.trans b7
   have perm := rot_perm hs0 tn
   have pm := perm.map (·.1)
   have gt := tj6.good N.nd N.ok
   have mem : ∀ n, n ∈ (hs0.drop tn ++ hs0.take tn).map (·.1) ↔ n ∈ ns := fun n => by rw [pm.mem_iff, en]
   refine k t p3 a _ zs6 (hs0.drop tn ++ hs0.take tn) ts6 _ (b67.trans (But.of s711)) (st7.same s711) upd_same ((b67.trans (But.of (s8.trans s9))).free (st7.same (s8.trans s9)) hp3) ha0 (fun e => ?_) (s11 _ _ upd_same) ?_ (s711 _ _ ha7) (tu7.same s711) ⟨fun h hh => ?_, ?_, ?_, ?_, fun t ht => (gt t ht).1, tj6.nd, by have := tj6.len; omega, fun t ht => ⟨(mem _).mpr (gt t ht).2.1, (mem _).mpr (gt t ht).2.2⟩⟩ fun n hn => ?_
   ·subst e
    rw [(s8.trans s9) _ _ ha7] at hp3
    cases hp3
   ·rw [List.map_append, List.map_drop, List.map_take]
    have tt7 : TupsAt K H7 (ys0.drop tn ++ ys0.take tn) ((hs0.map kH).drop tn ++ (hs0.map kH).take tn) := paired_app (paired_drop tn th7) (paired_take tn th7)
    exact tt7.same s711
   ·have hm := perm.mem_iff.mp hh
    obtain ⟨g1, g2⟩ := gh h hm
    exact ⟨N.ok _ (by rw [<- en]; exact List.mem_map.mpr ⟨h, hm, rfl⟩), g1, g2⟩
   ·refine pm.nodup_iff.mpr ?_
    rw [en]
    exact N.nd
   ·have := pm.length_eq
    rw [List.length_map, en] at this
    omega
   ·have := pm.length_eq
    rw [List.length_map, en] at this
    omega
   ·rcases N.end_ n ((mem n).mp hn) with z | ⟨kk, h1, h2⟩
    ·exact .inl z
    ·exact .inr ⟨kk, by omega, h2⟩
end
end Ev
set_option Elab.async false
set_option linter.all false
set_option maxRecDepth 100000
namespace HT
open PySem PySem.Spec PyProof.Rows
section
variable {prog : Program} {w : World} {A : Around} {E : Value -> Shared -> Prop} {s : Shared}
theorem getItem_rev2 {t sl : Addr} {a b : Value} {u : Tok} {Q : Value -> Shared -> Prop} (ht : IsTup s.heap t #[a, b]) (hs : s.heap.IsSliceOf sl .none .none (.int (-1) u))
  (h : Q (.ref s.heap.objs.size) { s with heap := s.heap.push { cls := .type "tuple", data := .seq #[b, a] } }) : wpAny (model prog w) A (getItem (.ref t) (.ref sl)) Q E s := by
 have htake : sizeOk (.seq #[b, a]) := by
  show 2 <= sizeLine
  decide
 obtain ⟨os, hos, hcs, hds⟩ := id hs
 have hTs : s.TypeIs (.ref sl) "slice" := ⟨os, hos, hcs⟩
 unfold getItem
 try with_reducible refine wpAny_holding ?_
 first | refine wpAny_bind (wpAny_pure ?_) | skip
 refine wpAny_bind (wpAny_sequenceKey ht.typeIs (by decide) ?_)
 refine wpAny_bind (wpAny_callSpecial?_slot (name := Str.ofString "__getitem__") ht.typeIs PyProof.Rows.slot_tuple_getitem
  (wpAny_call_entry PyProof.Rows.slot_tuple_getitem ht.typeIs entry_tuple_getitem ?_ (args_tuple_getitem _ _)))
 show wpAny _ _ (Builtin.Tuple.tupleItemsOf (.ref t) >>= _) _ _ s
 refine wpAny_bind (tupleItemsOf_ ht ?_)
 refine wpAny_bind (wpAny_typeOf hTs ?_)
 rw [if_pos (by decide)]
 have ap : ∀ {A' : Around} {E' : Value -> Shared -> Prop} {R : Int × Int × Nat -> Shared -> Prop}, R (1, -1, 2) s -> wpAny (model prog w) A' (Builtin.Slice.sliceApplied (.ref sl) (pure ((#[a, b] : Array Value).size : Int))) R E' s := by
  intro A' E' R hR
  unfold Builtin.Slice.sliceApplied Builtin.Slice.sliceFields
  refine wpAny_bind (wpAny_bind (wpAny_field hos hds (x := .none) rfl (wpAny_bind (wpAny_field hos hds (x := .none) rfl (wpAny_bind (wpAny_field hos hds (x := .int (-1) u) rfl (wpAny_pure ?_)))))))
  refine wpAny_bind (slicePart_int ?_)
  show wpAny _ _ (if ((-1 : Int) == 0) = true then _ else _) _ _ s
  rw [if_neg (by decide)]
  exact wpAny_bind (slicePart_none (wpAny_bind (slicePart_none (wpAny_bind (wpAny_pure (wpAny_pure (by with_unfolding_all exact hR)))))))
 refine wpAny_bind (ap ?_)
 show wpAny _ _ (if ((1 : Int) == 0 && (-1 : Int) == 1 && (2 : Nat) == 2) = true then _ else _) _ _ s
 rw [if_neg (by decide)]
 have e : (List.filterMap (fun (k : Nat) => (#[a, b] : Array Value)[((1 : Int) + (k : Int) * -1).toNat]?) (List.range 2)).toArray = #[b, a] := by with_unfolding_all rfl
 rw [e]
 first
  | exact wpAny_bind (m := Builtin.Tuple.tupleExact _) (wpAny_newObj_type (wpAny_pure ⟨_, rfl, wpAny_pure h⟩) htake)
  | exact wpAny_bind (m := Builtin.Tuple.tupleExact _) (wpAny_newObj_type (wpAny_bind (wpAny_pure (wpAny_pure ⟨_, rfl, wpAny_pure h⟩))) htake)
  | exact wpAny_bind (wpAny_bind (m := Builtin.Tuple.tupleExact _) (wpAny_newObj_type (wpAny_pure (wpAny_pure ⟨_, rfl, wpAny_pure h⟩)) htake))
  | exact wpAny_bind (wpAny_bind (m := Builtin.Tuple.tupleExact _) (wpAny_newObj_type (wpAny_pure ⟨_, rfl, wpAny_pure h⟩) htake))
end
end HT
namespace L2
open PySem PySem.Spec PyProof.Rows
section
variable {X : Cx} {e st : Expr} {te ts : TE} {pos p2 : Pos}
def tRev2 (K : PySem.W.Frag) (te ts : TE) : TE := fun σ H Q => te σ H fun x H1 => ts σ H1 fun y H2 => y = .int (-1) /\ ∃ a u v, x = .ref a /\ SqT K H2 a [u, v] /\ ∀ p, H2 p = none -> Q (.ref p) (upd H2 p (.tup [v, u]))
theorem pe_rev2 (he : PE X e te) (hs : PE X st ts) : PE X (.Subscript e (.Slice none none (some st) p2) pos) (tRev2 X.K te ts) := by
 intro pins s σ H Q I h
 refine Subscript_ (thn (he pins s σ H _ I h) fun v s1 ⟨x, H1, I1, r1, q1⟩ => ?_)
 refine wpAny_Slice ?_
 rw [evalPart_none]
 refine wpAny_pure (wpAny_pure ?_)
 rw [evalPart_some]
 refine thn (hs pins s1 σ H1 _ I1 q1) fun vs s3 ⟨y, H3, I3, ry, ey, a, u, v', ex, hx, q⟩ => ?_
 subst ex ey
 obtain ⟨t, rfl⟩ := ry
 cases r1
 have I4 : Inv X pins σ H3 { s3 with heap := s3.heap.push { cls := .type "slice", data := .fields #[.none, .none, .int (-1) t] } } := I3.kept (t' := s3.toks) fun b ob q => Heap.get?_push_of_some _ q
 obtain ⟨its, r, ht, hz⟩ := I4.tuple hx
 obtain ⟨x1, x2, rfl, rx1, rx2⟩ := Vals.two r
 show wpAny (model X.prog X.w) X.A (subscriptTail e (.Slice none none (some st) p2) (.ref a) (.ref s3.heap.objs.size)) (EP X pins σ Q) X.xe { s3 with heap := s3.heap.push { cls := .type "slice", data := .fields #[.none, .none, .int (-1) t] } }
 refine tail_any (ops := [.ref a, .ref s3.heap.objs.size]) ht.typeIs PyProof.Rows.slot_tuple_getitem.lookup (HT.getItem_rev2 ht (Heap.IsSliceOf.new ..) ?_) (by with_unfolding_all rfl)
 refine ⟨.ref _, upd H3 _ (.tup [v', u]), I4.laid (t' := s3.toks) (fun b o e => Heap.get?_push_of_some _ e) (Nat.le_refl _) ?_, rfl, q _ (I4.hok.fresh (Nat.le_refl _))⟩
 exact ⟨by show 2 <= sizeLine; decide, [x2, x1], .cons rx2 (.cons rx1 .nil), ⟨_, Heap.get?_push_size _ rfl, rfl, _, rfl⟩, _, Heap.get?_push_size _ rfl, rfl⟩
theorem pe_rev2K {K : PySem.W.Frag} (he : PE X e te) (hs : PE X st ts) (hK : X.K = K := by rfl) : PE X (.Subscript e (.Slice none none (some st) p2) pos) (tRev2 K te ts) := by
 subst hK
 exact pe_rev2 he hs
end
end L2
set_option Elab.async false
set_option linter.all false
set_option maxRecDepth 100000
namespace Ev
open PySem L2
structure WaysOf (ts ws : List (Str × Str)) : Prop where
 good : ∀ w ∈ ws, goodT w
 nd : (ws.map kO).Nodup
 inn : ∀ w ∈ ws, kO w ∈ ts.map kO
 len : ws.length <= ts.length
theorem ways_of {ts us ws : List (Str × Str)} (good : ∀ t ∈ ts, goodT t) (nd : (ts.map kO).Nodup) (sub : us.Sublist ts) (p : Paired (fun w u => w = u ∨ w = (u.2, u.1)) ws us) : WaysOf ts ws := by
 have e : ws.map kO = us.map kO := by
  clear sub
  induction p with
  | nil => rfl
  | cons h _ ih =>
   rw [List.map_cons, List.map_cons, ih]
   rcases h with rfl | rfl
   ·rfl
   ·exact congrArg (· :: _) (kO_swap _ _)
 refine ⟨fun w hw => ?_, ?_, fun w hw => ?_, ?_⟩
 ·obtain ⟨i, hi, ew⟩ := List.getElem_of_mem hw
  have hl := Paired.length p
  have q := paired_get p i hi (by omega)
  rw [ew] at q
  have g := good _ (sub.subset (List.getElem_mem (show i < us.length by omega)))
  rcases q with q | q
  ·rw [q]
   exact g
  ·rw [q]
   exact ⟨g.2.1, g.1, g.2.2.symm⟩
 ·rw [e]
  exact (sub.map kO).nodup nd
 ·have : kO w ∈ ws.map kO := List.mem_map.mpr ⟨w, hw, rfl⟩
  rw [e] at this
  exact (sub.map kO).subset this
 ·rw [Paired.length p]
  exact sub.length_le
def WyAt (K : PySem.W.Frag) (H : Hp) (v : V) : Option (List (Str × Str)) -> Prop
 | none => v = .non
 | some ws => ∃ a ys, v = .ref a /\ H a = some (.lst ys) /\ TupsAt K H ys (ws.map kT)
theorem WyAt.same {K : PySem.W.Frag} {H H' : Hp} {v : V} {o : Option (List (Str × Str))} (h : WyAt K H v o) (s : Same H H') : WyAt K H' v o := by
 cases o with
 | none => exact h
 | some ws =>
  obtain ⟨a, ys, e, ha, t⟩ := h
  exact ⟨a, ys, e, s _ _ ha, t.same s⟩
section
variable {P : Program} {w : World} {K : PySem.W.Frag} {mg : Str -> Option Value} {base : Heap}
theorem scWays : FnScope ["_law_state", "_law_ties", "_law_some"] ["_law_state", "_law_ties"] (defScope sWays) := ⟨rfl, rfl, rfl, by decide +kernel, rfl, by decide +kernel, by decide +kernel⟩
def spWays (K : PySem.W.Frag) : Sp := fun vs H Q _ => ∃ (l lt : Addr) (zs : List V) (ts : List (Str × Str)), vs = [.ref l, .ref lt] /\ stt H l /\ H lt = some (.lst zs) /\ TupsAt K H zs (ts.map kT) /\ lt ≠ l /\ ts.length < 64 /\ (∀ t ∈ ts, goodT t) /\ (ts.map kO).Nodup /\
 ∀ (v : V) (o : Option (List (Str × Str))) (H' : Hp), But l H H' -> stt H' l -> WyAt K H' v o -> (∀ a, v = .ref a -> H a = none) -> (∀ ws, o = some ws -> WaysOf ts ws) -> Q v H'
theorem ok_ways {f : Addr} {fd : FuncData} (F : Fun K "_law_ways" "_law_ways" sWays f fd) (B : Bi mg) (cD : Cal P w K mg base 1 "_law_digit" ["_law_state", "_law_base"] spDigit) : FnOk P w K mg base CX0 2 f fd ["_law_state", "_law_ties"] (spWays K) := by
 refine F.ok scWays (fun vs H Q E h => ?_) (fun cdv A outer s H vs Q E hr h => ?_)
 ·obtain ⟨l, lt, zs, ts, rfl, _⟩ := h
  rfl
 ·obtain ⟨l, lt, zs, ts, rfl, st, hlt, tu, ltl, h64, good, nd, k⟩ := h
  have sz := sizeLine_eq
  have lz := Paired.length tu
  rw [List.length_map] at lz
  refine' ⟨_, pss_cons (ps_if (pt_cmpR op_gt (pe_fn cD hr (pa_cons (pv 0) (pa_cons pe_int pa_nil))) pe_int (nomark _)) (pss_one (ps_ret pe_non)) pss_nil)
   (pss_cons (ps_setC (i := 2) ["_law_tie", "_law_state"] 1 [0] scWays.nd rfl (Or.inl rfl) (pi_list (pv 1)) (fun fp s H => pg_name (i := 0) (show (["_law_tie", "_law_state"] : List Str).Nodup by decide +kernel) rfl (Or.inl rfl))
    (fun fp s H => ?ht) (fun fp s H => ?he1))
   (pss_one (ps_ret (pe_comp ["_law_tie", "_law_state"] 1 [0] (pi_list (pv 2)) (fun fp s H => pg_name (i := 0) (show (["_law_tie", "_law_state"] : List Str).Nodup by decide +kernel) rfl (Or.inl rfl)) (fun fp s H => pts_nil)
    (fun fp s H => ?he))))), ?_⟩
  case ht => exact pts_one (pt_cmpR op_eq (pe_fn cD hr (pa_cons (pv 1) (pa_cons pe_int pa_nil))) pe_int (nomark _))
  case he1 => exact pv 0
  case he => exact pe_ix (ixK (K := K) rIxL ix_list) (pe_lst (pa_cons (pv 0) (pa_cons (pe_rev2K (K := K) (pv 0) (pe_un un_neg pe_int)) pa_nil))) (pe_fn cD hr (pa_cons (pv 1) (pa_cons pe_int pa_nil))) (fun _ _ => rfl)
  refine ⟨_, rfl, l, 3, rfl, by decide, by decide, st, fun r H1 r0 r3 b1 st1 => ⟨_, _, rfl, rfl, _, rfl, ?_⟩⟩
  refine ite2 (fun c => ?_) (fun c => ?_)
  ·exact k .non none H1 b1 st1 rfl (fun a z => by cases z) (fun ws z => by cases z)
  obtain ⟨xs, hl⟩ := st.some
  have hlt1 := b1 _ _ hlt ltl
  have tu1 := tups_keep tu b1 hl
  refine ⟨_, rfl, lt, rfl, ⟨_, .of hlt1⟩, fun D hD => ?_⟩
  have Dl : D ≠ l := by
   obtain ⟨xs, e⟩ := st1.some
   exact (ne_of_none e hD).symm
  refine comp_list (own := 1) (fv := [some (.ref l)]) (xs := zs) rfl gok1 (fun i out H' => ∃ us : List (Str × Str), But l H1 H' /\ stt H' l /\ H' D = some (.lst out) /\ TupsAt K H' out (us.map kT) /\ us.Sublist (ts.take i)) ⟨[], But.of (Same.new hD), st1.same (Same.new hD), upd_same, .nil, List.nil_sublist _⟩ (fun i out H' _ ⟨_, b, _⟩ => .of (b _ _ hlt1 ltl)) (fun ys2 H2 ⟨us, b2, st2, hD2, tu2, sub⟩ => ?_) (fun i x out H' hx ⟨us, b, stx, hDx, tux, sub⟩ => ?_)
  rotate_left 1
  ·obtain ⟨t, ht, p, rfl, hp⟩ := paired_map tu1 hx
   refine ⟨_, rfl, rfl, fun Nx hN => ?_⟩
   refine ⟨_, rfl, l, 2, rfl, by decide, by decide, stx, fun r2 H4 q0 q1 b4 st4 => ⟨rfl, _, rfl, ?_⟩⟩
   obtain ⟨xsx, hlx⟩ := stx.some
   have tu4 := tups_keep tux b4 hlx
   have hD4 := b4 _ _ hDx Dl
   refine ite2 (fun c2 => ?_) (fun c2 => ?_)
   ·have lo := Paired.length tux
    rw [List.length_map] at lo
    have ls := sub.length_le
    rw [List.length_take] at ls
    have hp4 := b4 _ _ (b _ _ hp (ne_of hp (show H1 l = some _ from st1.some.choose_spec) (by intro z; cases z))) (by
     obtain ⟨xs1, e1⟩ := st1.some
     exact ne_of hp e1 (by intro z; cases z))
    refine ⟨_, rfl, out, hD4, by omega, hN _ _ ⟨us ++ [t], fun b' o e ne => ?_, ?_, upd_same, ?_, ?_⟩⟩
    ·rw [upd_ne (ne_of_none e hD)]
     exact b4 _ _ (b _ _ e ne) ne
    ·unfold stt
     rw [upd_ne Dl.symm]
     exact st4
    ·rw [List.map_append]
     exact tups_but (tups_snoc tu4 hp4) hD4
    ·rw [List.take_add_one, ht]
     exact sub.append (List.Sublist.refl _)
   ·refine hN _ _ ⟨us, b.trans b4, st4, hD4, tu4, sub.trans ?_⟩
    rw [List.take_add_one]
    exact List.sublist_append_left _ _
  rw [lz, List.take_length] at sub
  have lu := Paired.length tu2
  rw [List.length_map] at lu
  have ls := sub.length_le
  refine ⟨_, rfl, D, rfl, ⟨_, .of hD2⟩, fun a ha => ?_⟩
  have al : a ≠ l := by
   obtain ⟨xs, e⟩ := st2.some
   exact (ne_of_none e ha).symm
  have Da : D ≠ a := ne_of_none hD2 ha
  refine comp_list (own := 1) (fv := [some (.ref l)]) (xs := ys2) rfl gok1 (fun i out H' => ∃ ws : List (Str × Str), But l H2 H' /\ stt H' l /\ H' a = some (.lst out) /\ TupsAt K H' out (ws.map kT) /\ Paired (fun w u => w = u ∨ w = (u.2, u.1)) ws (us.take i)) ⟨[], But.of (Same.new ha), st2.same (Same.new ha), upd_same, .nil, .nil⟩ (fun i out H' _ ⟨_, b, _⟩ => .of (b _ _ hD2 Dl)) (fun ys3 H3 ⟨ws, b3, st3, ha3, tu3, pw⟩ => ?_) (fun i x out H' hx ⟨ws, b, stx, hax, tux, pw⟩ => ?_)
  ·rw [lu, List.take_length] at pw
   have b0 := b1.trans b2
   exact k (.ref a) (some ws) H3 (b0.trans b3) st3 ⟨a, ys3, rfl, ha3, tu3⟩ (fun c z => by cases z; exact b0.free st2 ha) (fun ws' z => by cases z; exact ways_of good nd sub pw)
  ·obtain ⟨t, ht, p, rfl, hp⟩ := paired_map tu2 hx
   have hi : i < us.length := (List.getElem?_eq_some_iff.mp ht).1
   obtain ⟨xs2, hl2⟩ := st2.some
   obtain ⟨xsx, hlx⟩ := stx.some
   have hpx := b _ _ hp (ne_of hp hl2 (by intro z; cases z))
   refine ⟨_, rfl, rfl, fun Nx hN => yesT ?_⟩
   refine ⟨_, rfl, _, rfl, _, rfl, rfl, p, _, _, rfl, .of (hpT hpx), fun q hq => ?_⟩
   have s4 := Same.new (o := .tup [.str t.2, .str t.1]) hq
   refine ⟨by show 2 <= sizeLine; decide, fun lx hlx' => ?_⟩
   have s5 := Same.new (o := .lst [.ref p, .ref q]) hlx'
   have s45 := s4.trans s5
   have st5 := stx.same s45
   have lxl : lx ≠ l := by
    obtain ⟨xs, e⟩ := (stx.same s4).some
    exact (ne_of_none e hlx').symm
   refine ⟨_, rfl, l, 2, rfl, by decide, by decide, st5, fun r2 H6 q0 q1 b6 st6 => ?_⟩
   obtain ⟨xs5, hl5⟩ := st5.some
   have hp5 := s45 _ _ hpx
   have hq5 := s5 _ _ (show upd H' q (.tup [.str t.2, .str t.1]) q = _ from upd_same)
   have hp6 := b6 _ _ hp5 (ne_of hp5 hl5 (by intro z; cases z))
   have hq6 := b6 _ _ hq5 (ne_of hq5 hl5 (by intro z; cases z))
   have hlx6 := b6 _ _ (show upd (upd H' q (.tup [.str t.2, .str t.1])) lx (.lst [.ref p, .ref q]) lx = _ from upd_same) lxl
   have pick : ∃ (c : Addr) (tt : Str × Str), atI [V.ref p, V.ref q] r2 = some (.ref c) /\ H6 c = some (.tup ((kT tt).map kV)) /\ (tt = t ∨ tt = (t.2, t.1)) := by
    rcases hit2 (a := V.ref p) (b := V.ref q) q0 q1 with e | e
    ·exact ⟨p, t, e, hp6, .inl rfl⟩
    ·exact ⟨q, (t.2, t.1), e, hq6, .inr rfl⟩
   obtain ⟨c, tt, et, hc, etc⟩ := pick
   have b16 : But l H' H6 := (But.of s45).trans b6
   have ha6 := b16 _ _ hax al
   have lo := Paired.length tux
   rw [List.length_map] at lo
   have lp := Paired.length pw
   rw [List.length_take] at lp
   refine ⟨lx, _, _, _, rfl, rfl, .of hlx6, et, out, ha6, by omega, hN _ _ ⟨ws ++ [tt], fun b' o e ne => ?_, ?_, upd_same, ?_, ?_⟩⟩
   ·rw [upd_ne (ne_of_none e ha)]
    exact b16 _ _ (b _ _ e ne) ne
   ·unfold stt
    rw [upd_ne al.symm]
    exact st6
   ·rw [List.map_append]
    exact tups_but (tups_snoc (tups_keep tux b16 hlx) hc) ha6
   ·rw [List.take_add_one, ht]
    exact paired_app pw (.cons etc .nil)
end
end Ev
set_option Elab.async false
set_option linter.all false
set_option maxRecDepth 100000
namespace Ev
open PySem L2
abbrev Pc := Str × Int × Option (List (Str × Str))
def PcAt (K : PySem.W.Frag) (H : Hp) (y : V) (p : Pc) : Prop := ∃ t v, y = .ref t /\ H t = some (.tup [.str p.1, .int p.2.1, v]) /\ WyAt K H v p.2.2
abbrev PcsAt (K : PySem.W.Frag) (H : Hp) (ys : List V) (ps : List Pc) : Prop := Paired (PcAt K H) ys ps
structure GoodP (ts : List (Str × Str)) (p : Pc) : Prop where
 nm : nameB p.1 = true
 w1 : 1 <= p.2.1
 w2 : p.2.1 <= 1000000000
 ws : ∀ ws, p.2.2 = some ws -> WaysOf ts ws
theorem tups_ne {K : PySem.W.Frag} {H : Hp} {a l : Addr} {ys : List V} {ks : List (List Key)} (t : TupsAt K H ys ks) (ha : H a = some (.lst ys)) (st : stt H l) : a ≠ l := fun e => by
 subst e
 rcases st with ⟨n, e⟩ | ⟨n, m, c, e⟩
 all_goals
  rw [ha] at e
  have e : ys = _ := HO.lst.inj (Option.some.inj e)
  subst e
  cases t with
  | cons h _ =>
   obtain ⟨b, z, _⟩ := h
   cases z
theorem WyAt.but {K : PySem.W.Frag} {H H' : Hp} {l : Addr} {v : V} {o : Option (List (Str × Str))} (h : WyAt K H v o) (b : But l H H') (st : stt H l) : WyAt K H' v o := by
 cases o with
 | none => exact h
 | some ws =>
  obtain ⟨a, ys, e, ha, t⟩ := h
  obtain ⟨xs, hl⟩ := st.some
  exact ⟨a, ys, e, b _ _ ha (tups_ne t ha st), tups_keep t b hl⟩
theorem PcAt.but {K : PySem.W.Frag} {H H' : Hp} {l : Addr} {y : V} {p : Pc} (h : PcAt K H y p) (b : But l H H') (st : stt H l) : PcAt K H' y p := by
 obtain ⟨t, v, e, ht, hv⟩ := h
 obtain ⟨xs, hl⟩ := st.some
 exact ⟨t, v, e, b _ _ ht (ne_of ht hl (by intro z; cases z)), hv.but b st⟩
theorem PcAt.same {K : PySem.W.Frag} {H H' : Hp} {y : V} {p : Pc} (h : PcAt K H y p) (s : Same H H') : PcAt K H' y p := by
 obtain ⟨t, v, e, ht, hv⟩ := h
 exact ⟨t, v, e, s _ _ ht, hv.same s⟩
theorem WyAt.put {K : PySem.W.Frag} {H : Hp} {D : Addr} {xs : List V} {v : V} {o : Option (List (Str × Str))} {u : HO} (h : WyAt K H v o) (hD : H D = some (.lst xs)) (ne : v ≠ .ref D) : WyAt K (upd H D u) v o := by
 cases o with
 | none => exact h
 | some ws =>
  obtain ⟨a, ys, e, ha, t⟩ := h
  subst e
  exact ⟨a, ys, rfl, by rw [upd_ne fun z => ne (by rw [z])]; exact ha, tups_but t hD⟩
section
variable {P : Program} {w : World} {K : PySem.W.Frag} {mg : Str -> Option Value} {base : Heap}
theorem scPieces : FnScope ["_law_state", "_law_ties", "_law_most", "_law_pieces_here", "_law_name", "_law_weight", "_law_turn"] ["_law_state", "_law_ties", "_law_most"] (defScope sPieces) := ⟨rfl, rfl, rfl, by decide +kernel, rfl, by decide +kernel, by decide +kernel⟩
def spPieces (K : PySem.W.Frag) : Sp := fun vs H Q _ => ∃ (l lt : Addr) (m : Nat) (zs : List V) (ts : List (Str × Str)), vs = [.ref l, .ref lt, .int m] /\ m <= 30 /\ stt H l /\ H lt = some (.lst zs) /\ TupsAt K H zs (ts.map kT) /\ lt ≠ l /\ ts.length < 64 /\ (∀ t ∈ ts, goodT t) /\ (ts.map kO).Nodup /\
 ∀ (a : Addr) (ys : List V) (ps : List Pc) (H' : Hp), But l H H' -> stt H' l -> H a = none -> H' a = some (.lst ys) -> PcsAt K H' ys ps -> (∀ p ∈ ps, GoodP ts p) -> (ps.map (·.1)).Nodup -> ps.length <= m -> (∀ p ∈ ps, EndB m p.1) -> Q (.ref a) H'
theorem ok_pieces {f : Addr} {fd : FuncData} (F : Fun K "_law_pieces" "_law_pieces" sPieces f fd) (B : Bi mg) (cD : Cal P w K mg base 1 "_law_digit" ["_law_state", "_law_base"] spDigit) (cN : Cal P w K mg base 2 "_law_names" ["_law_state", "_law_many"] spNames) (cW : Cal P w K mg base 2 "_law_ways" ["_law_state", "_law_ties"] (spWays K)) :
  FnOk P w K mg base CX0 3 f fd ["_law_state", "_law_ties", "_law_most"] (spPieces K) := by
 refine F.ok scPieces (fun vs H Q E h => ?_) (fun cdv A outer s H vs Q E hr h => ?_)
 ·obtain ⟨l, lt, m, zs, ts, rfl, _⟩ := h
  rfl
 ·obtain ⟨l, lt, m, zs, ts, rfl, m30, st, hlt, tu, ltl, h64, good, nd, k⟩ := h
  have sz := sizeLine_eq
  have hr1 : Room 1 _ := hr.mono (by decide)
  refine ⟨_, pss_cons (ps_set (i := 3) scPieces.nd rfl (Or.inl rfl) (pe_lst pa_nil))
   (pss_cons (ps_for PassesOwn.never rfl (pi_list (pe_fn cN hr (pa_cons (pv 0) (pa_cons (pe_fn cD hr1 (pa_cons (pv 0) (pa_cons (pe_op op_add (pv 2) pe_int) pa_nil))) pa_nil)))) (pg_name (i := 4) scPieces.nd rfl (Or.inl rfl))
    (pss_cons (ps_set (i := 5) scPieces.nd rfl (Or.inl rfl) (pe_op op_add pe_int (pe_fn cD hr1 (pa_cons (pv 0) (pa_cons (pe_ix ix_list (pe_lst (pa_cons pe_int (pa_cons pe_int (pa_cons (pe_op op_pow pe_int pe_int) pa_nil)))) (pe_fn cD hr1 (pa_cons (pv 0) (pa_cons pe_int pa_nil))) (fun _ _ => rfl)) pa_nil)))))
    (pss_one (ps_expr (pe_bm PySem.F.plainAttrs_list PySem.F.slot_list_append PySem.F.type_list_append mt_append (pv 3) (pa_cons (pe_tup (pa_cons (pv 4) (pa_cons (pv 5) (pa_cons (pe_fn cW hr (pa_cons (pv 0) (pa_cons (pv 1) pa_nil))) pa_nil)))) pa_nil))))))
   (pss_cons (ps_set (i := 6) scPieces.nd rfl (Or.inl rfl) (pe_fn cD hr1 (pa_cons (pv 0) (pa_cons (pe_op op_add (pe_callB call_len_seq (by rfl) B.len PySem.boot_len (pa_cons (pv 3) pa_nil)) pe_int) pa_nil))))
   (pss_one (ps_ret (pe_op op_cat (pe_slice sl_list (pv 3) (po_some (pv 6)) po_none) (pe_slice sl_list (pv 3) po_none (po_some (pv 6)))))))), ?_⟩
  refine ⟨by show 0 <= sizeLine; decide, fun a ha => ?_⟩
  have s1 := Same.new (o := .lst []) ha
  have hla : l ≠ a := by
   obtain ⟨xs, e⟩ := st.some
   exact ne_of_none e ha
  have lta : lt ≠ a := ne_of_none hlt ha
  refine ⟨_, rfl, _, rfl, _, rfl, _, _, rfl, rfl, l, (m : Int) + 1, rfl, by omega, by omega, st.same s1, fun r H2 r0 rm b2 st2 => ?_⟩
  obtain ⟨r, rfl⟩ := Int.eq_ofNat_of_zero_le r0
  refine ⟨l, r, rfl, by omega, st2, fun ln ns H3 b3 st3 fn hn3 N => ?_⟩
  have lnl : ln ≠ l := fun e => by
   subst e
   obtain ⟨xs, e2⟩ := st2.some
   rw [fn] at e2
   cases e2
  have ha2 := b2 _ _ (show upd H a (.lst []) a = _ from upd_same) hla.symm
  have lna : ln ≠ a := fun e => by
   subst e
   rw [fn] at ha2
   cases ha2
  have B3 : But l H H3 := (But.of s1).trans (b2.trans b3)
  have ha3 := b3 _ _ ha2 hla.symm
  have hlt3 := B3 _ _ hlt ltl
  obtain ⟨xs0, hl0⟩ := st.some
  have tu3 := tups_keep tu B3 hl0
  refine ⟨ln, rfl, ⟨_, .of hn3⟩, for_list (K := K) (a := ln) (xs := ns.map V.str) (fun i σ H' => ∃ (v4 v5 v6 : Option V) (ys : List V) (ps : List Pc), σ = [some (.ref l), some (.ref lt), some (.int m), some (.ref a), v4, v5, v6] /\ But l H H' /\ stt H' l /\ H' ln = some (.lst (ns.map V.str)) /\ H' a = some (.lst ys) /\ PcsAt K H' ys ps /\ (∀ y v, y ∈ ys -> ∀ t n q, y = .ref t -> H' t = some (.tup [n, q, v]) -> v ≠ .ref a) /\ (∀ p ∈ ps, GoodP ts p) /\ ps.map (·.1) = ns.take i)
   ⟨none, none, none, [], [], rfl, B3, st3, hn3, ha3, .nil, fun y v hy => (by simp at hy), by simp, rfl⟩ (fun i σ H' _ ⟨_, _, _, _, _, _, _, _, q, _⟩ => .of q) ?_ ?_⟩
  ·rintro i x σ H4 hx ⟨v4, v5, v6, ys, ps, rfl, b4, st4, hn4, ha4, pc4, far, gp, en⟩
   obtain ⟨n, hn, rfl⟩ := map_get_str hx
   have hi : i < ns.length := (List.getElem?_eq_some_iff.mp hn).1
   refine ⟨_, rfl, _, _, rfl, rfl, ⟨by decide, by decide, by decide⟩, by show 3 <= sizeLine; decide, fun p hp => ?_⟩
   have s5 := Same.new (o := .lst [.int 3, .int 100, .int ((10 : Int) ^ (9 : Int).toNat)]) hp
   have pl : p ≠ l := by
    obtain ⟨xs, e⟩ := st4.some
    exact (ne_of_none e hp).symm
   refine ⟨_, rfl, l, 3, rfl, by decide, by decide, st4.same s5, fun r1 H6 q0 q1 b6 st6 => ?_⟩
   obtain ⟨y, hy, bb, eb, e1, e2⟩ := hit3 (p := fun y : V => ∃ n : Int, y = .int n /\ 0 < n /\ n <= 1000000000) (a := V.int 3) (b := .int 100) (c := .int ((10 : Int) ^ (9 : Int).toNat)) q0 q1 ⟨3, rfl, by decide, by decide⟩ ⟨100, rfl, by decide, by decide⟩ ⟨_, rfl, by decide, by decide⟩
   subst eb
   refine ⟨p, _, _, _, rfl, rfl, .of (b6 _ _ upd_same pl), hy, l, bb, rfl, e1, by omega, st6, fun r2 H7 q2 q3 b7 st7 => ⟨_, _, rfl, rfl, ?_⟩⟩
   have b47 : But l H4 H7 := (But.of s5).trans (b6.trans b7)
   have ha7 := b47 _ _ ha4 hla.symm
   have hlt7 := (b4.trans b47) _ _ hlt ltl
   have tu7 := tups_keep tu (b4.trans b47) hl0
   refine ⟨_, rfl, .inl ⟨rfl, _, .of ha7⟩, _, rfl, _, rfl, _, rfl, _, rfl, l, lt, zs, ts, rfl, st7, hlt7, tu7, ltl, h64, good, nd, fun v o H8 b8 st8 wy fresh gw => ?_⟩
   have b48 := b47.trans b8
   have ha8 := b8 _ _ ha7 hla.symm
   have hn8 := b48 _ _ hn4 lnl
   refine ⟨by show 3 <= sizeLine; decide, fun t ht => ?_⟩
   have s9 := Same.new (o := .tup [.str n, .int (1 + r2), v]) ht
   have va : v ≠ .ref a := fun z => by
    have := fresh a z
    rw [ha7] at this
    cases this
   have ly := Paired.length pc4
   have lp := congrArg List.length en
   rw [List.length_map, List.length_take] at lp
   have hlen := N.len
   have ta : t ≠ a := (ne_of_none ha8 ht).symm
   refine ⟨a, _, _, rfl, rfl, s9 _ _ ha8, by omega, ?_⟩
   refine ⟨_, _, _, _, ps ++ [(n, 1 + r2, o)], rfl, fun b' o' e ne => ?_, ?_, ?_, upd_same, ?_, ?_, ?_, ?_⟩
   ·rw [upd_ne (ne_of_none e ha)]
    exact s9 _ _ ((b4.trans b48) _ _ e ne)
   ·unfold stt
    rw [upd_ne hla]
    exact st8.same s9
   ·rw [upd_ne lna]
    exact s9 _ _ hn8
   ·have old : PcsAt K (upd (upd H8 t (.tup [.str n, .int (1 + r2), v])) a (.lst (ys ++ [.ref t]))) ys ps := by
     have gen : ∀ (ys' : List V) (ps' : List Pc), (∀ y ∈ ys', y ∈ ys) -> PcsAt K H4 ys' ps' -> PcsAt K (upd (upd H8 t (.tup [.str n, .int (1 + r2), v])) a (.lst (ys ++ [.ref t]))) ys' ps' := fun ys' ps' sub h => by
      induction h with
      | nil => exact .nil
      | @cons y q ys1 ps1 h _ ih =>
       refine .cons ?_ (ih fun z hz => sub z (List.mem_cons_of_mem _ hz))
       obtain ⟨t', v', e, ht', hv'⟩ := h
       have nv := far y v' (sub y List.mem_cons_self) t' _ _ e ht'
       obtain ⟨xs4, hl4⟩ := st4.some
       have ht8 := s9 _ _ (b48 _ _ ht' (ne_of ht' hl4 (by intro z; cases z)))
       exact ⟨t', v', e, by rw [upd_ne (ne_of ht8 (s9 _ _ ha8) (by intro z; cases z))]; exact ht8, ((hv'.but b48 st4).same s9).put (s9 _ _ ha8) nv⟩
     exact gen ys ps (fun _ h => h) pc4
    exact paired_app old (.cons ⟨t, v, rfl, by rw [upd_ne ta]; exact upd_same, (wy.same s9).put (s9 _ _ ha8) va⟩ .nil)
   ·intro y v' hy' t' n' q' e ht'
    rcases List.mem_append.mp hy' with hy' | hy'
    ·obtain ⟨j, hj, ej⟩ := List.getElem_of_mem hy'
     obtain ⟨t2, v2, e2', ht2, _⟩ := paired_get pc4 j hj (by omega)
     rw [ej] at e2'
     subst e2'
     cases e
     obtain ⟨xs4, hl4⟩ := st4.some
     have ht8 := s9 _ _ (b48 _ _ ht2 (ne_of ht2 hl4 (by intro z; cases z)))
     rw [upd_ne (ne_of ht8 (s9 _ _ ha8) (by intro z; cases z)), ht8] at ht'
     have z := HO.tup.inj (Option.some.inj ht')
     have : v2 = v' := (List.cons.inj (List.cons.inj (List.cons.inj z).2).2).1
     subst this
     exact far _ v2 hy' _ _ _ rfl ht2
    ·obtain rfl : y = .ref t := by simpa using hy'
     cases e
     rw [upd_ne ta, upd_same] at ht'
     have z := HO.tup.inj (Option.some.inj ht')
     have : v = v' := (List.cons.inj (List.cons.inj (List.cons.inj z).2).2).1
     subst this
     exact va
   ·intro q hq
    rcases List.mem_append.mp hq with hq | hq
    ·exact gp q hq
    ·obtain rfl : q = (n, 1 + r2, o) := by simpa using hq
     exact ⟨N.ok n (List.mem_of_getElem? hn), by show 1 <= 1 + r2; omega, by show 1 + r2 <= 1000000000; omega, gw⟩
   ·rw [List.map_append, en, List.take_add_one, hn]
    rfl
  ·rintro σ H4 ⟨v4, v5, v6, ys, ps, rfl, b4, st4, hn4, ha4, pc4, far, gp, en⟩
   rw [List.length_map, List.take_length] at en
   have ly := Paired.length pc4
   have lp := congrArg List.length en
   rw [List.length_map] at lp
   have hlen := N.len
   refine ⟨_, rfl, _, rfl, a, _, rfl, .inl (.of ha4), _, _, rfl, rfl, l, _, rfl, by show (0 : Int) < (ys.length : Int) + 1; omega, by show (ys.length : Int) + 1 < 1073741824; omega, st4, fun tn H5 q0 q1 b5 st5 => ?_⟩
   obtain ⟨tn, rfl⟩ := Int.eq_ofNat_of_zero_le q0
   have ha5 := b5 _ _ ha4 hla.symm
   refine ⟨_, rfl, _, rfl, _, rfl, a, _, rfl, .of ha5, fun p1 hp1 => ?_⟩
   rw [cutV_drop]
   have s6 := Same.new (o := .lst (ys.drop tn)) hp1
   refine ⟨_, rfl, _, rfl, _, rfl, a, _, rfl, .of (s6 _ _ ha5), fun p2 hp2 => ?_⟩
   rw [cutV_take]
   have s7 := Same.new (o := .lst (ys.take tn)) hp2
   refine ⟨p1, p2, _, _, rfl, rfl, s7 _ _ upd_same, upd_same, by rw [List.length_drop, List.length_take]; omega, fun p3 hp3 => ?_⟩
   have s57 := s6.trans s7
   have s8 := Same.new (o := .lst (ys.drop tn ++ ys.take tn)) hp3
   have b45 := b4.trans b5
   have perm := rot_perm ps tn
   have pm := perm.map (·.1)
   have all := s57.trans s8
   refine k p3 _ (ps.drop tn ++ ps.take tn) _ (b45.trans (But.of all)) (st5.same all) ((b45.trans (But.of s57)).free (st5.same s57) hp3) upd_same ?_ (fun q hq => gp q (perm.mem_iff.mp hq)) ?_ ?_ fun q hq => ?_
   ·have h5 : PcsAt K _ ys ps := Paired.mapP pc4 fun y q h => (h.but b5 st4).same all
    exact paired_app (paired_drop tn h5) (paired_take tn h5)
   ·refine pm.nodup_iff.mpr ?_
    rw [en]
    exact N.nd
   ·rw [perm.length_eq]
    omega
   ·have hm := perm.mem_iff.mp hq
    have : q.1 ∈ ns := by
     rw [<- en]
     exact List.mem_map.mpr ⟨q, hm, rfl⟩
    rcases N.end_ _ this with z | ⟨kk, h1, h2⟩
    ·exact .inl z
    ·exact .inr ⟨kk, by omega, h2⟩
end
end Ev
set_option Elab.async false
set_option linter.all false
set_option maxRecDepth 100000
namespace Ev
open PySem L2
def StrV (K : PySem.W.Frag) (H : Hp) (v : V) : Option Str -> Prop
 | some x => v = .str x
 | none => ∃ t, TyOf K H v t /\ PySem.W.kitOne K t (.type "str") = some false
def inB (ns : List Str) : Option Str -> Bool
 | some x => decide (x ∈ ns)
 | none => false
def tiedB (hs : List (Str × Int)) (ts : List (Str × Str)) : Option Str -> Option Str -> Bool
 | some x, some y => decide (x ∈ hs.map (·.1)) && (decide (y ∈ hs.map (·.1)) && decide (y ∈ near (nmsOf hs) (tsOf ts) x))
 | _, _ => false
theorem tiedB_some (hs : List (Str × Int)) (ts : List (Str × Str)) (x y : Str) : tiedB hs ts (some x) (some y) = (decide (x ∈ hs.map (·.1)) && (decide (y ∈ hs.map (·.1)) && decide (y ∈ near (nmsOf hs) (tsOf ts) x))) := rfl
section
variable {P : Program} {w : World} {K : PySem.W.Frag} {mg : Str -> Option Value} {base : Heap}
def spHasA (K : PySem.W.Frag) (C : Addr) : Sp := fun vs H Q _ => ∃ (p : Addr) (v : V) (x : Option Str) (hs : List (Str × Int)) (ts : List (Str × Str)) (fp : List Addr), vs = [.ref p, v] /\ WebAt K C H p hs ts fp /\ StrV K H v x /\ Q (.bl (inB (hs.map (·.1)) x)) H
theorem ok_hasA {f C : Addr} {fd : FuncData} (F : Fun K "has_hand" "Web.has_hand" sHas f fd) (T : Txt K mg C) (B : Bi mg) : FnOk P w K mg base CX0 1 f fd ["self", "thing"] (spHasA K C) := by
 refine F.ok scHas (fun vs H Q E h => ?_) (fun cdv A outer s H vs Q E hr h => ?_)
 ·obtain ⟨p, v, x, hs, ts, fp, rfl, _⟩ := h
  rfl
 ·obtain ⟨p, v, x, hs, ts, fp, rfl, W, sv, k⟩ := h
  have hu := hu_of hr
  obtain ⟨dx, d1, l2, d3, zs, as, rfl, h1, h2, h3, h4, h5, h6, h7⟩ := W.ex
  refine ⟨_, pss_one (ps_ret (pe_and (pe_callB call_isi (by rfl) B.isi PyProof.Rows.Boot.«isinstance» (pa_cons (pv 1) (pa_cons (pe_bltn (v := .ty "str") (by rfl) B.str PyProof.Rows.Boot.«str» rfl) pa_nil))) (pe_one (pe_cmp (pc_din hu (pv 1) (pe_fld (pv 0) rfl)))))), ?_⟩
  cases x with
  | some x =>
   cases (show v = .str x from sv)
   refine ⟨_, rfl, _, _, _, _, rfl, .str x, rfl, _, rfl, iteT ?_⟩
   refine ⟨_, rfl, _, rfl, p, C, dx, _, _, rfl, h1, T.cl, T.nS, flds_s _ _ _, d1, _, rfl, .k (k := Sum.inr x) h2, ?_⟩
   rw [nms_mem]
   exact k
  | none =>
   obtain ⟨t, ty, e⟩ := sv
   exact ⟨_, rfl, _, _, _, _, rfl, ty, e, _, rfl, iteF k⟩
def spTiedA (K : PySem.W.Frag) (C : Addr) : Sp := fun vs H Q _ => ∃ (p : Addr) (v u : V) (x y : Option Str) (hs : List (Str × Int)) (ts : List (Str × Str)) (fp : List Addr), vs = [.ref p, v, u] /\ WebAt K C H p hs ts fp /\ (nmsOf hs).Nodup /\ StrV K H v x /\ StrV K H u y /\ Q (.bl (tiedB hs ts x y)) H
theorem ok_tiedA {f C : Addr} {fd : FuncData} (F : Fun K "are_tied" "Web.are_tied" sTied f fd) (T : Txt K mg C) (cH : CalM P w K mg base C 1 "has_hand" ["self", "thing"] (spHasA K C)) : FnOk P w K mg base CX0 2 f fd ["self", "one", "other"] (spTiedA K C) := by
 refine F.ok scTied (fun vs H Q E h => ?_) (fun cdv A outer s H vs Q E hr h => ?_)
 ·obtain ⟨p, v, u, x, y, hs, ts, fp, rfl, _⟩ := h
  rfl
 ·obtain ⟨p, v, u, x, y, hs, ts, fp, rfl, W, nd, sv, su, k⟩ := h
  have hu := hu_of hr
  obtain ⟨dx, d1, l2, d3, zs, as, rfl, h1, h2, h3, h4, h5, h6, h7⟩ := id W.ex
  have hno : (flds d1 l2 d3).lookup ("has_hand" : Str) = none := flds_no _ _ _ (by decide +kernel) (by decide +kernel) (by decide +kernel)
  refine ⟨_, pss_one (ps_ret (pe_and (pe_mt cH T.cl hr (pv 0) (pa_cons (pv 1) pa_nil)) (pe_and (pe_mt cH T.cl hr (pv 0) (pa_cons (pv 2) pa_nil)) (pe_one (pe_cmpR (op_inD cmpS (roomU hr 0)) (pv 2) (pe_dget hu (pe_fld (pv 0) rfl) (pv 1) (fun _ _ => rfl)) (by with_unfolding_all rfl)))))), ?_⟩
  refine ⟨_, rfl, p, dx, _, rfl, h1, hno, _, rfl, p, v, x, hs, ts, _, rfl, W, sv, _, rfl, ?_⟩
  cases x with
  | none => exact iteF k
  | some x =>
   cases (show v = .str x from sv)
   refine ite2 (fun c => ?_) (fun c => ?_)
   ·have hx : x ∈ hs.map (·.1) := of_decide_eq_true c
    obtain ⟨a, e1, ha⟩ := row_at nd hx h6 h7
    refine ⟨_, rfl, p, dx, _, rfl, h1, hno, _, rfl, p, u, y, hs, ts, _, rfl, W, su, _, rfl, ?_⟩
    cases y with
    | none => exact iteF k
    | some y =>
     cases (show u = .str y from su)
     rw [tiedB_some, decide_eq_true hx, Bool.true_and] at k
     refine ite2 (fun c2 => ?_) (fun c2 => ?_)
     ·have hy : y ∈ hs.map (·.1) := of_decide_eq_true c2
      rw [decide_eq_true hy, Bool.true_and] at k
      refine ⟨_, rfl, _, rfl, p, C, dx, _, _, rfl, h1, T.cl, T.nN, flds_n _ _ _, _, rfl, d3, .ref a, rfl, ?_, y, _, rfl, ⟨a, _, rfl, .of ha, strs_rep _⟩, k⟩
      rw [<- e1]
      exact .k (k := Sum.inr x) h5
     ·have hy : ¬ y ∈ hs.map (·.1) := fun z => c2 (decide_eq_true z)
      rw [decide_eq_false hy, Bool.false_and] at k
      exact k
   ·have hx : ¬ x ∈ hs.map (·.1) := fun z => c (decide_eq_true z)
    cases y with
    | none => exact k
    | some y =>
     rw [tiedB_some, decide_eq_false hx, Bool.false_and] at k
     exact k
theorem tied_way {hs : List (Str × Int)} {ts ws : List (Str × Str)} (G : Good hs ts) (W : WaysOf ts ws) {t : Str × Str} (ht : t ∈ tsOf ws) : tiedB hs ts (some t.1) (some t.2) = true := by
 obtain ⟨x, hx, ex⟩ := tsOf_mem.mp ht
 obtain ⟨u, hu, eu⟩ := List.mem_map.mp (W.inn x hx)
 have eo : ord2 u.1 u.2 = t := (kT_inj eu).trans ex
 have both : t.1 ∈ hs.map (·.1) /\ t.2 ∈ hs.map (·.1) /\ ord2 t.1 t.2 = t := by
  obtain ⟨g1, g2⟩ := G.tin u hu
  rcases ord2_or u.1 u.2 with e | e
  ·rw [<- eo, e]
   exact ⟨g1, g2, e⟩
  ·rw [<- eo, e]
   exact ⟨g2, g1, (ord2_comm _ _).trans e⟩
 obtain ⟨m1, m2, m3⟩ := both
 have m4 : t.2 ∈ near (nmsOf hs) (tsOf ts) t.1 := List.mem_filter.mpr ⟨(nms_perm hs).mem_iff.mpr m2, decide_eq_true (by rw [m3]; exact tsOf_mem.mpr ⟨u, hu, eo⟩)⟩
 rw [tiedB_some, decide_eq_true m1, decide_eq_true m2, decide_eq_true m4]
 rfl
theorem scCWays : FnScope ["web", "ways", "found", "one", "other"] ["web", "ways"] (defScope sCWays) := ⟨rfl, rfl, rfl, by decide +kernel, rfl, by decide +kernel, by decide +kernel⟩
def spCWays (K : PySem.W.Frag) (C : Addr) : Sp := fun vs H Q _ => ∃ (p : Addr) (v : V) (o : Option (List (Str × Str))) (hs : List (Str × Int)) (ts : List (Str × Str)) (fp : List Addr), vs = [.ref p, v] /\ WebAt K C H p hs ts fp /\ Good hs ts /\ WyAt K H v o /\ (∀ ws, o = some ws -> WaysOf ts ws) /\
 ∀ v' H', Same H H' -> WyAt K H' v' (o.map tsOf) -> (∀ a, v' = .ref a -> H a = none) -> Q v' H'
theorem ok_cways {f C : Addr} {fd : FuncData} (F : Fun K "checked_ways" "checked_ways" sCWays f fd) (T : Txt K mg C) (cS : Cal P w K mg base 3 "sorted_ties" ["ties"] (spSorted K)) (cT : CalM P w K mg base C 2 "are_tied" ["self", "one", "other"] (spTiedA K C)) : FnOk P w K mg base CX0 4 f fd ["web", "ways"] (spCWays K C) := by
 refine F.ok scCWays (fun vs H Q E h => ?_) (fun cdv A outer s H vs Q E hr h => ?_)
 ·obtain ⟨p, v, o, hs, ts, fp, rfl, _⟩ := h
  rfl
 ·obtain ⟨p, v, o, hs, ts, fp, rfl, W, G, wy, gw, k⟩ := h
  have hu := hu_of hr
  have hr2 : Room 2 _ := hr.mono (by decide)
  refine ⟨_, pss_cons (ps_if (pt_cmp (pc_isN (pv 1))) (pss_one (ps_ret pe_non)) pss_nil)
   (pss_cons (ps_set (i := 2) scCWays.nd rfl (Or.inl rfl) (pe_fn cS hr (pa_cons (pv 1) pa_nil)))
   (pss_cons (ps_if (pt_cmp (pc_isN (pv 2))) pss_never pss_nil)
   (pss_cons (ps_for PassesOwn.never rfl (pi_list (pv 2)) (pg_tup rfl (pgs_cons (pg_name (i := 3) scCWays.nd rfl (Or.inl rfl)) (pgs_cons (pg_name (i := 4) scCWays.nd rfl (Or.inl rfl)) pgs_nil)))
    (pss_one (ps_if (pt_not (pt_val (pe_mt cT T.cl hr2 (pv 0) (pa_cons (pv 3) (pa_cons (pv 4) pa_nil))))) pss_never pss_nil)))
   (pss_one (ps_ret (pv 2)))))), ?_⟩
  cases o with
  | none =>
   cases (show v = .non from wy)
   exact ⟨_, rfl, _, rfl, iteT (k .non H (Same.refl H) rfl (fun a z => by cases z))⟩
  | some ws =>
   obtain ⟨a, ys, rfl, ha, tu⟩ := wy
   have Wo := gw ws rfl
   refine ⟨_, rfl, _, rfl, iteF ?_⟩
   refine ⟨_, rfl, a, ys, ws, rfl, ha, tu, Wo.good, Wo.nd, by have := Wo.len; have := G.t64; omega, fun l' zs H1 s1 hf hl1 tz => ?_⟩
   refine ⟨_, rfl, _, rfl, iteF ?_⟩
   have W1 := W.same s1
   obtain ⟨dx, d1, l2, d3, zs0, as, rfl, h1, h2, h3, h4, h5, h6, h7⟩ := id W1.ex
   have hno : (flds d1 l2 d3).lookup ("are_tied" : Str) = none := flds_no _ _ _ (by decide +kernel) (by decide +kernel) (by decide +kernel)
   rw [<- tsOf_keys] at tz
   refine ⟨_, rfl, l', rfl, ⟨_, .of hl1⟩, for_list (K := K) (a := l') (xs := zs) (fun i σ H2 => ∃ (v3 v4 : Option V), σ = [some (.ref p), some (.ref a), some (.ref l'), v3, v4] /\ H2 = H1) ⟨none, none, rfl, rfl⟩ (fun i σ H2 _ ⟨_, _, _, e⟩ => by subst e; exact .of hl1) ?_ ?_⟩
   ·rintro i y σ H2 hy ⟨v3, v4, rfl, rfl⟩
    obtain ⟨t, ht, q, rfl, hq⟩ := paired_map tz hy
    refine ⟨q, _, rfl, .of (hpT hq), rfl, _, _, rfl, _, _, rfl, rfl, ?_⟩
    refine ⟨_, rfl, p, dx, _, rfl, h1, hno, _, rfl, _, rfl, p, _, _, some t.1, some t.2, hs, ts, _, rfl, W1, G.nnd, rfl, rfl, _, rfl, ?_⟩
    rw [tied_way G Wo (List.mem_of_getElem? ht)]
    refine iteF ?_
    exact ⟨_, _, rfl, rfl⟩
   ·rintro σ H2 ⟨v3, v4, rfl, rfl⟩
    exact ⟨_, rfl, k (.ref l') _ s1 ⟨l', zs, rfl, hl1, tz⟩ (fun c z => by cases z; exact hf)⟩
def nrm (p : Pc) : Pc := (p.1, p.2.1, p.2.2.map tsOf)
def PcNew (K : PySem.W.Frag) (H0 H : Hp) (y : V) (p : Pc) : Prop := ∃ t v, y = .ref t /\ H t = some (.tup [.str p.1, .int p.2.1, v]) /\ WyAt K H v p.2.2 /\ ∀ a, v = .ref a -> H0 a = none
theorem PcNew.same {K : PySem.W.Frag} {H0 H H' : Hp} {y : V} {p : Pc} (h : PcNew K H0 H y p) (s : Same H H') : PcNew K H0 H' y p := by
 obtain ⟨t, v, e, ht, hv, hn⟩ := h
 exact ⟨t, v, e, s _ _ ht, hv.same s, hn⟩
theorem WyAt.up {K : PySem.W.Frag} {H : Hp} {D : Addr} {u : HO} {v : V} {o : Option (List (Str × Str))} (h : WyAt K H v o) (n1 : ∀ xs, H D ≠ some (.lst xs)) (n2 : ∀ xs, H D ≠ some (.tup xs)) : WyAt K (upd H D u) v o := by
 cases o with
 | none => exact h
 | some ws =>
  obtain ⟨a, ys, e, ha, t⟩ := h
  exact ⟨a, ys, e, by rw [upd_ne (fun z : a = D => n1 ys (z ▸ ha))]; exact ha, Paired.mapP t fun y k ⟨b, z, q⟩ => ⟨b, z, by rw [upd_ne (fun z : b = D => n2 _ (z ▸ q))]; exact q⟩⟩
theorem PcNew.up {K : PySem.W.Frag} {H0 H : Hp} {D : Addr} {u : HO} {y : V} {p : Pc} (h : PcNew K H0 H y p) (n1 : ∀ xs, H D ≠ some (.lst xs)) (n2 : ∀ xs, H D ≠ some (.tup xs)) : PcNew K H0 (upd H D u) y p := by
 obtain ⟨t, v, e, ht, hv, hn⟩ := h
 exact ⟨t, v, e, by rw [upd_ne (fun z : t = D => n2 _ (z ▸ ht))]; exact ht, hv.up n1 n2, hn⟩
theorem valV_zip {ps : List Pc} {cs : List V} (nd : (ps.map (·.1)).Nodup) (hl : cs.length = ps.length) : ∀ {j : Nat} {q : Pc} {c : V}, ps[j]? = some q -> cs[j]? = some c -> valV ((ps.zip cs).map fun q => ((Sum.inr q.1.1 : Key), q.2)) (Sum.inr q.1) = some c := by
 induction ps generalizing cs with
 | nil =>
  intro j q c h
  simp at h
 | cons p ps ih =>
  intro j q c h1 h2
  cases cs with
  | nil => cases hl
  | cons b cs =>
   rw [List.map_cons] at nd
   obtain ⟨n1, n2⟩ := List.nodup_cons.mp nd
   cases j with
   | zero =>
    have e1 : p = q := by simpa using h1
    have e2 : b = c := by simpa using h2
    subst e1 e2
    exact valV_pos rfl
   | succ j =>
    have h1 : ps[j]? = some q := by simpa using h1
    have h2 : cs[j]? = some c := by simpa using h2
    show valV ((Sum.inr p.1, b) :: ((ps.zip cs).map fun q => ((Sum.inr q.1.1 : Key), q.2))) (Sum.inr q.1) = _
    rw [valV_neg fun e => n1 (by rw [show p.1 = q.1 from Sum.inr.inj e]; exact List.mem_map.mpr ⟨q, List.mem_of_getElem? h1, rfl⟩)]
    exact ih n2 (by simpa using hl) h1 h2
theorem scCPiece : FnScope ["web", "piece"] ["web", "piece"] (defScope sCPiece) := ⟨rfl, rfl, rfl, by decide +kernel, rfl, by decide +kernel, by decide +kernel⟩
def spCPiece (K : PySem.W.Frag) (C : Addr) : Sp := fun vs H Q _ => ∃ (p : Addr) (y : V) (q : Pc) (hs : List (Str × Int)) (ts : List (Str × Str)) (fp : List Addr), vs = [.ref p, y] /\ WebAt K C H p hs ts fp /\ Good hs ts /\ PcAt K H y q /\ GoodP ts q /\
 ∀ y' H', Same H H' -> PcNew K H H' y' (nrm q) -> Q y' H'
theorem ok_cpiece {f C : Addr} {fd : FuncData} (F : Fun K "checked_piece" "checked_piece" sCPiece f fd) (B : Bi mg) (cN : Cal P w K mg base 1 "is_name" ["thing"] spName) (cW : Cal P w K mg base 2 "is_whole_within" ["thing", "least", "most"] spWhole) (cC : Cal P w K mg base 4 "checked_ways" ["web", "ways"] (spCWays K C)) {tk : Tok} (mW : mg "MOST_WEIGHT" = some (.int 1000000000 tk)) :
  FnOk P w K mg base CX0 5 f fd ["web", "piece"] (spCPiece K C) := by
 refine F.ok scCPiece (fun vs H Q E h => ?_) (fun cdv A outer s H vs Q E hr h => ?_)
 ·obtain ⟨p, y, q, hs, ts, fp, rfl, _⟩ := h
  rfl
 ·obtain ⟨p, y, q, hs, ts, fp, rfl, W, G, ⟨t, v, rfl, ht, wy⟩, gp, k⟩ := h
  have hr1 : Room 1 _ := hr.mono (by decide)
  have hr2 : Room 2 _ := hr.mono (by decide)
  refine ⟨_, pss_cons (ps_if (pw_or (pt_not (pt_val (pe_callB call_isi (by rfl) B.isi PyProof.Rows.Boot.«isinstance» (pa_cons (pv 1) (pa_cons (pe_bltn (v := .ty "tuple") (by rfl) B.tuple PyProof.Rows.Boot.«tuple» rfl) pa_nil)))))
    (pw_or1 (pt_cmpR op_ne (pe_callB call_len_seq (by rfl) B.len PySem.boot_len (pa_cons (pv 1) pa_nil)) pe_int (nomark _)))).pt pss_never pss_nil)
   (pss_cons (ps_if (pt_not (pt_val (pe_fn cN hr1 (pa_cons (pe_ix ix_tup (pv 1) pe_int (fun _ _ => rfl)) pa_nil)))) pss_never pss_nil)
   (pss_cons (ps_if (pt_not (pt_val (pe_fn cW hr2 (pa_cons (pe_ix ix_tup (pv 1) pe_int (fun _ _ => rfl)) (pa_cons pe_int (pa_cons (pe_glob (v := .int 1000000000) (by rfl) mW ⟨tk, rfl⟩) pa_nil)))))) pss_never pss_nil)
   (pss_one (ps_ret (pe_tup (pa_cons (pe_ix ix_tup (pv 1) pe_int (fun _ _ => rfl)) (pa_cons (pe_ix ix_tup (pv 1) pe_int (fun _ _ => rfl)) (pa_cons (pe_fn cC hr (pa_cons (pv 0) (pa_cons (pe_ix ix_tup (pv 1) pe_int (fun _ _ => rfl)) pa_nil))) pa_nil)))))))), ?_⟩
  refine ⟨_, rfl, _, _, _, _, rfl, .tup ht, rfl, _, rfl, iteF ?_⟩
  refine ⟨_, rfl, t, _, rfl, .inr (.of ht), rfl, _, rfl, ?_⟩
  refine iteNS (show V.int ((3 : Nat) : Int) = V.int 3 from rfl) ?_
  refine ⟨_, rfl, t, _, _, _, rfl, rfl, .of ht, rfl, q.1, rfl, by have := nameB_len gp.nm; omega, fun H1 s1 => ⟨_, rfl, ?_⟩⟩
  rw [gp.nm]
  refine iteF ?_
  have ht1 := s1 _ _ ht
  refine ⟨_, rfl, t, _, _, _, rfl, rfl, .of ht1, rfl, q.2.1, 1, 1000000000, rfl, _, rfl, ?_⟩
  rw [decide_eq_true gp.w1, decide_eq_true gp.w2]
  refine iteF ?_
  refine ⟨_, rfl, t, _, _, _, rfl, rfl, .of ht1, rfl, _, rfl, t, _, _, _, rfl, rfl, .of ht1, rfl, _, rfl, _, rfl, t, _, _, _, rfl, rfl, .of ht1, rfl, p, v, q.2.2, hs, ts, fp, rfl, W.same s1, G, wy.same s1, gp.ws, fun v' H2 s2 wy2 hf => ?_⟩
  refine ⟨by show 3 <= sizeLine; decide, fun t' ht' => ?_⟩
  exact k (.ref t') _ (s1.trans (s2.trans (Same.new ht'))) ⟨t', v', rfl, upd_same, wy2.same (Same.new ht'), fun a z => s1.free (hf a z)⟩
theorem scCPieces : FnScope ["web", "pieces", "found", "piece", "checked"] ["web", "pieces"] (defScope sCPieces) := ⟨rfl, rfl, rfl, by decide +kernel, rfl, by decide +kernel, by decide +kernel⟩
structure Qs (ps qs : List Pc) : Prop where
 nms : qs.map (·.1) = sortS (ps.map (·.1))
 mem : ∀ q ∈ qs, ∃ p ∈ ps, q = nrm p
def spCPieces (K : PySem.W.Frag) (C : Addr) : Sp := fun vs H Q _ => ∃ (p l : Addr) (ys : List V) (ps : List Pc) (hs : List (Str × Int)) (ts : List (Str × Str)) (fp : List Addr), vs = [.ref p, .ref l] /\ WebAt K C H p hs ts fp /\ Good hs ts /\ H l = some (.lst ys) /\ PcsAt K H ys ps /\ (∀ q ∈ ps, GoodP ts q) /\ (ps.map (·.1)).Nodup /\ ps.length < 64 /\
 ∀ l' zs qs H', Same H H' -> H' l' = some (.lst zs) -> Paired (PcNew K H H') zs qs -> Qs ps qs -> Q (.ref l') H'
theorem ok_cpieces {f C : Addr} {fd : FuncData} (F : Fun K "checked_pieces" "checked_pieces" sCPieces f fd) (B : Bi mg) (cP : Cal P w K mg base 5 "checked_piece" ["web", "piece"] (spCPiece K C)) : FnOk P w K mg base CX0 6 f fd ["web", "pieces"] (spCPieces K C) := by
 refine F.ok scCPieces (fun vs H Q E h => ?_) (fun cdv A outer s H vs Q E hr h => ?_)
 ·obtain ⟨p, l, ys, ps, hs, ts, fp, rfl, _⟩ := h
  rfl
 ·obtain ⟨p, l, ys, ps, hs, ts, fp, rfl, W, G, hl, pc, gp, nd, h64, k⟩ := h
  have hu := hu_of hr
  have sz := sizeLine_eq
  have le := Paired.length pc
  refine ⟨_, pss_cons (ps_if (pt_not (pt_val (pe_callB call_isi (by rfl) B.isi PyProof.Rows.Boot.«isinstance» (pa_cons (pv 1) (pa_cons (pe_bltn (v := .ty "list") (by rfl) B.list PyProof.Rows.Boot.«list» rfl) pa_nil))))) pss_never pss_nil)
   (pss_cons (ps_set (i := 2) scCPieces.nd rfl (Or.inr rfl) pe_dnewK)
   (pss_cons (ps_for PassesOwn.never rfl (pi_list (pv 1)) (pg_name (i := 3) scCPieces.nd rfl (Or.inl rfl))
    (pss_cons (ps_set (i := 4) scCPieces.nd rfl (Or.inl rfl) (pe_fn cP hr (pa_cons (pv 0) (pa_cons (pv 3) pa_nil))))
    (pss_cons (ps_if (pt_cmp (pc_din hu (pe_ix ix_tup (pv 4) pe_int (fun _ _ => rfl)) (pv 2))) pss_never pss_nil)
    (pss_one (ps_dput hu (pv 2) (pe_ix ix_tup (pv 4) pe_int (fun _ _ => rfl)) (pv 4) rfl)))))
   (pss_one (ps_ret (pe_comp ["name", "found"] 1 [2] (pi_list (pe_callB (call_sortDS rfl) (by rfl) B.sorted PyProof.Rows.Boot.«sorted» (pa_cons (pv 2) pa_nil))) (fun fp s H => pg_name (i := 0) (show (["name", "found"] : List Str).Nodup by decide +kernel) rfl (Or.inl rfl)) (fun fp s H => pts_nil)
    (fun fp s H => pe_dget hu (pv 1) (pv 0) (fun _ _ => rfl))))))), ?_⟩
  refine ⟨_, rfl, _, _, _, _, rfl, .lst hl, rfl, _, rfl, iteF ?_⟩
  intro d hd
  have s0 : Same H (upd H d (.dK [])) := Same.new hd
  refine ⟨_, rfl, l, rfl, ⟨_, .of (s0 _ _ hl)⟩, for_list (K := K) (a := l) (xs := ys) (fun i σ H2 => ∃ (v3 v4 : Option V) (cs : List V), σ = [some (.ref p), some (.ref l), some (.ref d), v3, v4] /\ Same H H2 /\ Paired (PcNew K H H2) cs ((ps.take i).map nrm) /\ H2 d = some (.dK (((ps.take i).zip cs).map fun q => (Sum.inr q.1.1, q.2)))) ⟨none, none, [], rfl, s0, .nil, upd_same⟩ (fun i σ H2 _ ⟨_, _, _, _, s2, _⟩ => .of (s2 _ _ hl)) ?_ ?_⟩
  ·rintro i y σ H2 hy ⟨v3, v4, cs, rfl, s2, pn, hd2⟩
   have hi : i < ys.length := (List.getElem?_eq_some_iff.mp hy).1
   have hq : ps[i]? = some (ps[i]'(by omega)) := List.getElem?_eq_getElem (by omega)
   have py := paired_get pc i hi (by omega)
   rw [(List.getElem?_eq_some_iff.mp hy).2] at py
   generalize ps[i]'(by omega) = q at hq py
   refine ⟨_, rfl, _, rfl, p, y, q, hs, ts, fp, rfl, W.same s2, G, py.same s2, gp q (List.mem_of_getElem? hq), fun y' H3 s3 pw => ?_⟩
   obtain ⟨t, v, rfl, ht, wy, hf⟩ := pw
   have hd3 := s3 _ _ hd2
   have lc := Paired.length pn
   rw [List.length_map, List.length_take] at lc
   have keys : ((((ps.take i).zip cs).map fun q => ((Sum.inr q.1.1 : Key), q.2)).map (·.1)) = ((ps.take i).map (·.1)).map Sum.inr := by
    rw [List.map_map]
    have : ((fun x : Key × V => x.1) ∘ fun q : Pc × V => ((Sum.inr q.1.1 : Key), q.2)) = (fun p : Pc => (Sum.inr p.1 : Key)) ∘ Prod.fst := rfl
    rw [this, <- List.map_map, List.map_fst_zip (by rw [List.length_take]; omega), List.map_map]
    rfl
   have nov : valV (((ps.take i).zip cs).map fun q => ((Sum.inr q.1.1 : Key), q.2)) (Sum.inr q.1) = none := valV_none_of (by
    rw [keys]
    intro m
    obtain ⟨x, hx, e⟩ := List.mem_map.mp m
    cases e
    exact nodup_take (g := fun p : Pc => p.1) nd hq hx)
   refine ⟨_, rfl, t, _, _, _, rfl, rfl, .of ht, rfl, _, rfl, d, _, rfl, .k (k := Sum.inr q.1) hd3, _, rfl, ?_⟩
   rw [nov]
   refine iteF ?_
   refine ⟨_, rfl, _, rfl, _, rfl, t, _, _, _, rfl, rfl, .of ht, rfl, d, _, rfl, .k (k := Sum.inr q.1) hd3 (by rw [List.length_map, List.length_zip, List.length_take]; omega), ?_⟩
   have s23 := s2.trans s3
   have n1 : ∀ xs, H3 d ≠ some (.lst xs) := fun xs z => by rw [hd3] at z; cases z
   have n2 : ∀ xs, H3 d ≠ some (.tup xs) := fun xs z => by rw [hd3] at z; cases z
   refine ⟨_, _, cs ++ [.ref t], rfl, fun c o e => ?_, ?_, ?_⟩
   ·rw [upd_ne (ne_of_none e hd)]
    exact s23 _ _ e
   ·rw [List.take_add_one, hq, List.map_append]
    exact paired_app (Paired.mapP pn fun y q h => (h.same s3).up n1 n2) (.cons (PcNew.up ⟨t, v, rfl, ht, wy, fun a z => s2.free (hf a z)⟩ n1 n2) .nil)
   ·rw [upd_same, putK_new _ nov, List.take_add_one, hq, List.zip_append (by rw [List.length_take]; omega), List.map_append]
    rfl
  ·rintro σ H2 ⟨v3, v4, cs, rfl, s2, pn, hd2⟩
   rw [le, List.take_length] at pn hd2
   have lc := Paired.length pn
   rw [List.length_map] at lc
   have keys : (((ps.zip cs).map fun q => ((Sum.inr q.1.1 : Key), q.2)).map (·.1)) = (ps.map (·.1)).map Sum.inr := by
    rw [List.map_map]
    have : ((fun x : Key × V => x.1) ∘ fun q : Pc × V => ((Sum.inr q.1.1 : Key), q.2)) = (fun p : Pc => (Sum.inr p.1 : Key)) ∘ Prod.fst := rfl
    rw [this, <- List.map_map, List.map_fst_zip (by omega), List.map_map]
    rfl
   refine ⟨_, rfl, d, _, ps.map (·.1), rfl, hd2, keys, by rw [List.length_map]; exact h64, fun ls hls => ?_⟩
   have s3 := Same.new (o := .lst ((sortS (ps.map (·.1))).map V.str)) hls
   have hl3 : upd H2 ls (.lst ((sortS (ps.map (·.1))).map V.str)) ls = some (.lst ((sortS (ps.map (·.1))).map V.str)) := upd_same
   refine ⟨ls, rfl, ⟨_, .of hl3⟩, fun D hD => ?_⟩
   generalize upd H2 ls (.lst ((sortS (ps.map (·.1))).map V.str)) = H3 at s3 hl3 hD ⊢
   have lss : (sortS (ps.map (·.1))).length = ps.length := by rw [(sortS_perm _).length_eq, List.length_map]
   refine comp_list (own := 1) (fv := [some (.ref d)]) (xs := (sortS (ps.map (·.1))).map V.str) rfl gok1 (fun i out H' => ∃ qs : List Pc, Same H3 H' /\ H' D = some (.lst out) /\ Paired (PcNew K H H2) out qs /\ qs.map (·.1) = (sortS (ps.map (·.1))).take i /\ ∀ q ∈ qs, ∃ p ∈ ps, q = nrm p) ⟨[], Same.new hD, upd_same, .nil, rfl, by simp⟩ (fun i out H' _ ⟨_, sm, _⟩ => .of (sm _ _ hl3)) (fun zs H4 ⟨qs, s4, hD4, pq, en, mem⟩ => ?_) (fun i x out H' hx ⟨qs, sm, hD', pq, en, mem⟩ => ?_)
   ·rw [List.length_map, List.take_length] at en
    exact k D zs qs H4 (s2.trans (s3.trans s4)) hD4 (Paired.mapP pq fun y q h => h.same (s3.trans s4)) ⟨en, mem⟩
   ·obtain ⟨n, hn, rfl⟩ := map_get_str hx
    have hm : n ∈ ps.map (·.1) := (sortS_perm _).mem_iff.mp (List.mem_of_getElem? hn)
    obtain ⟨q, hq, eq⟩ := List.mem_map.mp hm
    obtain ⟨j, hj, ej⟩ := List.getElem_of_mem hq
    have hqj : ps[j]? = some q := by rw [List.getElem?_eq_getElem hj, ej]
    have hcj : cs[j]? = some (cs[j]'(by omega)) := List.getElem?_eq_getElem (by omega)
    have hv := valV_zip nd lc hqj hcj
    have pj := paired_get pn j (by omega) (by rw [List.length_map]; omega)
    rw [List.getElem_map, ej] at pj
    generalize cs[j]'(by omega) = c at hcj hv pj
    rw [eq] at hv
    have lo := Paired.length pq
    have lq := congrArg List.length en
    rw [List.length_map, List.length_take] at lq
    have hi : i < (sortS (ps.map (·.1))).length := (List.getElem?_eq_some_iff.mp hn).1
    refine ⟨_, rfl, rfl, fun Nx hN => yesT ?_⟩
    refine ⟨_, rfl, _, rfl, d, c, rfl, ?_, out, hD', by omega, hN _ _ ⟨qs ++ [nrm q], same_but sm hD, upd_same, ?_, ?_, ?_⟩⟩
    ·rw [<- hv]
     exact .k (k := Sum.inr n) (sm _ _ (s3 _ _ hd2))
    ·exact paired_app pq (.cons pj .nil)
    ·rw [List.map_append, en, List.take_add_one, hn, <- eq]
     rfl
    ·intro q' hq'
     rcases List.mem_append.mp hq' with hq' | hq'
     ·exact mem q' hq'
     ·obtain rfl : q' = nrm q := by simpa using hq'
      exact ⟨q, hq, rfl⟩
end
end Ev
set_option Elab.async false
set_option linter.all false
set_option maxRecDepth 100000
namespace Ev
open PySem L2
abbrev sGInit : Stmt := inClass sGoods 0
abbrev sGHas : Stmt := inClass sGoods 1
abbrev sGNames : Stmt := inClass sGoods 2
abbrev sGWeight : Stmt := inClass sGoods 3
abbrev sGWays : Stmt := inClass sGoods 4
abbrev sGMay : Stmt := inClass sGoods 5
abbrev sGFree : Stmt := inClass sGoods 6
def gflds (p dw dy : Addr) : List (Str × V) := putF "ways_by_name" (.ref dy) (putF "weight_by_name" (.ref dw) (putF "web" (.ref p) []))
theorem g12 : ¬ (("web" : Str) = "weight_by_name") := by decide +kernel
theorem g13 : ¬ (("web" : Str) = "ways_by_name") := by decide +kernel
theorem g23 : ¬ (("weight_by_name" : Str) = "ways_by_name") := by decide +kernel
theorem gflds_w (p dw dy : Addr) : (gflds p dw dy).lookup ("web" : Str) = some (.ref p) := by
 unfold gflds
 rw [lookup_putF, if_neg g13, lookup_putF, if_neg g12, lookup_putF, if_pos rfl]
theorem gflds_g (p dw dy : Addr) : (gflds p dw dy).lookup ("weight_by_name" : Str) = some (.ref dw) := by
 unfold gflds
 rw [lookup_putF, if_neg g23, lookup_putF, if_pos rfl]
theorem gflds_y (p dw dy : Addr) : (gflds p dw dy).lookup ("ways_by_name" : Str) = some (.ref dy) := by
 unfold gflds
 rw [lookup_putF, if_pos rfl]
theorem gflds_no (p dw dy : Addr) {m : Str} (h1 : ¬ m = "web") (h2 : ¬ m = "weight_by_name") (h3 : ¬ m = "ways_by_name") : (gflds p dw dy).lookup m = none := by
 unfold gflds
 rw [lookup_putF, if_neg h3, lookup_putF, if_neg h2, lookup_putF, if_neg h1]
 all_goals rfl
def wKV (qs : List Pc) : List (Key × V) := qs.map fun q => (Sum.inr q.1, V.int q.2.1)
def yKV (qs : List Pc) (vs : List V) : List (Key × V) := (qs.zip vs).map fun x => (Sum.inr x.1.1, x.2)
theorem wKV_keys (qs : List Pc) : (wKV qs).map (·.1) = (qs.map (·.1)).map Sum.inr := by
 unfold wKV
 rw [List.map_map, List.map_map]
 rfl
theorem yKV_keys {qs : List Pc} {vs : List V} (h : vs.length = qs.length) : (yKV qs vs).map (·.1) = (qs.map (·.1)).map Sum.inr := by
 unfold yKV
 rw [List.map_map]
 have : ((fun x : Key × V => x.1) ∘ fun q : Pc × V => ((Sum.inr q.1.1 : Key), q.2)) = (fun p : Pc => (Sum.inr p.1 : Key)) ∘ Prod.fst := rfl
 rw [this, <- List.map_map, List.map_fst_zip (by omega), List.map_map]
 rfl
structure GoodsAt (K : PySem.W.Frag) (CG CW : Addr) (H : Hp) (g p : Addr) (hs : List (Str × Int)) (ts : List (Str × Str)) (qs : List Pc) (fp : List Addr) : Prop where
 ex : ∃ (dx dw dy : Addr) (vs : List V) (fpw : List Addr), H g = some (.ins CG dx (gflds p dw dy)) /\ WebAt K CW H p hs ts fpw /\ H dw = some (.dK (wKV qs)) /\ H dy = some (.dK (yKV qs vs)) /\ Paired (fun v (q : Pc) => WyAt K H v q.2.2) vs qs /\
  g ∈ fp /\ dw ∈ fp /\ dy ∈ fp /\ (∀ b ∈ fpw, b ∈ fp) /\ ∀ v ∈ vs, ∀ a, v = .ref a -> a ∈ fp
theorem paired_memL {α β : Type} {F G : α -> β -> Prop} : ∀ {l : List α} {m : List β}, Paired F l m -> (∀ a ∈ l, ∀ b, F a b -> G a b) -> Paired G l m
 | _, _, .nil, _ => .nil
 | _, _, .cons h t, f => .cons (f _ List.mem_cons_self _ h) (paired_memL t fun a ha => f a (List.mem_cons_of_mem _ ha))
theorem WyAt.keep {K : PySem.W.Frag} {H H' : Hp} {v : V} {o : Option (List (Str × Str))} (h : WyAt K H v o) (k : ∀ a, v = .ref a -> ∀ u, H a = some u -> H' a = some u) (kt : ∀ b xs, H b = some (.tup xs) -> H' b = some (.tup xs)) : WyAt K H' v o := by
 cases o with
 | none => exact h
 | some ws =>
  obtain ⟨a, ys, e, ha, t⟩ := h
  exact ⟨a, ys, e, k a e _ ha, Paired.mapP t fun y q ⟨b, z, hb⟩ => ⟨b, z, kt _ _ hb⟩⟩
theorem GoodsAt.keep {K : PySem.W.Frag} {CG CW : Addr} {H H' : Hp} {g p : Addr} {hs : List (Str × Int)} {ts : List (Str × Str)} {qs : List Pc} {fp : List Addr} (G : GoodsAt K CG CW H g p hs ts qs fp) (k : ∀ b ∈ fp, ∀ o, H b = some o -> H' b = some o) (kt : ∀ b xs, H b = some (.tup xs) -> H' b = some (.tup xs)) : GoodsAt K CG CW H' g p hs ts qs fp := by
 obtain ⟨dx, dw, dy, vs, fpw, h1, h2, h3, h4, h5, m1, m2, m3, m4, m5⟩ := G.ex
 exact ⟨dx, dw, dy, vs, fpw, k _ m1 _ h1, h2.keep (fun b hb o e => k b (m4 b hb) o e) kt, k _ m2 _ h3, k _ m3 _ h4, paired_memL h5 fun v hv q h => h.keep (fun a z u e => k a (m5 v hv a z) u e) kt, m1, m2, m3, m4, m5⟩
theorem GoodsAt.same {K : PySem.W.Frag} {CG CW : Addr} {H H' : Hp} {g p : Addr} {hs : List (Str × Int)} {ts : List (Str × Str)} {qs : List Pc} {fp : List Addr} (G : GoodsAt K CG CW H g p hs ts qs fp) (s : Same H H') : GoodsAt K CG CW H' g p hs ts qs fp := G.keep (fun b _ o e => s b o e) fun b xs e => s b _ e
structure TxtG (K : PySem.W.Frag) (CG : Addr) : Prop where
 cl : Cls K CG
 nW : NoAttr K CG "web"
 nG : NoAttr K CG "weight_by_name"
 nY : NoAttr K CG "ways_by_name"
structure InsK (K : PySem.W.Frag) (C : Addr) : Prop where
 ha : PySem.W.findIn K (.ref C) "__class__" = some (some (.builtin "object.__class__"))
 hn : PySem.W.specialIn K (.builtin "object.__class__") "__get__" = some (some (.builtin "getset_descriptor.__get__"))
 tk : PySem.W.takesIn K (.builtin "object.__class__") = some true
 mo : PySem.W.mroIn K C (.type "object") = some true
theorem kit_self (K : PySem.W.Frag) (c : Value) : PySem.W.kitOne K c c = some true := by
 unfold PySem.W.kitOne
 rw [if_pos (beq_self_eq_true c)]
theorem pcs_vals {K : PySem.W.Frag} {H0 H : Hp} : ∀ {zs : List V} {qs : List Pc}, Paired (PcNew K H0 H) zs qs -> ∃ vs : List V, vs.length = qs.length /\ Paired (fun z (x : Pc × V) => ∃ t, z = .ref t /\ H t = some (.tup [.str x.1.1, .int x.1.2.1, x.2])) zs (qs.zip vs) /\ Paired (fun v (q : Pc) => WyAt K H v q.2.2) vs qs /\ ∀ v ∈ vs, ∀ a, v = .ref a -> H0 a = none
 | _, _, .nil => ⟨[], rfl, .nil, .nil, by simp⟩
 | _, _, .cons ⟨t, v, e, ht, wy, hn⟩ r => by
  obtain ⟨vs, h1, h2, h3, h4⟩ := pcs_vals r
  refine ⟨v :: vs, by simp [h1], .cons ⟨t, e, ht⟩ h2, .cons wy h3, fun u hu => ?_⟩
  rcases List.mem_cons.mp hu with rfl | hu
  ·exact hn
  ·exact h4 u hu
theorem comp_sel {K : PySem.W.Frag} {l D : Addr} {zs : List V} {xs : List (Pc × V)} {H : Hp} {Q : VK} {σ0 : St} {j : Nat} (sel : Pc × V -> V) (hj : ∀ x : Pc × V, [some (V.str x.1.1), some (V.int x.1.2.1), some x.2][j]? = some (some (sel x))) (hσ : σ0 = [none, none, none]) (hl : H l = some (.lst zs))
  (pz : Paired (fun z (x : Pc × V) => ∃ t, z = .ref t /\ H t = some (.tup [.str x.1.1, .int x.1.2.1, x.2])) zs xs) (h1000 : xs.length <= 1000) (hD : H D = none)
  (q : ∀ H' out, Same H H' -> H' D = some (.lst out) -> PairsAt K H' out (xs.map fun x => (Sum.inr x.1.1, sel x)) -> Q (.ref D) H') :
  CompW (Itl K l) (gTup K 3 (gCons (gName 0) (gCons (gName 1) (gCons (gName 2) gNil)))) tYes (tTup (tCons (tVar 0) (tCons (tVar j) tNil))) σ0 D H Q := by
 have sz := sizeLine_eq
 have le := Paired.length pz
 refine comp_list (own := 3) (fv := []) (xs := zs) hσ gok3 (fun i out H' => Same H H' /\ H' D = some (.lst out) /\ PairsAt K H' out ((xs.take i).map fun x => (Sum.inr x.1.1, sel x))) ⟨Same.new hD, upd_same, .nil⟩ (fun i out H' _ ⟨sm, _, _⟩ => .of (sm _ _ hl)) (fun out H4 ⟨sm, hD4, eo⟩ => ?_) (fun i y out H' hy ⟨sm, hD', eo⟩ => ?_)
 ·rw [le, List.take_length] at eo
  exact q _ _ sm hD4 eo
 ·have hi : i < zs.length := (List.getElem?_eq_some_iff.mp hy).1
  have hx : xs[i]? = some (xs[i]'(by omega)) := List.getElem?_eq_getElem (by omega)
  obtain ⟨t, et, ht⟩ := paired_get pz i hi (by omega)
  rw [(List.getElem?_eq_some_iff.mp hy).2] at et
  subst et
  generalize xs[i]'(by omega) = x at hx ht
  have lo := Paired.length eo
  rw [List.length_map, List.length_take] at lo
  refine ⟨_, ⟨t, _, _, _, rfl, .of (sm _ _ ht), rfl⟩, rfl, fun Nx hN => yesT ?_⟩
  refine ⟨_, rfl, _, hj x, by show 2 <= sizeLine; decide, fun p hp => ?_⟩
  have s2 := Same.new (o := .tup [.str x.1.1, sel x]) hp
  refine ⟨out, s2 _ _ hD', by omega, hN _ _ ⟨same_but (sm.trans s2) hD, upd_same, ?_⟩⟩
  rw [take_succ_map _ hx]
  have pD : ∀ {b : Addr} {ys : List V}, upd H' p (.tup [.str x.1.1, sel x]) b = some (.tup ys) -> b ≠ D := fun hb => ne_of hb (s2 _ _ hD') (by intro z; cases z)
  refine paired_app (Paired.mapP eo fun y kv ⟨b, z, hb⟩ => ⟨b, z, by rw [upd_ne (pD (s2 _ _ hb))]; exact s2 _ _ hb⟩) (.cons ⟨p, rfl, ?_⟩ .nil)
  have hp2 : upd H' p (.tup [.str x.1.1, sel x]) p = some (.tup [.str x.1.1, sel x]) := upd_same
  rw [upd_ne (pD hp2)]
  exact hp2
section
variable {P : Program} {w : World} {K : PySem.W.Frag} {mg : Str -> Option Value} {base : Heap}
theorem scGInit : FnScope ["self", "web", "pieces", "checked"] ["self", "web", "pieces"] (defScope sGInit) := ⟨rfl, rfl, rfl, by decide +kernel, rfl, by decide +kernel, by decide +kernel⟩
def spGInit (K : PySem.W.Frag) (CG CW : Addr) : Sp := fun vs H Q _ => ∃ (g dx p l : Addr) (ys : List V) (ps : List Pc) (hs : List (Str × Int)) (ts : List (Str × Str)) (fpw : List Addr), vs = [.ref g, .ref p, .ref l] /\ H g = some (.ins CG dx []) /\ WebAt K CW H p hs ts fpw /\ g ∉ fpw /\ Good hs ts /\ H l = some (.lst ys) /\ PcsAt K H ys ps /\ (∀ q ∈ ps, GoodP ts q) /\ (ps.map (·.1)).Nodup /\ ps.length < 64 /\
 ∀ qs fp H', (∀ b o, H b = some o -> b ≠ g -> H' b = some o) -> GoodsAt K CG CW H' g p hs ts qs fp -> Qs ps qs -> (∀ b ∈ fp, b = g ∨ b ∈ fpw ∨ H b = none) -> Q .non H'
theorem ok_ginit {f CG CW : Addr} {fd : FuncData} (F : Fun K "__init__" "Goods.__init__" sGInit f fd) (T : TxtG K CG) (TW : Txt K mg CW) (IW : InsK K CW) (B : Bi mg) (mWeb : mg "Web" = some (.ref CW)) (cP : Cal P w K mg base 6 "checked_pieces" ["web", "pieces"] (spCPieces K CW)) : FnOk P w K mg base CX0 7 f fd ["self", "web", "pieces"] (spGInit K CG CW) := by
 refine F.ok scGInit (fun vs H Q E h => ?_) (fun cdv A outer s H vs Q E hr h => ?_)
 ·obtain ⟨g, dx, p, l, ys, ps, hs, ts, fpw, rfl, _⟩ := h
  rfl
 ·obtain ⟨g, dx, p, l, ys, ps, hs, ts, fpw, rfl, hg, W, gw, G, hl, pc, gp, nd, h64, k⟩ := h
  refine ⟨_, pss_cons (ps_if (pt_not (pt_val (pe_callB call_isiC (by rfl) B.isi PyProof.Rows.Boot.«isinstance» (pa_cons (pv 1) (pa_cons (pe_glob (v := .ref CW) (by rfl) mWeb rfl) pa_nil))))) pss_never pss_nil)
   (pss_cons (ps_set (i := 3) scGInit.nd rfl (Or.inl rfl) (pe_fn cP hr (pa_cons (pv 1) (pa_cons (pv 2) pa_nil))))
   (pss_cons (ps_fld (pv 0) (pv 1) rfl)
   (pss_cons (ps_fld (pv 0) (pe_callTy (call_dictOf rfl) (by rfl) B.dict PyProof.Rows.Boot.«dict» (pa_cons (pe_comp ["name", "weight", "ways"] 3 [] (pi_list (pv 3)) (fun fp s H => pg_tupC (n := 3) (pgs_cons (pg_name (i := 0) (show (["name", "weight", "ways"] : List Str).Nodup by decide +kernel) rfl (Or.inl rfl)) (pgs_cons (pg_name (i := 1) (show (["name", "weight", "ways"] : List Str).Nodup by decide +kernel) rfl (Or.inl rfl)) (pgs_cons (pg_name (i := 2) (show (["name", "weight", "ways"] : List Str).Nodup by decide +kernel) rfl (Or.inl rfl)) pgs_nil)))) (fun fp s H => pts_nil) (fun fp s H => pe_tup (pa_cons (pv 0) (pa_cons (pv 1) pa_nil)))) pa_nil)) rfl)
   (pss_one (ps_fld (pv 0) (pe_callTy (call_dictOf rfl) (by rfl) B.dict PyProof.Rows.Boot.«dict» (pa_cons (pe_comp ["name", "weight", "ways"] 3 [] (pi_list (pv 3)) (fun fp s H => pg_tupC (n := 3) (pgs_cons (pg_name (i := 0) (show (["name", "weight", "ways"] : List Str).Nodup by decide +kernel) rfl (Or.inl rfl)) (pgs_cons (pg_name (i := 1) (show (["name", "weight", "ways"] : List Str).Nodup by decide +kernel) rfl (Or.inl rfl)) (pgs_cons (pg_name (i := 2) (show (["name", "weight", "ways"] : List Str).Nodup by decide +kernel) rfl (Or.inl rfl)) pgs_nil)))) (fun fp s H => pts_nil) (fun fp s H => pe_tup (pa_cons (pv 0) (pa_cons (pv 2) pa_nil)))) pa_nil)) rfl))))), ?_⟩
  obtain ⟨dxw, d1, l2, d3, zs0, as, ef, w1, _⟩ := id W.ex
  refine ⟨_, rfl, _, _, _, _, rfl, .ins w1 TW.cl IW.ha IW.hn IW.tk IW.mo, kit_self _ _, _, rfl, iteF ?_⟩
  refine ⟨_, rfl, _, rfl, p, l, ys, ps, hs, ts, fpw, rfl, W, G, hl, pc, gp, nd, h64, fun lc zs qs H1 s1 hlc pn Qq => ?_⟩
  obtain ⟨vs, lv, pz, wys, vnew⟩ := pcs_vals pn
  have hg1 := s1 _ _ hg
  have lq : qs.length = ps.length := by
   have := congrArg List.length Qq.nms
   rw [List.length_map, (sortS_perm _).length_eq, List.length_map] at this
   exact this
  have qnd : (qs.map (·.1)).Nodup := by
   rw [Qq.nms]
   exact (sortS_perm _).nodup_iff.mpr nd
  refine ⟨_, rfl, _, rfl, g, CG, dx, [], rfl, hg1, T.cl, T.nW, by show 0 < 1000; decide, ?_⟩
  have up1 : ∀ {b o}, H1 b = some o -> b ≠ g -> upd H1 g (.ins CG dx (putF "web" (.ref p) [])) b = some o := fun e ne => by rw [upd_ne ne]; exact e
  have hg2 : upd H1 g (.ins CG dx (putF "web" (.ref p) [])) g = some (.ins CG dx (putF "web" (.ref p) [])) := upd_same
  have fr1 : ∀ {b}, upd H1 g (.ins CG dx (putF "web" (.ref p) [])) b = none -> H1 b = none := fun {b} e => by
   by_cases z : b = g
   ·rw [z, upd_same] at e; cases e
   ·rw [upd_ne z] at e; exact e
  generalize upd H1 g (.ins CG dx (putF "web" (.ref p) [])) = H2 at up1 hg2 fr1 ⊢
  have lcg : lc ≠ g := ne_of hlc hg1 (by intro z; cases z)
  have pz2 : Paired (fun z (x : Pc × V) => ∃ t, z = .ref t /\ H2 t = some (.tup [.str x.1.1, .int x.1.2.1, x.2])) zs (qs.zip vs) := Paired.mapP pz fun z x ⟨t, e, ht⟩ => ⟨t, e, up1 ht (ne_of ht hg1 (by intro z; cases z))⟩
  have z1000 : (qs.zip vs).length <= 1000 := by rw [List.length_zip]; omega
  refine ⟨_, rfl, lc, rfl, ⟨_, .of (up1 hlc lcg)⟩, fun D hD => ?_⟩
  refine comp_sel (fun x => .int x.1.2.1) (fun x => rfl) rfl (up1 hlc lcg) pz2 z1000 hD fun H3 out s3 hD3 pa3 => ?_
  refine ⟨D, out, _, rfl, hD3, pa3, by rw [List.length_map]; exact z1000, fun dw hdw => ?_⟩
  have ekv : ((qs.zip vs).map fun x : Pc × V => ((Sum.inr x.1.1 : Key), V.int x.1.2.1)) = wKV qs := by
   unfold wKV
   have : (fun x : Pc × V => ((Sum.inr x.1.1 : Key), V.int x.1.2.1)) = (fun q : Pc => ((Sum.inr q.1 : Key), V.int q.2.1)) ∘ Prod.fst := rfl
   rw [this, <- List.map_map, List.map_fst_zip (by omega)]
  have ndk : (qs.map (·.1)).map (Sum.inr : Str -> Key) |>.Nodup := by
   rw [List.nodup_iff_pairwise_ne, List.pairwise_map]
   exact qnd.imp fun n e => n (Sum.inr.inj e)
  rw [ekv, mergeK_nil (by rw [wKV_keys]; exact ndk)]
  have s4 := Same.new (o := .dK (wKV qs)) hdw
  have hg4 := s4 _ _ (s3 _ _ hg2)
  refine ⟨_, rfl, g, CG, dx, _, rfl, hg4, T.cl, T.nG, by show 1 < 1000; decide, ?_⟩
  have s24 := s3.trans s4
  have hdw4 : upd H3 dw (.dK (wKV qs)) dw = some (.dK (wKV qs)) := upd_same
  have dwg : dw ≠ g := (ne_of_none (s3 _ _ hg2) hdw).symm
  have fr4 : ∀ {b}, upd H3 dw (.dK (wKV qs)) b = none -> H2 b = none := fun e => s24.free e
  have dwn : H2 dw = none := s3.free hdw
  generalize upd H3 dw (.dK (wKV qs)) = H4 at s4 hg4 s24 hdw4 fr4 ⊢
  have up5 : ∀ {b o}, H4 b = some o -> b ≠ g -> upd H4 g (.ins CG dx (putF "weight_by_name" (.ref dw) (putF "web" (.ref p) []))) b = some o := fun e ne => by rw [upd_ne ne]; exact e
  have hg5 : upd H4 g (.ins CG dx (putF "weight_by_name" (.ref dw) (putF "web" (.ref p) []))) g = some (.ins CG dx (putF "weight_by_name" (.ref dw) (putF "web" (.ref p) []))) := upd_same
  have fr5 : ∀ {b}, upd H4 g (.ins CG dx (putF "weight_by_name" (.ref dw) (putF "web" (.ref p) []))) b = none -> H4 b = none := fun {b} e => by
   by_cases z : b = g
   ·rw [z, upd_same] at e; cases e
   ·rw [upd_ne z] at e; exact e
  generalize upd H4 g (.ins CG dx (putF "weight_by_name" (.ref dw) (putF "web" (.ref p) []))) = H5 at up5 hg5 fr5 ⊢
  have up15 : ∀ {b o}, H1 b = some o -> b ≠ g -> H5 b = some o := fun e ne => up5 (s24 _ _ (up1 e ne)) ne
  have pz5 : Paired (fun z (x : Pc × V) => ∃ t, z = .ref t /\ H5 t = some (.tup [.str x.1.1, .int x.1.2.1, x.2])) zs (qs.zip vs) := Paired.mapP pz fun z x ⟨t, e, ht⟩ => ⟨t, e, up15 ht (ne_of ht hg1 (by intro z; cases z))⟩
  refine ⟨_, rfl, lc, rfl, ⟨_, .of (up15 hlc lcg)⟩, fun D2 hD2 => ?_⟩
  refine comp_sel (fun x => x.2) (fun x => rfl) rfl (up15 hlc lcg) pz5 z1000 hD2 fun H6 out2 s6 hD6 pa6 => ?_
  refine ⟨D2, out2, _, rfl, hD6, pa6, by rw [List.length_map]; exact z1000, fun dy hdy => ?_⟩
  rw [show ((qs.zip vs).map fun x : Pc × V => ((Sum.inr x.1.1 : Key), x.2)) = yKV qs vs from rfl, mergeK_nil (by rw [yKV_keys lv]; exact ndk)]
  have s7 := Same.new (o := .dK (yKV qs vs)) hdy
  have s57 := s6.trans s7
  have hg7 := s57 _ _ hg5
  refine ⟨_, rfl, g, CG, dx, _, rfl, hg7, T.cl, T.nY, by show 2 < 1000; decide, ?_⟩
  have hdy7 : upd H6 dy (.dK (yKV qs vs)) dy = some (.dK (yKV qs vs)) := upd_same
  have dyg : dy ≠ g := (ne_of_none (s6 _ _ hg5) hdy).symm
  have dyn : H5 dy = none := s6.free hdy
  generalize upd H6 dy (.dK (yKV qs vs)) = H7 at s7 s57 hg7 hdy7 ⊢
  have fin : ∀ {b o}, H1 b = some o -> b ≠ g -> upd H7 g (.ins CG dx (gflds p dw dy)) b = some o := fun e ne => by
   rw [upd_ne ne]
   exact s57 _ _ (up15 e ne)
  have tupf : ∀ b xs, H1 b = some (.tup xs) -> upd H7 g (.ins CG dx (gflds p dw dy)) b = some (.tup xs) := fun b xs e => fin e (ne_of e hg1 (by intro z; cases z))
  have nH : ∀ {b}, H1 b = none -> H b = none := fun e => s1.free e
  refine k qs (g :: dw :: dy :: (fpw ++ vs.filterMap fun v => match v with | .ref a => some a | _ => none)) _ (fun b o e ne => fin (s1 _ _ e) ne) ⟨dx, dw, dy, vs, fpw, upd_same, ?_, ?_, ?_, ?_, by simp, by simp, by simp, fun b hb => by simp [hb], fun v hv a z => ?_⟩ Qq fun b hb => ?_
  ·exact W.keep (fun b hb o e => fin (s1 _ _ e) (fun z => gw (z ▸ hb))) fun b xs e => tupf b xs (s1 _ _ e)
  ·rw [upd_ne dwg]
   exact s57 _ _ (up5 hdw4 dwg)
  ·rw [upd_ne dyg]
   exact hdy7
  ·exact paired_memL wys fun v hv q h => h.keep (fun a z u e => fin e (fun zz => by
    subst zz
    have := vnew v hv _ z
    rw [hg] at this
    cases this)) fun b xs e => tupf b xs e
  ·refine List.mem_cons_of_mem _ (List.mem_cons_of_mem _ (List.mem_cons_of_mem _ (List.mem_append_right _ (List.mem_filterMap.mpr ⟨v, hv, ?_⟩))))
   rw [z]
  ·simp only [List.mem_cons, List.mem_append, List.mem_filterMap] at hb
   rcases hb with rfl | rfl | rfl | hb | ⟨v, hv, e⟩
   ·exact .inl rfl
   ·exact .inr (.inr (nH (fr1 dwn)))
   ·exact .inr (.inr (nH (fr1 (s24.free (fr5 dyn)))))
   ·exact .inr (.inl hb)
   ·cases v with
    | ref a =>
     cases e
     exact .inr (.inr (vnew _ hv _ rfl))
    | _ => cases e
end
end Ev
set_option Elab.async false
set_option linter.all false
set_option maxRecDepth 100000
namespace L2
open PySem
theorem pass1 {P : Program} {w : World} {X : Cx} : Passes (CX1 P w) X E0 := fun _ _ _ _ _ _ _ h => by
 obtain ⟨_, _, _, _, _, _, _, _, _, _, _, _, z⟩ := h
 exact z.elim
end L2
namespace Ev
open PySem L2
structure CalX (P : Program) (w : World) (K : PySem.W.Frag) (mg : Str -> Option Value) (base : Heap) (C : Addr) (k : Nat) (m : Str) (ps : List Str) (sp : Sp) : Prop where
 ex : ∃ f fd, FnOk P w K mg base (CX1 P w) k f fd ps sp /\ Meth K C m f /\ Binds K fd ps []
theorem pe_mx {X : Cx} {C : Addr} {k : Nat} {m : Str} {ps : List Str} {sp : Sp} {pos apos : Pos} {o e : Expr} {es : List Expr} {ta : TE} {t : TA} {pl : Sem Bool} (c : CalX X.prog X.w X.K X.mg X.base C k m ps sp) (cl : Cls X.K C) (hr : Room k X.A) (he : PE X o ta) (ha : PA X (e :: es) t)
  (hst : starEach (e :: es) X.env = (false, eval e X.env) :: starEach es X.env := by rfl) (hpl : (backTo pos (starEach es X.env)).any (·.1) = false := by rfl)
  (ht : eval (.Call (.Attribute o m apos) (e :: es) [] pos) X.env = (do
   let ov <- eval o X.env
   standAt apos.atName
   let (f, first) <- holding [ov] (getMethod ov m pl)
   callWith pos f first (backTo pos (starEach (e :: es) X.env)) (backToKw pos (keywordEach [] X.env))) := by rfl) :
  PE X (.Call (.Attribute o m apos) (e :: es) [] pos) (tMeth C m sp [] E0 ta t) := by
 obtain ⟨f, fd, F, hm, b⟩ := c.ex
 exact pe_meth he cl hm F hr b .nil pass1 ha hst hpl ht
theorem valV_isSome {kvs : List (Key × V)} {ns : List Str} (h : kvs.map (·.1) = ns.map Sum.inr) (x : Str) : (valV kvs (Sum.inr x)).isSome = decide (x ∈ ns) := by
 by_cases hx : x ∈ ns
 ·rw [decide_eq_true hx]
  refine valV_some ?_
  rw [h]
  exact List.mem_map.mpr ⟨x, hx, rfl⟩
 ·rw [decide_eq_false hx, valV_none_of]
  ·rfl
  ·rw [h]
   intro m
   obtain ⟨y, hy, e⟩ := List.mem_map.mp m
   cases e
   exact hx hy
theorem valV_y {qs : List Pc} {vs : List V} (nd : (qs.map (·.1)).Nodup) {K : PySem.W.Frag} {H : Hp} (h : Paired (fun v (q : Pc) => WyAt K H v q.2.2) vs qs) {q : Pc} (hq : q ∈ qs) : ∃ v ∈ vs, valV (yKV qs vs) (Sum.inr q.1) = some v /\ WyAt K H v q.2.2 := by
 obtain ⟨j, hj, e⟩ := List.getElem_of_mem hq
 have hl := Paired.length h
 have hv : j < vs.length := by omega
 have p := paired_get h j hv hj
 rw [e] at p
 exact ⟨vs[j], List.getElem_mem hv, valV_zip nd (by omega) (by rw [List.getElem?_eq_getElem hj, e]) (List.getElem?_eq_getElem hv), p⟩
def goB (hs : List (Str × Int)) (ts : List (Str × Str)) (o : Option (List (Str × Str))) (x y : Option Str) : Bool :=
 tiedB hs ts x y && match o, x, y with
  | none, _, _ => true
  | some ws, some a, some b => decide (ord2 a b ∈ ws)
  | _, _, _ => false
section
variable {P : Program} {w : World} {K : PySem.W.Frag} {mg : Str -> Option Value} {base : Heap}
theorem scGHas : FnScope ["self", "thing"] ["self", "thing"] (defScope sGHas) := ⟨rfl, rfl, rfl, by decide +kernel, rfl, by decide +kernel, by decide +kernel⟩
def spGHas (K : PySem.W.Frag) (CG CW : Addr) : Sp := fun vs H Q _ => ∃ (g p : Addr) (v : V) (x : Option Str) (hs : List (Str × Int)) (ts : List (Str × Str)) (qs : List Pc) (fp : List Addr), vs = [.ref g, v] /\ GoodsAt K CG CW H g p hs ts qs fp /\ StrV K H v x /\ Q (.bl (inB (qs.map (·.1)) x)) H
theorem ok_ghas {f CG CW : Addr} {fd : FuncData} (F : Fun K "has_piece" "Goods.has_piece" sGHas f fd) (T : TxtG K CG) (B : Bi mg) : FnOk P w K mg base CX0 1 f fd ["self", "thing"] (spGHas K CG CW) := by
 refine F.ok scGHas (fun vs H Q E h => ?_) (fun cdv A outer s H vs Q E hr h => ?_)
 ·obtain ⟨g, p, v, x, hs, ts, qs, fp, rfl, _⟩ := h
  rfl
 ·obtain ⟨g, p, v, x, hs, ts, qs, fp, rfl, G, sv, k⟩ := h
  have hu := hu_of hr
  obtain ⟨dx, dw, dy, vs, fpw, h1, h2, h3, h4, h5, m1, m2, m3, m4, m5⟩ := G.ex
  refine ⟨_, pss_one (ps_ret (pe_and (pe_callB call_isi (by rfl) B.isi PyProof.Rows.Boot.«isinstance» (pa_cons (pv 1) (pa_cons (pe_bltn (v := .ty "str") (by rfl) B.str PyProof.Rows.Boot.«str» rfl) pa_nil))) (pe_one (pe_cmp (pc_din hu (pv 1) (pe_fld (pv 0) rfl)))))), ?_⟩
  cases x with
  | some x =>
   cases (show v = .str x from sv)
   refine ⟨_, rfl, _, _, _, _, rfl, .str x, rfl, _, rfl, iteT ?_⟩
   refine ⟨_, rfl, _, rfl, g, CG, dx, _, _, rfl, h1, T.cl, T.nG, gflds_g _ _ _, dw, _, rfl, .k (k := Sum.inr x) h3, ?_⟩
   rw [valV_isSome (wKV_keys qs)]
   exact k
  | none =>
   obtain ⟨t, ty, e⟩ := sv
   exact ⟨_, rfl, _, _, _, _, rfl, ty, e, _, rfl, iteF k⟩
theorem scGNames : FnScope ["self"] ["self"] (defScope sGNames) := ⟨rfl, rfl, rfl, by decide +kernel, rfl, by decide +kernel, by decide +kernel⟩
def spGNames (K : PySem.W.Frag) (CG CW : Addr) : Sp := fun vs H Q _ => ∃ (g p : Addr) (hs : List (Str × Int)) (ts : List (Str × Str)) (qs : List Pc) (fp : List Addr), vs = [.ref g] /\ GoodsAt K CG CW H g p hs ts qs fp /\ ∀ l, H l = none -> Q (.ref l) (upd H l (.lst ((qs.map (·.1)).map V.str)))
theorem ok_gnames {f CG CW : Addr} {fd : FuncData} (F : Fun K "names" "Goods.names" sGNames f fd) (T : TxtG K CG) (B : Bi mg) : FnOk P w K mg base CX0 1 f fd ["self"] (spGNames K CG CW) := by
 refine F.ok scGNames (fun vs H Q E h => ?_) (fun cdv A outer s H vs Q E hr h => ?_)
 ·obtain ⟨g, p, hs, ts, qs, fp, rfl, _⟩ := h
  rfl
 ·obtain ⟨g, p, hs, ts, qs, fp, rfl, G, k⟩ := h
  obtain ⟨dx, dw, dy, vs, fpw, h1, h2, h3, h4, h5, m1, m2, m3, m4, m5⟩ := G.ex
  refine ⟨_, pss_one (ps_ret (pe_callTy (call_listD rfl) (by rfl) B.list PyProof.Rows.Boot.«list» (pa_cons (pe_fld (pv 0) rfl) pa_nil))), ?_⟩
  refine ⟨_, rfl, g, CG, dx, _, _, rfl, h1, T.cl, T.nG, gflds_g _ _ _, dw, _, rfl, .inl h3, fun l hl => ?_⟩
  have e : ((wKV qs).map fun kv => kV kv.1) = (qs.map (·.1)).map V.str := by
   unfold wKV
   rw [List.map_map, List.map_map]
   rfl
  rw [e]
  exact k l hl
structure Ref (K : PySem.W.Frag) (mg : Str -> Option Value) (x : Str) (C : Addr) : Prop where
 mg : mg x = some (.ref C)
 ex : PySem.W.excIn K C [.type "ValueError", .type "Exception", .type "BaseException", .type "object"] "ValueError.__new__" = true
def spGWeight (K : PySem.W.Frag) (CG CW CP : Addr) : Sp := fun vs H Q E => ∃ (g p : Addr) (v : V) (x : Option Str) (hs : List (Str × Int)) (ts : List (Str × Str)) (qs : List Pc) (fp : List Addr), vs = [.ref g, v] /\ GoodsAt K CG CW H g p hs ts qs fp /\ (qs.map (·.1)).Nodup /\ StrV K H v x /\
 ((∃ q ∈ qs, x = some q.1 /\ Q (.int q.2.1) H) ∨ (inB (qs.map (·.1)) x = false /\ E (.ref CP) none H))
theorem scGMay : FnScope ["self", "piece", "one", "other", "ties"] ["self", "piece", "one", "other"] (defScope sGMay) := ⟨rfl, rfl, rfl, by decide +kernel, rfl, by decide +kernel, by decide +kernel⟩
def spGMay (K : PySem.W.Frag) (CG CW CP : Addr) : Sp := fun vs H Q E => ∃ (g p : Addr) (v u1 u2 : V) (x y1 y2 : Option Str) (hs : List (Str × Int)) (ts : List (Str × Str)) (qs : List Pc) (fp : List Addr), vs = [.ref g, v, u1, u2] /\ GoodsAt K CG CW H g p hs ts qs fp /\ (qs.map (·.1)).Nodup /\ (nmsOf hs).Nodup /\ StrV K H v x /\
 ((∃ q ∈ qs, x = some q.1 /\ StrV K H u1 y1 /\ StrV K H u2 y2 /\ ∀ H', Same H H' -> Q (.bl (goB hs ts q.2.2 y1 y2)) H') ∨ (inB (qs.map (·.1)) x = false /\ E (.ref CP) none H))
theorem ok_gmay {f CG CW CP : Addr} {fd : FuncData} (F : Fun K "may_go" "Goods.may_go" sGMay f fd) (T : TxtG K CG) (TW : Txt K mg CW) (R : Ref K mg "NoPiece" CP) (cH : CalM P w K mg base CG 1 "has_piece" ["self", "thing"] (spGHas K CG CW)) (cT : CalM P w K mg base CW 2 "are_tied" ["self", "one", "other"] (spTiedA K CW)) (cL : Cal P w K mg base 1 "lesser_first" ["one", "other"] spLesser) :
  FnOk P w K mg base (CX1 P w) 3 f fd ["self", "piece", "one", "other"] (spGMay K CG CW CP) := by
 refine F.okX scGMay (fun vs H Q E h => ?_) (fun cdv A outer s H vs Q E hr h => ?_)
 ·obtain ⟨g, p, v, u1, u2, x, y1, y2, hs, ts, qs, fp, rfl, _⟩ := h
  rfl
 ·obtain ⟨g, p, v, u1, u2, x, y1, y2, hs, ts, qs, fp, rfl, G, nd, nnd, sv, k⟩ := h
  have hu := hu_of hr
  have hr1 : Room 1 _ := hr.mono (by decide)
  obtain ⟨dx, dw, dy, vs, fpw, h1, h2, h3, h4, h5, m1, m2, m3, m4, m5⟩ := id G.ex
  have hno : (gflds p dw dy).lookup ("has_piece" : Str) = none := gflds_no _ _ _ (by decide +kernel) (by decide +kernel) (by decide +kernel)
  obtain ⟨dxw, d1, l2, d3, zs0, as, ef, w1, _⟩ := id h2.ex
  have hnw : (flds d1 l2 d3).lookup ("are_tied" : Str) = none := flds_no _ _ _ (by decide +kernel) (by decide +kernel) (by decide +kernel)
  refine ⟨_, pss_cons (ps_if (pt_not (pt_val (pe_mt cH T.cl hr1 (pv 0) (pa_cons (pv 1) pa_nil)))) (pss_one (ps_raise rfl raises1 R.mg R.ex PySem.F.excBase_ValueError (by rfl) (pa_cons pe_str pa_nil))) pss_nil)
   (pss_cons (ps_if (pt_not (pt_val (pe_mt cT TW.cl hr (pe_fld (pv 0) rfl) (pa_cons (pv 2) (pa_cons (pv 3) pa_nil))))) (pss_one (ps_ret pe_bl)) pss_nil)
   (pss_cons (ps_set (i := 4) scGMay.nd rfl (Or.inl rfl) (pe_dget hu (pe_fld (pv 0) rfl) (pv 1) (fun _ _ => rfl)))
   (pss_one (ps_ret (pe_or (pe_cmp (pc_isN (pv 4))) (pe_one (pe_cmpR (op_inD (cmp2 cmpS cmpS) (roomU hr _)) (pe_fn cL hr1 (pa_cons (pv 2) (pa_cons (pv 3) pa_nil))) (pv 4) (by with_unfolding_all rfl)))))))), ?_⟩
  refine ⟨_, rfl, g, dx, _, rfl, h1, hno, _, rfl, g, p, v, x, hs, ts, qs, fp, rfl, G, sv, _, rfl, ?_⟩
  rcases k with ⟨q, hq, rfl, s1, s2, k⟩ | ⟨hb, k⟩
  ·cases (show v = .str q.1 from sv)
   rw [show inB (qs.map (·.1)) (some q.1) = true from decide_eq_true (List.mem_map.mpr ⟨q, hq, rfl⟩)]
   refine iteF ?_
   refine ⟨_, rfl, g, CG, dx, _, _, rfl, h1, T.cl, T.nW, gflds_w _ _ _, p, dxw, _, rfl, w1, hnw, _, rfl, _, rfl, p, u1, u2, y1, y2, hs, ts, fpw, rfl, h2, nnd, s1, s2, _, rfl, ?_⟩
   cases tb : tiedB hs ts y1 y2 with
   | false =>
    refine iteT ?_
    have := k H (Same.refl H)
    unfold goB at this
    rw [tb, Bool.false_and] at this
    exact this
   | true =>
    refine iteF ?_
    obtain ⟨u, hu', eu, wy⟩ := valV_y nd h5 hq
    refine ⟨_, rfl, g, CG, dx, _, _, rfl, h1, T.cl, T.nY, gflds_y _ _ _, _, rfl, dy, u, rfl, ?_, ?_⟩
    ·rw [<- eu]
     exact .k (k := Sum.inr q.1) h4
    ·refine ⟨_, rfl, _, rfl, ?_⟩
     unfold goB at k
     rw [tb] at k
     cases e : q.2.2 with
     | none =>
      rw [e] at wy k
      cases (show u = .non from wy)
      exact iteT (k H (Same.refl H))
     | some ws =>
      rw [e] at wy k
      obtain ⟨a, ys, rfl, ha, tu⟩ := wy
      cases y1 with
      | none => cases tb
      | some a1 =>
       cases y2 with
       | none => cases tb
       | some a2 =>
        cases (show u1 = .str a1 from s1)
        cases (show u2 = .str a2 from s2)
        refine iteF ⟨_, rfl, _, rfl, a1, a2, rfl, fun t ht => ?_⟩
        have s3 : Same H (upd H t (.tup [.str (ord2 a1 a2).1, .str (ord2 a1 a2).2])) := Same.new ht
        refine ⟨_, rfl, ord2 a1 a2, ws, ⟨t, _, _, rfl, .of upd_same, rfl, rfl⟩, ⟨a, ys, rfl, .of (s3 _ _ ha), reps_of (tu.same s3)⟩, ?_⟩
        have z := k _ s3
        rw [Bool.true_and] at z
        rw [if_neg Bool.false_ne_true]
        show Q (.bl _) _
        have z : Q (.bl (decide (ord2 a1 a2 ∈ ws))) (upd H t (.tup [.str (ord2 a1 a2).1, .str (ord2 a1 a2).2])) := z
        generalize upd H t (.tup [.str (ord2 a1 a2).1, .str (ord2 a1 a2).2]) = Hz at z ⊢
        by_cases hm : ord2 a1 a2 ∈ ws
        ·simpa [hm] using z
        ·simpa [hm] using z
  ·rw [hb]
   exact iteT ⟨by show 1 <= sizeLine; decide, k⟩
end
end Ev
set_option Elab.async false
set_option linter.all false
set_option maxRecDepth 100000
namespace L2
open PySem PySem.Spec PyProof.Rows PySem.W
theorem rel_key {P : Program} {w : World} {k : Key} {key : Value} (h : (mixKind P w).is k key = true) : RelV (kV k) key := by
 have e2 : keyIs k key = true := h
 rcases keyIs_shape e2 with ⟨i, t, rfl, rfl⟩ | ⟨x, t, rfl, rfl⟩
 ·exact ⟨t, rfl⟩
 ·exact ⟨t, rfl⟩
def Itm (d : Addr) (o : Obj) (kvs : List (Key × V)) : It := ⟨fun i H => H d = some (.frz o (.dK kvs)) /\ i < kvs.length, fun i H y H' => ∃ t k x, y = .ref t /\ H t = none /\ kvs[i]? = some (k, x) /\ H' = upd H t (.tup [kV k, x]), fun i H => H d = some (.frz o (.dK kvs)) /\ kvs.length <= i⟩
theorem turn_items {P : Program} {w : World} {K : PySem.W.Frag} {elts : List Expr} {kk : Nat} {pos : Pos} (d it : Addr) (o : Obj) (kvs : List (Key × V)) {es : Array DictEntry} {ep : Nat} (ho : o.data = .dict es ep) : Turn P w K (.Tuple elts kk pos) (Itm d o kvs) [it] it (fun i h => ∃ ok ov, IsItemIter h it d i kvs.length ep ok ov) where
 mem := by simp
 obj := fun i h st b hb => by
  obtain rfl : b = it := by simpa using hb
  obtain ⟨ok, ov, q⟩ := st
  exact ⟨_, q, fun v z => by cases z⟩
 keep := fun i h h' st k => by
  obtain ⟨ok, ov, q⟩ := st
  exact ⟨ok, ov, k it (by simp) _ q⟩
 item := by
  intro X hP hw hK hc i pins s σ H E I hf st hg
  subst hP hw hK
  obtain ⟨hd, hi⟩ := hg
  obtain ⟨vs, rel, dat⟩ := dictAt_frz I hd ho
  obtain ⟨⟨k, x⟩, hx⟩ : ∃ p, kvs[i]? = some p := ⟨kvs[i], by simp [hi]⟩
  obtain ⟨u, hu, ru⟩ := kv_get rel i hx
  obtain ⟨ok, ov, st⟩ := st
  have itl : it < s.heap.objs.size := Heap.lt_size st
  rw [rel.length] at st
  refine wpAny_pyNext_items_item st dat hu fun key h' hk out ht sz kp => ?_
  refine ⟨_, rfl, wpAny_letOwnedTupleGo_items (s := { s with heap := h' }) out fun h2 st2 sb => ?_⟩
  have nT : s.heap.objs.size ≠ it := Nat.ne_of_gt itl
  have I1 : Inv X pins σ (upd H s.heap.objs.size (.tup [kV k, x])) { s with heap := h2 } := I.turnedN (t' := s.toks) (fp := [it]) (its := [key, u]) (fun b o hb q => (sb.2 b (by simpa using hb)).trans (kp b o (by simpa using hb) q)) hf (Nat.le_refl _) (by show 2 <= sizeLine; decide) (.cons (rel_key hk) (.cons ru .nil)) ⟨⟨_, (sb.2 _ nT).trans ht, rfl, _, rfl⟩, _, (sb.2 _ nT).trans ht, rfl⟩
  refine ⟨.ref _, _, I1, rfl, ⟨_, k, x, rfl, I.hok.fresh (Nat.le_refl _), hx, rfl⟩, ⟨_, _, by rw [rel.length]; exact st2⟩, fun b hb => ?_⟩
  have e : b = it := by simpa using hb
  rw [upd_ne (fun z => nT (z.symm.trans e))]
  exact (hf b hb).1
 done := by
  intro X hP hw hK hc i pins s σ H E I hf st hg
  subst hP hw hK
  obtain ⟨hd, hi⟩ := hg
  obtain ⟨vs, rel, dat⟩ := dictAt_frz I hd ho
  obtain ⟨f0, f1, f2, f3, f4, f5⟩ := hf it (by simp)
  obtain ⟨ok, ov, st⟩ := st
  rw [rel.length] at st hi
  exact wpAny_pyNext_items_end (I.ok.hd hc) st dat (by simp; omega) fun h' eb => ⟨rfl, I.turned (t' := s.toks) (fun b o hb e => eb b o hb e) f0 f1 f3 f4 f5⟩
 self := fun A i s Q E st h => by
  obtain ⟨ok, ov, q⟩ := st
  exact kcp_self q h
def iItems (tv : TE) : TI := fun σ H R => tv σ H fun x H1 => ∃ v d kvs, x = .ref v /\ H1 v = some (itemsV v d) /\ H1 d = some (.dK kvs) /\ ∀ o, R (Itm d o kvs) (upd H1 d (.frz o (.dK kvs)))
theorem pi_items {X : Cx} {elts : List Expr} {kk : Nat} {p2 : Pos} {e : Expr} {tv : TE} (he : PE X e tv) : PI X (.Tuple elts kk p2) e (iItems tv) := by
 intro pins s σ H R I h
 refine thn (he pins s σ H _ I h) fun u s1 ⟨x, H1, I1, r1, v, d, kvs, ex, hv, hd, q⟩ => ?_
 subst ex
 cases r1
 obtain ⟨iv, _, _⟩ := I1.hok v _ hv
 obtain ⟨o, ho, I2⟩ := I1.freeze hd
 obtain ⟨z, _, vs, rel, o', es, ep, ho', c', dt, r⟩ := dk_of I1.hok hd
 rw [ho] at ho'
 cases ho'
 refine wpAny_pyIter_items (knd := mixKind X.prog X.w) (kvs := vs) (ep := ep) iv ⟨o, es, ho, c', dt, r⟩ ?_
 refine ⟨s1.heap.objs.size, [s1.heap.objs.size], _, _, _, rfl, I2.kept (t' := s1.toks) fun b o e => Heap.get?_push_of_some _ e, turn_items d _ o kvs dt, ?_, fun b hb => ?_, q o⟩
 ·rw [rel.length]
  exact ⟨.none, .none, Heap.get?_push_size _ rfl⟩
 ·obtain rfl : b = s1.heap.objs.size := by simpa using hb
  exact I2.fpOk (Nat.le_refl _) (I2.hok.fresh (Nat.le_refl _))
theorem for_items {d : Addr} {o : Obj} {kvs : List (Key × V)} {g : TG} {tb : TS} {D : Ends} {σ : St} {H : Hp} (Pv : Nat -> St -> Hp -> Prop) (h0 : Pv 0 σ H) (hl : ∀ i σ H, i <= kvs.length -> Pv i σ H -> H d = some (.frz o (.dK kvs)))
  (hs : ∀ i k x σ H, kvs[i]? = some (k, x) -> Pv i σ H -> ∀ t, H t = none -> g (.ref t) σ (upd H t (.tup [kV k, x])) fun σ2 H2 => tb { D with nx := Pv (i + 1), ct := Pv (i + 1), bk := D.nx } σ2 H2) (hd : ∀ σ H, Pv kvs.length σ H -> D.nx σ H) :
  ∃ W : Nat -> Nat -> St -> Hp -> Prop, (∃ m, W 0 m σ H) /\ ∀ i m σ H, W i m σ H ->
   ((Itm d o kvs).stop i H /\ D.nx σ H) ∨ ((Itm d o kvs).go i H /\ ∃ N : St -> Hp -> Prop, (∀ σ' H', N σ' H' -> ∃ m', m' < m /\ W (i + 1) m' σ' H') /\ ∀ x H', (Itm d o kvs).yld i H x H' -> g x σ H' fun σ2 H2 => tb { D with nx := N, ct := N, bk := D.nx } σ2 H2) := by
 refine ⟨fun i m σ H => m = kvs.length - i /\ i <= kvs.length /\ Pv i σ H, ⟨kvs.length, by simp, Nat.zero_le _, h0⟩, ?_⟩
 rintro i m σ H ⟨rfl, hi, p⟩
 have q := hl i σ H hi p
 by_cases hlt : i < kvs.length
 ·refine .inr ⟨⟨q, hlt⟩, Pv (i + 1), fun σ' H' p' => ⟨kvs.length - (i + 1), by omega, rfl, hlt, p'⟩, fun x H' y => ?_⟩
  obtain ⟨t, k, x, rfl, ht, hx, rfl⟩ := y
  exact hs i k x σ H hx p t ht
 ·have e : i = kvs.length := by omega
  subst e
  exact .inl ⟨⟨q, Nat.le_refl _⟩, hd σ H p⟩
def Itk (d : Addr) (o : Obj) (kvs : List (Key × V)) : It := ⟨fun i H => H d = some (.frz o (.dK kvs)) /\ i < kvs.length, fun i H y H' => H' = H /\ ∃ k x, kvs[i]? = some (k, x) /\ y = kV k, fun i H => H d = some (.frz o (.dK kvs)) /\ kvs.length <= i⟩
def iKeys (tv : TE) : TI := fun σ H R => tv σ H fun x H1 => ∃ d kvs, x = .ref d /\ H1 d = some (.dK kvs) /\ ∀ o, R (Itk d o kvs) (upd H1 d (.frz o (.dK kvs)))
def tThawS (t : TS) : TS := fun D σ H => ∃ d kvs, H d = some (.dK kvs) /\ t { nx := fun σ1 H1 => ∃ o, H1 d = some (.frz o (.dK kvs)) /\ D.nx σ1 (upd H1 d (.dK kvs)), rt := fun v H1 => ∃ o, H1 d = some (.frz o (.dK kvs)) /\ D.rt v (upd H1 d (.dK kvs)) } σ H
theorem ps_thaw {X : Cx} {st : Stmt} {t : TS} (h : PS X st t) : PS X st (tThawS t) := by
 intro pins s σ H D I q
 obtain ⟨d, kvs, hd, q⟩ := q
 have nf : ∀ o u, X.H₀ d ≠ some (.frz o u) := fun o u z => by
  have := I.base.frzs _ _ _ z
  rw [hd] at this
  cases this
 refine thn (h pins s σ H _ I q) fun f s' p => ?_
 cases f with
 | next =>
  obtain ⟨σ1, H1, I1, o, hf, q1⟩ := p
  exact ⟨σ1, _, I1.thaw hf nf, q1⟩
 | brk =>
  obtain ⟨σ1, H1, I1, q1⟩ := p
  exact False.elim q1
 | cont =>
  obtain ⟨σ1, H1, I1, q1⟩ := p
  exact False.elim q1
 | ret u =>
  obtain ⟨v, σ1, H1, I1, r, o, hf, q1⟩ := p
  exact ⟨v, σ1, _, I1.thaw hf nf, r, q1⟩
def rDClear : V -> List V -> Hp -> VK -> Prop := fun x vs H Q => ∃ d kvs, x = .ref d /\ vs = [] /\ H d = some (.dK kvs) /\ Q .non (upd H d (.dK []))
def rSumI (K : PySem.W.Frag) : List V -> Hp -> VK -> Prop := fun xs H Q => ∃ (l : Addr) (ns : List Int), xs = [.ref l] /\ SqL K H l (ns.map V.int) /\ Q (.int ns.sum) H
def rListI (K : PySem.W.Frag) : List V -> Hp -> VK -> Prop := fun xs H Q => ∃ v d kvs, xs = [.ref v] /\ H v = some (itemsV v d) /\ Rd H d (.dK kvs) /\ ∀ l ys H', H l = none -> Same H H' -> H' l = some (.lst ys) -> PairsAt K H' ys kvs -> Q (.ref l) H'
end L2
set_option Elab.async false
set_option linter.all false
set_option maxRecDepth 100000
namespace Ev
open PySem L2
structure Fz (d : Addr) (o : Obj) (kvs : List (Key × V)) (H H' : Hp) : Prop where
 at_ : H' d = some (.frz o (.dK kvs))
 sm : ∀ b u, b ≠ d -> H b = some u -> H' b = some u
section
variable {d : Addr} {o : Obj} {kvs : List (Key × V)} {H H' H2 : Hp}
theorem Fz.start : Fz d o kvs H (upd H d (.frz o (.dK kvs))) := ⟨upd_same, fun b u ne e => by rw [upd_ne ne]; exact e⟩
theorem Fz.step (f : Fz d o kvs H H') (s : Same H' H2) : Fz d o kvs H H2 := ⟨s _ _ f.at_, fun b u ne e => s _ _ (f.sm b u ne e)⟩
theorem Fz.thaw (f : Fz d o kvs H H') (hd : H d = some (.dK kvs)) : Same H (upd H' d (.dK kvs)) := fun b u e => by
 by_cases z : b = d
 ·subst z
  rw [hd] at e
  cases e
  exact upd_same
 ·rw [upd_ne z]
  exact f.sm b u z e
theorem Fz.goods {K : PySem.W.Frag} {CG CW g p : Addr} {hs : List (Str × Int)} {ts : List (Str × Str)} {qs : List Pc} {fp : List Addr} (f : Fz d o kvs H H') (hd : H d = some (.dK kvs)) (G : GoodsAt K CG CW H g p hs ts qs fp) (nd : d ∉ fp) : GoodsAt K CG CW H' g p hs ts qs fp :=
 G.keep (fun b hb u e => f.sm b u (fun z => nd (z ▸ hb)) e) fun b xs e => f.sm b _ (ne_of e hd (by intro z; cases z)) e
end
def mKV (ns : List Str) (g : Str -> V) : List (Key × V) := ns.map fun n => (Sum.inr n, g n)
theorem mKV_keys (ns : List Str) (g : Str -> V) : (mKV ns g).map (·.1) = ns.map Sum.inr := by
 unfold mKV
 rw [List.map_map]
 rfl
theorem mKV_len (ns : List Str) (g : Str -> V) : (mKV ns g).length = ns.length := List.length_map _
theorem mKV_get {ns : List Str} {g : Str -> V} {n : Str} (h : n ∈ ns) : valV (mKV ns g) (Sum.inr n) = some (g n) := by
 induction ns with
 | nil => cases h
 | cons m ns ih =>
  by_cases e : m = n
  ·subst e
   exact valV_pos rfl
  ·have : valV (mKV (m :: ns) g) (Sum.inr n) = valV (mKV ns g) (Sum.inr n) := valV_neg fun z => e (Sum.inr.inj z)
   rw [this]
   rcases List.mem_cons.mp h with z | z
   ·exact absurd z.symm e
   ·exact ih z
theorem mKV_congr {ns : List Str} {g k : Str -> V} (h : ∀ n ∈ ns, g n = k n) : mKV ns g = mKV ns k := List.map_congr_left fun n hn => by rw [h n hn]
theorem mKV_put {ns : List Str} {g : Str -> V} {n : Str} {v : V} (h : n ∈ ns) : putK (mKV ns g) (Sum.inr n) v = mKV ns fun m => if m = n then v else g m := by
 unfold putK
 rw [if_pos]
 ·unfold mKV
  rw [List.map_map]
  refine List.map_congr_left fun m _ => ?_
  by_cases e : m = n
  ·subst e
   simp
  ·have : ¬ ((Sum.inr m : Key) = Sum.inr n) := fun z => e (Sum.inr.inj z)
   simp [e]
 ·refine List.any_eq_true.mpr ⟨(Sum.inr n, g n), List.mem_map.mpr ⟨n, h, rfl⟩, by simp⟩
theorem mKV_new {ns : List Str} {g : Str -> V} {n : Str} {v : V} (h : n ∉ ns) : putK (mKV ns g) (Sum.inr n) v = mKV (ns ++ [n]) fun m => if m = n then v else g m := by
 rw [putK_new _ (valV_none_of (by
  rw [mKV_keys]
  intro m
  obtain ⟨x, hx, e⟩ := List.mem_map.mp m
  exact h (Sum.inr.inj e ▸ hx)))]
 unfold mKV
 rw [List.map_append]
 congr 1
 ·refine List.map_congr_left fun m hm => ?_
  have e : ¬ m = n := fun z => h (z ▸ hm)
  simp [e]
 ·simp
theorem mKV_at {ns : List Str} {g : Str -> V} {i : Nat} {k : Key} {x : V} (h : (mKV ns g)[i]? = some (k, x)) : ∃ n, ns[i]? = some n /\ k = Sum.inr n /\ x = g n := by
 unfold mKV at h
 rw [List.getElem?_map] at h
 cases e : ns[i]? with
 | none => rw [e] at h; cases h
 | some n =>
  rw [e] at h
  have h := Option.some.inj h
  exact ⟨n, rfl, (congrArg Prod.fst h).symm, (congrArg Prod.snd h).symm⟩
theorem nodup_at {ns : List Str} (nd : ns.Nodup) {i : Nat} {n : Str} (h : ns[i]? = some n) : n ∉ ns.take i := by
 have q := nodup_take (g := id) (ts := ns) (by rw [List.map_id]; exact nd) h
 rwa [List.map_id] at q
theorem take_at {ns : List Str} {i : Nat} {n : Str} (h : ns[i]? = some n) : ns.take (i + 1) = ns.take i ++ [n] := by
 rw [List.take_add_one, h]
 rfl
abbrev stF (ns : List Str) (f : Str -> Str) : List (Key × V) := mKV ns fun n => .str (f n)
def wOf (q : Pc) : Str × Int := (q.1, q.2.1)
theorem Qs.nd {ps qs : List Pc} (Q : Qs ps qs) (nd : (ps.map (·.1)).Nodup) : (qs.map (·.1)).Nodup := by
 rw [Q.nms]
 exact (sortS_perm _).nodup_iff.mpr nd
theorem Qs.len {ps qs : List Pc} (Q : Qs ps qs) : qs.length = ps.length := by
 have := congrArg List.length Q.nms
 rw [List.length_map, (sortS_perm _).length_eq, List.length_map] at this
 exact this
theorem inj_names {α : Type} {ps : List (Str × α)} (nd : (ps.map (·.1)).Nodup) {a b : Str × α} (ha : a ∈ ps) (hb : b ∈ ps) (e : a.1 = b.1) : a = b := by
 induction ps with
 | nil => cases ha
 | cons p ps ih =>
  rw [List.map_cons, List.nodup_cons] at nd
  rcases List.mem_cons.mp ha with za | ha
  ·rcases List.mem_cons.mp hb with zb | hb
   ·rw [za, zb]
   ·rw [za] at e
    exact absurd (show p.1 ∈ ps.map (·.1) from List.mem_map.mpr ⟨b, hb, e.symm⟩) nd.1
  ·rcases List.mem_cons.mp hb with zb | hb
   ·rw [zb] at e
    exact absurd (show p.1 ∈ ps.map (·.1) from List.mem_map.mpr ⟨a, ha, e⟩) nd.1
   ·exact ih nd.2 ha hb
end Ev
set_option Elab.async false
set_option linter.all false
set_option maxRecDepth 100000
namespace Ev
open PySem L2
section
variable {P : Program} {w : World} {K : PySem.W.Frag} {mg : Str -> Option Value} {base : Heap}
structure StandOk (hs : List (Str × Int)) (qs : List Pc) (ns : List Str) (f : Str -> Str) : Prop where
 perm : ns.Perm (qs.map (·.1))
 at_ : ∀ n ∈ ns, f n ∈ hs.map (·.1)
theorem scCStand : FnScope ["goods", "stand", "piece", "hand", "names"] ["goods", "stand"] (defScope sCStand) := ⟨rfl, rfl, rfl, by decide +kernel, rfl, by decide +kernel, by decide +kernel⟩
def spCStand (K : PySem.W.Frag) (CG CW : Addr) : Sp := fun vs H Q _ => ∃ (g p d : Addr) (hs : List (Str × Int)) (ts : List (Str × Str)) (qs : List Pc) (fp : List Addr) (ns : List Str) (f : Str -> Str), vs = [.ref g, .ref d] /\ GoodsAt K CG CW H g p hs ts qs fp /\ d ∉ fp /\ H d = some (.dK (stF ns f)) /\ StandOk hs qs ns f /\ (qs.map (·.1)).Nodup /\ qs.length < 64 /\
 ∀ d' H', Same H H' -> H d' = none -> H' d' = some (.dK (stF (qs.map (·.1)) f)) -> Q (.ref d') H'
theorem ok_cstand {f CG CW : Addr} {fd : FuncData} (F : Fun K "checked_stand" "checked_stand" sCStand f fd) (B : Bi mg) (T : TxtG K CG) (TW : Txt K mg CW) (cH : CalM P w K mg base CG 1 "has_piece" ["self", "thing"] (spGHas K CG CW)) (cW : CalM P w K mg base CW 1 "has_hand" ["self", "thing"] (spHas K CW)) (cN : CalM P w K mg base CG 1 "names" ["self"] (spGNames K CG CW)) :
  FnOk P w K mg base CX0 2 f fd ["goods", "stand"] (spCStand K CG CW) := by
 refine F.ok scCStand (fun vs H Q E h => ?_) (fun cdv A outer s H vs Q E hr h => ?_)
 ·obtain ⟨g, p, d, hs, ts, qs, fp, ns, f, rfl, _⟩ := h
  rfl
 ·obtain ⟨g, p, d, hs, ts, qs, fp, ns, f, rfl, G, dfp, hd, so, nd, h64, k⟩ := h
  have hu := hu_of hr
  have sz := sizeLine_eq
  refine' ⟨_, ?r0, ?kk⟩
  case' r0 => refine' pss_cons ?s1 ?r1
  case s1 => exact ps_if (pt_not (pt_val (pe_callB call_isi (by rfl) B.isi PyProof.Rows.Boot.«isinstance» (pa_cons (pv 1) (pa_cons (pe_bltn (v := .ty "dict") (by rfl) B.dict PyProof.Rows.Boot.«dict» rfl) pa_nil))))) pss_never pss_nil
  case' r1 => refine' pss_cons ?s2 ?r2
  case' s2 => refine' ps_thaw (ps_for PassesOwn.never rfl ?i2 ?g2 ?b2)
  case i2 => exact pi_items (pe_items (pv 1))
  case g2 => exact pg_tup rfl (pgs_cons (pg_name (i := 2) scCStand.nd rfl (Or.inl rfl)) (pgs_cons (pg_name (i := 3) scCStand.nd rfl (Or.inl rfl)) pgs_nil))
  case b2 => exact pss_cons (ps_if (pt_not (pt_val (pe_mt cH T.cl hr (pv 0) (pa_cons (pv 2) pa_nil)))) pss_never pss_nil) (pss_one (ps_if (pt_not (pt_val (pe_mt cW TW.cl hr (pe_fld (pv 0) rfl) (pa_cons (pv 3) pa_nil)))) pss_never pss_nil))
  case' r2 => refine' pss_cons ?s3 ?r3
  case s3 => exact ps_set (i := 4) scCStand.nd rfl (Or.inl rfl) (pe_mt0 cN T.cl hr (pv 0))
  case' r3 => refine' pss_cons ?s4 (pss_one ?s5)
  case s4 => exact ps_if (pt_cmpR op_ne (pe_callB call_lenD (by rfl) B.len PySem.boot_len (pa_cons (pv 1) pa_nil)) (pe_callB call_len_seq (by rfl) B.len PySem.boot_len (pa_cons (pv 4) pa_nil)) (nomark _)) pss_never pss_nil
  case s5 => exact ps_ret (pe_callTy (call_dictOf rfl) (by rfl) B.dict PyProof.Rows.Boot.«dict» (pa_cons (pe_comp ["piece", "stand"] 1 [1] (pi_list (pv 4)) (fun fp s H => pg_name (i := 0) (show (["piece", "stand"] : List Str).Nodup by decide +kernel) rfl (Or.inl rfl)) (fun fp s H => pts_nil) (fun fp s H => pe_tup (pa_cons (pv 0) (pa_cons (pe_dget hu (pv 1) (pv 0) (fun _ _ => rfl)) pa_nil)))) pa_nil))
  case' kk => skip
  have lns : ns.length = qs.length := by rw [so.perm.length_eq, List.length_map]
  refine ⟨_, rfl, _, _, _, _, rfl, .dK hd, rfl, _, rfl, iteF ?_⟩
  refine ⟨d, _, hd, ?_⟩
  refine ⟨_, rfl, d, _, rfl, hd, fun v hv => ?_⟩
  have s1 := Same.new (o := itemsV v d) hv
  have hv1 : upd H v (itemsV v d) v = some (itemsV v d) := upd_same
  have G1 := G.same s1
  have hd1 := s1 _ _ hd
  generalize upd H v (itemsV v d) = H1 at s1 hv1 G1 hd1 ⊢
  refine ⟨v, d, _, rfl, hv1, hd1, fun o => ?_⟩
  refine for_items (fun i σ H' => ∃ (v2 v3 : Option V), σ = [some (.ref g), some (.ref d), v2, v3, none] /\ Fz d o (stF ns f) H1 H') ⟨none, none, rfl, Fz.start⟩ (fun i σ H' _ ⟨_, _, _, z⟩ => z.at_) ?_ ?_
  ·rintro i ky x σ H2 hx ⟨v2, v3, rfl, fz⟩ t ht
   obtain ⟨n, hn, rfl, rfl⟩ := mKV_at hx
   have nm := List.mem_of_getElem? hn
   have s2 := Same.new (o := .tup [.str n, .str (f n)]) ht
   have fz2 := fz.step s2
   have e2 : upd H2 t (.tup [.str n, .str (f n)]) t = some (.tup [.str n, .str (f n)]) := upd_same
   show gTup _ _ _ _ _ (upd H2 t (.tup [.str n, .str (f n)])) _
   generalize upd H2 t (.tup [.str n, .str (f n)]) = H3 at s2 fz2 e2 ⊢
   refine ⟨t, _, rfl, .of e2, rfl, _, _, rfl, _, _, rfl, rfl, ?_⟩
   have G3 := fz2.goods hd1 G1 dfp
   obtain ⟨dx, dw, dy, vs, fpw, h1, h2, h3, h4, h5, m1, m2, m3, m4, m5⟩ := id G3.ex
   obtain ⟨dxw, d1, l2, d3, zs0, as, ef, w1, _⟩ := id h2.ex
   have hno : (gflds p dw dy).lookup ("has_piece" : Str) = none := gflds_no _ _ _ (by decide +kernel) (by decide +kernel) (by decide +kernel)
   have hnw : (flds d1 l2 d3).lookup ("has_hand" : Str) = none := flds_no _ _ _ (by decide +kernel) (by decide +kernel) (by decide +kernel)
   refine ⟨_, rfl, g, dx, _, rfl, h1, hno, _, rfl, g, p, .str n, some n, hs, ts, qs, fp, rfl, G3, rfl, _, rfl, ?_⟩
   rw [show inB (qs.map (·.1)) (some n) = true from decide_eq_true (so.perm.mem_iff.mp nm)]
   refine iteF ?_
   refine ⟨_, rfl, g, CG, dx, _, _, rfl, h1, T.cl, T.nW, gflds_w _ _ _, p, dxw, _, rfl, w1, hnw, _, rfl, p, f n, hs, ts, fpw, rfl, h2, _, rfl, ?_⟩
   rw [decide_eq_true (so.at_ n nm)]
   exact iteF ⟨_, _, rfl, fz2⟩
  rintro σ H2 ⟨v2, v3, rfl, fz⟩
  refine ⟨o, fz.at_, ?_⟩
  have s2 := s1.trans (fz.thaw hd1)
  have hd2 : upd H2 d (.dK (stF ns f)) d = some (.dK (stF ns f)) := upd_same
  generalize upd H2 d (.dK (stF ns f)) = H3 at s2 hd2 ⊢
  have G3 := G.same s2
  obtain ⟨dx, dw, dy, vs, fpw, h1, h2, h3, h4, h5, m1, m2, m3, m4, m5⟩ := id G3.ex
  refine ⟨_, rfl, g, dx, _, rfl, h1, gflds_no _ _ _ (by decide +kernel) (by decide +kernel) (by decide +kernel), g, p, hs, ts, qs, fp, rfl, G3, fun ln hln => ?_⟩
  have s3 := Same.new (o := .lst ((qs.map (·.1)).map V.str)) hln
  have e3 : upd H3 ln (.lst ((qs.map (·.1)).map V.str)) ln = some (.lst ((qs.map (·.1)).map V.str)) := upd_same
  have hd3 := s3 _ _ hd2
  generalize upd H3 ln (.lst ((qs.map (·.1)).map V.str)) = H4 at s3 e3 hd3 ⊢
  refine ⟨_, rfl, d, _, rfl, hd3, _, rfl, ln, _, rfl, .inl (.of e3), rfl, _, rfl, ?_⟩
  rw [mKV_len, List.length_map, List.length_map, lns]
  simp only [bne_self_eq_false, decide_true, Bool.not_true]
  refine iteF ?_
  have s04 := s2.trans s3
  refine ⟨_, rfl, ln, rfl, ⟨_, .of e3⟩, fun D hD => ?_⟩
  refine comp_list (own := 1) (fv := [some (.ref d)]) (xs := (qs.map (·.1)).map V.str) rfl gok1 (fun i out H' => Same H4 H' /\ H' D = some (.lst out) /\ PairsAt K H' out (stF ((qs.map (·.1)).take i) f)) ⟨Same.new hD, upd_same, .nil⟩ (fun i out H' _ ⟨sm, _, _⟩ => .of (sm _ _ e3)) (fun out H5 ⟨sm, hD5, pa⟩ => ?_) (fun i y out H' hy ⟨sm, hD', pa⟩ => ?_)
  ·rw [List.length_map, List.take_length] at pa
   refine ⟨D, out, _, rfl, hD5, pa, by rw [mKV_len, List.length_map]; omega, fun d' hd' => ?_⟩
   have ndk : ((stF (qs.map (·.1)) f).map (·.1)).Nodup := by
    rw [mKV_keys, List.nodup_iff_pairwise_ne, List.pairwise_map]
    exact nd.imp fun n e => n (Sum.inr.inj e)
   rw [mergeK_nil ndk]
   exact k d' _ ((s04.trans sm).trans (Same.new hd')) (s04.free (sm.free hd')) upd_same
  ·obtain ⟨n, hn, rfl⟩ := map_get_str hy
   have hi : i < (qs.map (·.1)).length := (List.getElem?_eq_some_iff.mp hn).1
   rw [List.length_map] at hi
   have nm : n ∈ ns := so.perm.mem_iff.mpr (List.mem_of_getElem? hn)
   refine ⟨_, rfl, rfl, fun Nx hN => yesT ?_⟩
   refine ⟨_, rfl, _, rfl, _, rfl, d, .str (f n), rfl, ?_, by show 2 <= sizeLine; decide, fun t ht => ?_⟩
   ·rw [<- mKV_get (g := fun n => V.str (f n)) nm]
    exact .k (k := Sum.inr n) (sm _ _ hd3)
   have s5 := Same.new (o := .tup [.str n, .str (f n)]) ht
   have lo := Paired.length pa
   rw [mKV_len, List.length_take, List.length_map] at lo
   refine ⟨out, s5 _ _ hD', by omega, hN _ _ ⟨same_but (sm.trans s5) hD, upd_same, ?_⟩⟩
   have ht5 : upd H' t (.tup [.str n, .str (f n)]) t = some (.tup [.str n, .str (f n)]) := upd_same
   have pD : ∀ {b : Addr} {ys : List V}, upd H' t (.tup [.str n, .str (f n)]) b = some (.tup ys) -> b ≠ D := fun hb => ne_of hb (s5 _ _ hD') (by intro z; cases z)
   rw [take_at hn]
   show PairsAt K _ _ (((qs.map (·.1)).take i ++ [n]).map _)
   rw [List.map_append]
   exact paired_app (Paired.mapP pa fun y kv ⟨b, z, hb⟩ => ⟨b, z, by rw [upd_ne (pD (s5 _ _ hb))]; exact s5 _ _ hb⟩) (.cons ⟨t, rfl, by rw [upd_ne (pD ht5)]; exact ht5⟩ .nil)
end
end Ev
set_option Elab.async false
set_option linter.all false
set_option maxRecDepth 100000
namespace EvT
open PySem PySem.SeqAt PyProof.Rows
open AutoSeq1 (wpAny_loadPart')
open MeetsSeq MeetsSeq2 MeetsSeq3 SeqRoads2
section
variable {prog : Program} {w : World} {A : Around} {E : Value -> Shared -> Prop} {s : Shared}
theorem eqB_dict {K : Type} [DecidableEq K] {knd : PySem.KeyKind prog w K} {a b : Addr} {ka kb : List (K × Value)} {r : Bool} {Q : Bool -> Shared -> Prop} (ne : a ≠ b) (na : (a == sysModules) = false) (nb : (b == sysModules) = false) (da : Heap.DictOf knd s.heap a ka) (db : Heap.DictOf knd s.heap b kb) (hu : A.units < cLine) (h : ka.length = kb.length -> W.KeqHits A.in1 s kb ka r) (q : Q (ka.length == kb.length && r) s) :
  wpAny (model prog w) A (eqBool (.ref a) (.ref b)) Q E s := by
 have rc : ∀ {Q : Value -> Shared -> Prop}, Q (.bool (ka.length == kb.length && r)) s -> wpAny (model prog w) A (richCompare .Eq (.ref a) (.ref b)) Q E s := fun q => W.keq_eq (A := A) na nb da db hu h q
 have nab : ((Value.ref a == Value.ref b) = true) = False := by simp [ne]
 generalize (ka.length == kb.length && r) = z at rc q
 unfold eqBool
 wp_walk using rc
 exact q
theorem ne_tup2 {l b : Addr} {x1 x2 y1 y2 : Value} {n m : Nat} {dl db : Option Addr} {sl sb : Array (Option Value)} {R : Fin -> Shared -> Prop}
  (gl : s.heap.get? l = some { cls := .type "tuple", dict := dl, data := .seq #[x1, x2] n, slots := sl }) (gb : s.heap.get? b = some { cls := .type "tuple", dict := db, data := .seq #[y1, y2] m, slots := sb })
  (h1 : ∀ {Q : Bool -> Shared -> Prop}, Q true s -> wpAny (model prog w) A (eqBool x1 y1) Q E s)
  (h2 : ∀ {Q : Bool -> Shared -> Prop}, Q true s -> wpAny (model prog w) A (eqBool x2 y2) Q E s)
  (h : R (.done (.ret (.bool false))) s) :
  wpAny (model prog w) A (Builtin.«tuple.__ne__» ⟨[.ref l, .ref b], []⟩) R E s := by
 obtain ⟨hp, g, d, tk, os⟩ := s
 have f3 := AutoSeq1.sub_tuple_tuple
 wp_walk using wpAny_loadPart' gl, wpAny_loadPart' gb, h1, h2
 exact h
theorem ne_tup3 {l b : Addr} {x1 x2 x3 y1 y2 y3 : Value} {n m : Nat} {dl db : Option Addr} {sl sb : Array (Option Value)} {R : Fin -> Shared -> Prop}
  (gl : s.heap.get? l = some { cls := .type "tuple", dict := dl, data := .seq #[x1, x2, x3] n, slots := sl }) (gb : s.heap.get? b = some { cls := .type "tuple", dict := db, data := .seq #[y1, y2, y3] m, slots := sb })
  (h1 : ∀ {Q : Bool -> Shared -> Prop}, Q true s -> wpAny (model prog w) A (eqBool x1 y1) Q E s)
  (h2 : ∀ {Q : Bool -> Shared -> Prop}, Q true s -> wpAny (model prog w) A (eqBool x2 y2) Q E s)
  (h3 : ∀ {Q : Bool -> Shared -> Prop}, Q true s -> wpAny (model prog w) A (eqBool x3 y3) Q E s)
  (h : R (.done (.ret (.bool false))) s) :
  wpAny (model prog w) A (Builtin.«tuple.__ne__» ⟨[.ref l, .ref b], []⟩) R E s := by
 obtain ⟨hp, g, d, tk, os⟩ := s
 have f3 := AutoSeq1.sub_tuple_tuple
 wp_walk using wpAny_loadPart' gl, wpAny_loadPart' gb, h1, h2, h3
 exact h
theorem ne_tup2At {l b : Addr} {x1 x2 y1 y2 : Value} {Q : Value -> Shared -> Prop} (hl : s.heap.IsTuple l #[x1, x2]) (hb : s.heap.IsTuple b #[y1, y2]) (hu : A.units < cLine)
  (h1 : ∀ {Q : Bool -> Shared -> Prop}, Q true s -> wpAny (model prog w) A.in1 (eqBool x1 y1) Q E s)
  (h2 : ∀ {Q : Bool -> Shared -> Prop}, Q true s -> wpAny (model prog w) A.in1 (eqBool x2 y2) Q E s) (h : Q (.bool false) s) : wpAny (model prog w) A (compareOp .NotEq (.ref l) (.ref b)) Q E s := by
 obtain ⟨⟨c1, d1, t1, l1⟩, o1, k1, n1, z1⟩ := id hl
 obtain ⟨⟨c2, d2, t2, l2⟩, o2, k2, n2, z2⟩ := id hb
 simp only at k1 z1 k2 z2
 subst k1 z1 k2 z2
 have T1 : s.TypeIs (.ref l) "tuple" := ⟨_, o1, rfl⟩
 have T2 : s.TypeIs (.ref b) "tuple" := ⟨_, o2, rfl⟩
 have z := ne_tup2 (R := fun fin s' => ∃ v, fin = Fin.done (Flow.ret v) /\ v ≠ Value.notImplemented /\ Q v s') o1 o2 h1 h2 ⟨.bool false, rfl, (fun x => nomatch x), h⟩
 have z2 := wpAny_call_entry F.slot_tuple_ne T1 F.entry_tuple_ne z (F.args_tuple_ne_2 _ _)
 exact wpAny_richCompare_same_room (op := .NotEq) T1 T2 F.slot_tuple_ne z2 hu
theorem ne_tup3At {l b : Addr} {x1 x2 x3 y1 y2 y3 : Value} {Q : Value -> Shared -> Prop} (hl : s.heap.IsTuple l #[x1, x2, x3]) (hb : s.heap.IsTuple b #[y1, y2, y3]) (hu : A.units < cLine)
  (h1 : ∀ {Q : Bool -> Shared -> Prop}, Q true s -> wpAny (model prog w) A.in1 (eqBool x1 y1) Q E s)
  (h2 : ∀ {Q : Bool -> Shared -> Prop}, Q true s -> wpAny (model prog w) A.in1 (eqBool x2 y2) Q E s)
  (h3 : ∀ {Q : Bool -> Shared -> Prop}, Q true s -> wpAny (model prog w) A.in1 (eqBool x3 y3) Q E s) (h : Q (.bool false) s) : wpAny (model prog w) A (compareOp .NotEq (.ref l) (.ref b)) Q E s := by
 obtain ⟨⟨c1, d1, t1, l1⟩, o1, k1, n1, z1⟩ := id hl
 obtain ⟨⟨c2, d2, t2, l2⟩, o2, k2, n2, z2⟩ := id hb
 simp only at k1 z1 k2 z2
 subst k1 z1 k2 z2
 have T1 : s.TypeIs (.ref l) "tuple" := ⟨_, o1, rfl⟩
 have T2 : s.TypeIs (.ref b) "tuple" := ⟨_, o2, rfl⟩
 have z := ne_tup3 (R := fun fin s' => ∃ v, fin = Fin.done (Flow.ret v) /\ v ≠ Value.notImplemented /\ Q v s') o1 o2 h1 h2 h3 ⟨.bool false, rfl, (fun x => nomatch x), h⟩
 have z2 := wpAny_call_entry F.slot_tuple_ne T1 F.entry_tuple_ne z (F.args_tuple_ne_2 _ _)
 exact wpAny_richCompare_same_room (op := .NotEq) T1 T2 F.slot_tuple_ne z2 hu
end
end EvT
namespace L2
open PySem PySem.Spec PyProof.Rows PySem.W
section
variable {X : Cx} {e st : Expr} {te ts : TE} {pos p2 : Pos}
def tRevL (K : PySem.W.Frag) (te ts : TE) : TE := fun σ H Q => te σ H fun x H1 => ts σ H1 fun y H2 => y = .int (-1) /\ ∃ a xs, x = .ref a /\ SqL K H2 a xs /\ ∀ p, H2 p = none -> Q (.ref p) (upd H2 p (.lst xs.reverse))
end
section
variable {X : Cx}
def rDictD : List V -> Hp -> VK -> Prop := fun xs H Q => ∃ a kvs, xs = [.ref a] /\ Rd H a (.dK kvs) /\ ∀ p, H p = none -> Q (.ref p) (upd H p (.dK kvs))
theorem call_dictD : CallR X (.type "dict") rDictD := by
 intro pins s σ H xs us Q I r h
 obtain ⟨a, kvs, rfl, hd, q⟩ := h
 obtain ⟨u, rfl, ru⟩ := vals1 r
 cases ru
 exact d_copyOf I hd fun p s' hp I' => ⟨.ref p, _, I', rfl, q p hp⟩
def rNeNil (K : PySem.W.Frag) : V -> V -> Hp -> VK -> Prop := fun x y H Q => ∃ a b xs, x = .ref a /\ y = .ref b /\ SqL K H a xs /\ SqL K H b [] /\ Q (.bl (!xs.isEmpty)) H
theorem op_neNil (hu : X.A.units + 0 + 1 < cLine) : OpR X (compareOp .NotEq) (rNeNil X.K) := by
 intro pins s σ H x y v u Q I rx ry h
 obtain ⟨a, b, xs, rfl, rfl, t, t', hq⟩ := h
 cases xs with
 | nil => exact op_neL cmpS hu pins s σ H (.ref a) (.ref b) v u Q I rx ry ⟨[], [], ⟨a, [], rfl, t, .nil⟩, ⟨b, [], rfl, t', .nil⟩, hq⟩
 | cons z zs =>
  cases rx
  cases ry
  obtain ⟨us, r, pl, _⟩ := I.list t
  obtain ⟨vs, r', pl', _⟩ := I.list t'
  have l1 := r.length
  have l2 := r'.length
  exact EvN.ne_sizesAt pl.isList pl'.isList (by simp only [List.size_toArray, bne_iff_ne]; simp at l1 l2; omega) (by omega) ⟨.bl true, H, I, rfl, hq⟩
end
end L2
namespace Ev
open PySem L2
theorem in_tsOf {ts : List (Str × Str)} {a b : Str} : ord2 a b ∈ tsOf ts ↔ (a, b) ∈ ts ∨ (b, a) ∈ ts := by
 rw [tsOf_mem]
 constructor
 ·rintro ⟨⟨x, y⟩, ht, e⟩
  rcases kO_two (a := x) (b := y) (c := a) (d := b) (by show kT (ord2 x y) = kT (ord2 a b); rw [<- e]) with ⟨rfl, rfl⟩ | ⟨rfl, rfl⟩
  ·exact .inl ht
  ·exact .inr ht
 ·rintro (h | h)
  ·exact ⟨_, h, rfl⟩
  ·exact ⟨_, h, ord2_comm _ _⟩
def tieB (ts : List (Str × Str)) (a b : Str) : Bool := decide ((a, b) ∈ ts) || decide ((b, a) ∈ ts)
theorem tieB_eq (ts : List (Str × Str)) (a b : Str) : decide (ord2 a b ∈ tsOf ts) = tieB ts a b := by
 unfold tieB
 rw [<- Bool.decide_or]
 exact decide_eq_decide.mpr in_tsOf
theorem tiedB_eq {hs : List (Str × Int)} {ts : List (Str × Str)} {a b : Str} (ha : a ∈ hs.map (·.1)) (hb : b ∈ hs.map (·.1)) : tiedB hs ts (some a) (some b) = tieB ts a b := by
 rw [tiedB_some, decide_eq_true ha, decide_eq_true hb, Bool.true_and, Bool.true_and, <- tieB_eq]
 refine decide_eq_decide.mpr ⟨fun h => of_decide_eq_true (List.mem_filter.mp h).2, fun h => List.mem_filter.mpr ⟨(nms_perm hs).mem_iff.mpr hb, decide_eq_true h⟩⟩
def dueB (ts : List (Str × Str)) (o : Option (List (Str × Str))) (a b : Str) : Bool := tieB ts a b && match o with
 | none => true
 | some ws => tieB ws a b
theorem Qs.has {ps qs : List Pc} (Q : Qs ps qs) (nd : (ps.map (·.1)).Nodup) {p : Pc} (hp : p ∈ ps) : nrm p ∈ qs := by
 have m : p.1 ∈ qs.map (·.1) := by
  rw [Q.nms]
  exact (sortS_perm _).mem_iff.mpr (List.mem_map.mpr ⟨p, hp, rfl⟩)
 obtain ⟨q, hq, e⟩ := List.mem_map.mp m
 obtain ⟨p', hp', e'⟩ := Q.mem q hq
 have : p' = p := inj_nodup nd hp' hp (by rw [e'] at e; exact e)
 rw [<- this, <- e']
 exact hq
theorem hits_of {A : Around} {s : Shared} {ns : List Str} {f g : Str -> Str} {vb : List (Key × Value)} (rb : KV (stF ns g) vb) : ∀ (ms : List Str) (va : List (Key × Value)), KV (stF ms f) va -> (∀ m ∈ ms, m ∈ ns) -> PySem.W.KeqHits A s vb va (ms.all fun n => decide (f n = g n))
 | [], va, r, _ => by
  cases r
  exact .nil
 | m :: ms, va, r, h => by
  cases r with
  | @cons _ q _ va' h1 r =>
   have hm := h m List.mem_cons_self
   obtain ⟨y, hy, ry⟩ := RelO.some_of (v := .str (g m)) (o := valueAt vb (Sum.inr m)) (by rw [<- mKV_get (g := fun n => V.str (g n)) hm]; exact rb.val _)
   obtain ⟨k, v⟩ := q
   obtain ⟨e1, e2⟩ := h1
   have e1 : (Sum.inr m : Key) = k := e1
   subst e1
   obtain ⟨t, rfl⟩ := (show ∃ t, v = Value.str (f m) t from e2)
   obtain ⟨u, rfl⟩ := (show ∃ t, y = Value.str (g m) t from ry)
   have q := SeqAt.EqAt.str_str (A := A) (s := s) (f m) t (g m) u
   rw [show (f m == g m) = decide (f m = g m) by by_cases z : f m = g m <;> simp [z]] at q
   exact .hit hy q (hits_of rb ms va' r fun x hx => h x (List.mem_cons_of_mem _ hx))
def SayOne (ms ns : List Str) (f g : Str -> Str) : Prop := ms.length = ns.length /\ (∀ m ∈ ms, m ∈ ns) /\ ∀ m ∈ ms, f m = g m
theorem SayOne.all {ms ns : List Str} {f g : Str -> Str} (h : SayOne ms ns f g) : (ms.all fun n => decide (f n = g n)) = true := List.all_eq_true.mpr fun m hm => decide_eq_true (h.2.2 m hm)
def rNeDS : V -> V -> Hp -> VK -> Prop := fun x y H Q => ∃ (a b : Addr) (ms ns : List Str) (f g : Str -> Str), x = .ref a /\ y = .ref b /\ H a = some (.dK (stF ms f)) /\ H b = some (.dK (stF ns g)) /\ SayOne ms ns f g /\ Q (.bl false) H
def rNeJ (K : PySem.W.Frag) : V -> V -> Hp -> VK -> Prop := fun x y H Q => ∃ (a b : Addr), x = .ref a /\ y = .ref b /\ ((∃ (u : Str) (da db : Addr) (ms ns : List Str) (f g : Str -> Str), SqT K H a [.str u, .ref da] /\ SqT K H b [.str u, .ref db] /\ da ≠ db /\ H da = some (.dK (stF ms f)) /\ H db = some (.dK (stF ns g)) /\ SayOne ms ns f g) ∨ ∃ (u r : Str) (k : Int), SqT K H a [.str u, .int k, .str r] /\ SqT K H b [.str u, .int k, .str r]) /\ Q (.bl false) H
theorem eqB_str {prog : Program} {w : World} {A : Around} {s : Shared} {E : Value -> Shared -> Prop} {Q : Bool -> Shared -> Prop} (u : Str) (t t' : Tok) (q : Q true s) : wpAny (model prog w) A (eqBool (.str u t) (.str u t')) Q E s :=
 SeqAt.EqAt.str_str u t u t' prog w _ _ (by simpa using q)
theorem eqB_int {prog : Program} {w : World} {A : Around} {s : Shared} {E : Value -> Shared -> Prop} {Q : Bool -> Shared -> Prop} (u : Int) (t t' : Tok) (q : Q true s) : wpAny (model prog w) A (eqBool (.int u t) (.int u t')) Q E s :=
 SeqAt.EqAt.int_int u t u t' prog w _ _ (by simpa using q)
theorem op_neJ {X : Cx} (hu : X.A.units + 0 + 1 < cLine) : OpR X (compareOp .NotEq) (rNeJ X.K) := by
 intro pins s σ H x y v u Q I rx ry h
 obtain ⟨a, b, rfl, rfl, h, q⟩ := h
 cases rx
 cases ry
 rcases h with ⟨u, da, db, ms, ns, f, g, ta, tb, nab, ha, hb, so⟩ | ⟨u, r, k, ta, tb⟩
 ·obtain ⟨its, r, it, _⟩ := I.tuple ta
  obtain ⟨its', r', it', _⟩ := I.tuple tb
  obtain ⟨u1, u2, rfl, r1, r2⟩ := vals2 r
  obtain ⟨w1, w2, rfl, r1', r2'⟩ := vals2 r'
  obtain ⟨t, rfl⟩ := r1
  obtain ⟨t', rfl⟩ := r1'
  cases r2
  cases r2'
  obtain ⟨za, na, va, ra, dda⟩ := dk_rd I.hok (.inl ha)
  obtain ⟨zb, nb, vb, rb, ddb⟩ := dk_rd I.hok (.inl hb)
  have la := ra.length
  have lb := rb.length
  rw [mKV_len] at la lb
  refine EvT.ne_tup2At (isTuple_of it) (isTuple_of it') (by omega) (fun q => eqB_str u t t' q) (fun {Q} q => EvT.eqB_dict nab na nb dda ddb (by show X.A.units + 1 < cLine; omega) (fun _ => hits_of rb ms va ra so.2.1) ?_) ⟨.bl false, H, I, rfl, q⟩
  rw [show (va.length == vb.length) = true by rw [<- la, <- lb, so.1]; simp, Bool.true_and, so.all]
  exact q
 ·obtain ⟨its, r, it, _⟩ := I.tuple ta
  obtain ⟨its', r', it', _⟩ := I.tuple tb
  cases r with
  | cons r1 r => cases r with
   | cons r2 r => cases r with
    | cons r3 r => cases r with
     | nil =>
      cases r' with
      | cons r1' r' => cases r' with
       | cons r2' r' => cases r' with
        | cons r3' r' => cases r' with
         | nil =>
          obtain ⟨t1, rfl⟩ := r1
          obtain ⟨t1', rfl⟩ := r1'
          obtain ⟨t2, rfl⟩ := r2
          obtain ⟨t2', rfl⟩ := r2'
          obtain ⟨t3, rfl⟩ := r3
          obtain ⟨t3', rfl⟩ := r3'
          exact EvT.ne_tup3At (isTuple_of it) (isTuple_of it') (by omega) (fun q => eqB_str _ _ _ q) (fun q => eqB_int _ _ _ q) (fun q => eqB_str _ _ _ q) ⟨.bl false, H, I, rfl, q⟩
end Ev
set_option Elab.async false
set_option linter.all false
set_option maxRecDepth 100000
namespace L2
open PySem PySem.Spec PyProof.Rows
def CXH (P : Program) (w : World) (L : Addr) : CXT := fun l H s E e s' =>
 ∃ a cls H' B a0, e = Value.ref a /\ s'.os = s.os /\ AllBare s'.gens /\ Un (frs l) [] H H' s.heap s'.heap /\ HOk P w H' s'.heap /\ Heap.HeldW B l a cls a0 L s'.heap /\ InB B l H' s.heap s'.heap /\ E cls none H'
def XQ (X : Cx) (E : XK) : Value -> Shared -> Prop := fun e s' => ∃ pins σ H s, Inv X pins σ H s /\
 (CX1 X.prog X.w X.stack H s E e s' ∨ CXH X.prog X.w X.env.locals X.stack H s E e s' ∨ ∃ h' a cls vs, e = Value.ref a /\ s' = { s with heap := h' } /\ Heap.MadeExcOf s.heap h' a cls vs /\ E cls none H)
section
variable {M : Model} {A : Around} {E : Value -> Shared -> Prop} {s : Shared}
end
section
variable {X : Cx} {E : XK}
end
section
variable {P : Program} {w : World} {K : PySem.W.Frag} {mg : Str -> Option Value} {base : Heap}
abbrev cxQ (P : Program) (w : World) (K : PySem.W.Frag) (mg : Str -> Option Value) (base : Heap) (N : List Str) (qual : Str) (scope : Scope) (f : Addr) (cd : Value) (A : Around) (outer : List Env) (s : Shared) (H : Hp) (E : XK) : Cx :=
 (cxOf (CX1 P w) P w K mg base N qual scope f cd A outer s H E).wish (XQ (cxOf (CX1 P w) P w K mg base N qual scope f cd A outer s H E) E)
section
variable {N : List Str} {qual : Str} {scope : Scope} {f : Addr} {cd : Value} {A : Around} {outer : List Env} {s : Shared} {H : Hp} {E : XK}
end
end
end L2
set_option Elab.async false
set_option linter.all false
set_option maxRecDepth 100000
namespace L2
open PySem PySem.Spec PySem.Calls PyProof.Rows PySem.W
section
variable {M : Model} {A : Around} {E : Value -> Shared -> Prop} {s : Shared} {base : Heap} {env : Env} {outer : List Env} {L e : Addr} {cls a0 : Value} {Q : Unit -> Shared -> Prop}
def TracedD (h base : Heap) (e : Addr) (cls a0 : Value) (dd : Option Addr) : Prop := ∃ oe vs T oT ts, h.get? e = some oe /\ (oe.cls = cls /\ vs[0]? = some a0) /\ oe.data = Data.fields vs /\ vs[1]? = some (Value.ref T) /\ base.get? T = none /\ T ≠ e /\ h.get? T = some oT /\ oT.data = Data.fields ts /\ ts[3]? = some Value.none /\ oe.dict = dd
def FlyingD (base : Heap) (l : List Env) (e : Addr) (cls a0 : Value) (dd : Option Addr) (h : Heap) : Prop := base.StaysIn h /\ base.get? e = none /\ h.FunFrames base l /\ TracedD h base e cls a0 dd
theorem newEntryD {oe : Obj} {vs : Array Value} {head : Value} {hadNext : Bool} (hfr : A.frames = some (env :: outer)) (hl : s.heap.FunFrames base (env :: outer)) (hf : env.frame = some L) (he : s.heap.get? e = some oe) (hkb : base.StaysIn s.heap) (hen : base.get? e = none) (hd : oe.data = Data.fields vs) (hsz : 1 < vs.size) (h0 : vs[0]? = some a0)
  (h : ∀ h', base.StaysIn h' -> h'.FunFrames base (env :: outer) -> TracedD h' base e oe.cls a0 oe.dict -> s.heap.UpToSlots h' -> Q () { s with heap := h' }) :
  wpAny M A (do
   let a <- PySem.frameOf env
   let pl <- entryPlaceOf L hadNext
   let b <- EntryCells.newEntry head a Value.none (rawInt L) Value.none pl
   setField (Value.ref e) 1 b) (fun _ s' => wpAny M A (setFlight (Value.ref e) none) Q E s') E s := by
 have hene : e ∉ List.filterMap (fun x => x.frame) (env :: outer) := fun hm => by
  obtain ⟨_, o, ho, hnf⟩ := Heap.FunFrames.mem hl hm
  rw [he] at ho
  cases ho
  exact hnf vs hd
 refine wpAny_bind (wpAny_frameOf_fun hfr hl hf fun h₁ hs₁ => wpAny_bind (wpAny_entryPlaceOf fun pl hpl => ?_))
 unfold EntryCells.newEntry newFields
 have hsz1 : h₁.objs.size = s.heap.objs.size := hs₁.1
 have he₁ := (hs₁.right.left e hene).trans he
 have hlt : ∀ b o, s.heap.get? b = some o -> b ≠ h₁.objs.size := fun b o q => Nat.ne_of_lt (by rw [hsz1]; exact Heap.lt_size q)
 have hbn : base.get? h₁.objs.size = none := by
  cases q : base.get? h₁.objs.size with
  | none => rfl
  | some o => exact absurd rfl (hlt _ o (hkb _ o q))
 have hbase : ∀ b o, base.get? b = some o -> h₁.get? b = some o := fun b o q => (hs₁.right.left b (fun hm => by
  have := (Heap.FunFrames.mem hl hm).1
  rw [q] at this
  cases this)).trans (hkb b o q)
 obtain ⟨tbs, htb, ht3⟩ : ∃ tbs : Array Value, ([head, Value.ref L, Value.none, rawInt ↑L, Value.none] ++ if pl.isEmpty = true then List.replicate 6 Value.none else pl).toArray = tbs /\ 3 < tbs.size := ⟨_, rfl, by simp⟩
 have hts : tbs.size <= sizeLine + 2 := by
  rw [<- htb]
  rcases hpl with rfl | ⟨a, b, c, d, c9, b10, _, rfl⟩
  ·show 11 <= sizeLine + 2
   decide
  ·show 11 <= sizeLine + 2
   decide
 refine wpAny_bind (wpAny_newObj_type ?_ (by rw [htb]; exact hts))
 rw [htb]
 have he₂ : (h₁.push { cls := Value.type "traceback", data := Data.fields tbs }).get? e = some oe := Heap.get?_push_of_some _ he₁
 have hn₂ : (h₁.push { cls := Value.type "traceback", data := Data.fields tbs }).get? h₁.objs.size = some { cls := Value.type "traceback", data := Data.fields tbs } := Heap.get?_push_size h₁ rfl
 have hTe : h₁.objs.size ≠ e := (hlt e oe he).symm
 refine wpAny_setField he₂ hd hsz ?_
 have hd₃ := Obj.data_mapFields hd fun x => x.setIfInBounds 1 (Value.ref h₁.objs.size)
 have he₃ := Heap.get?_update_self (Obj.mapFields fun x => x.setIfInBounds 1 (Value.ref h₁.objs.size)) he₂ (Obj.isFreed_of_fields hd₃)
 have hn₃ := (Heap.get?_update_other (h₁.push { cls := Value.type "traceback", data := Data.fields tbs }) (Obj.mapFields fun x => x.setIfInBounds 1 (Value.ref h₁.objs.size)) hTe.symm).trans hn₂
 unfold setFlight
 refine wpAny_bind (wpAny_field (x := .ref h₁.objs.size) he₃ hd₃ (by simp [hsz]) ?_)
 rw [if_pos (by simp)]
 refine wpAny_setField hn₃ rfl ht3 ?_
 have hd₄ := Obj.data_mapFields (o := { cls := Value.type "traceback", data := Data.fields tbs }) rfl fun x => x.setIfInBounds 3 Value.none
 have hn₄ := Heap.get?_update_self (Obj.mapFields fun x => x.setIfInBounds 3 Value.none) hn₃ (Obj.isFreed_of_fields hd₄)
 have he₄ := (Heap.get?_update_other ((h₁.push { cls := Value.type "traceback", data := Data.fields tbs }).update e (Obj.mapFields fun x => x.setIfInBounds 1 (Value.ref h₁.objs.size))) (Obj.mapFields fun x => x.setIfInBounds 3 Value.none) hTe).trans he₃
 have oth : ∀ b o, b ≠ e -> b ≠ h₁.objs.size -> h₁.get? b = some o -> (((h₁.push { cls := Value.type "traceback", data := Data.fields tbs }).update e (Obj.mapFields fun x => x.setIfInBounds 1 (Value.ref h₁.objs.size))).update h₁.objs.size (Obj.mapFields fun x => x.setIfInBounds 3 Value.none)).get? b = some o := fun b o n1 n2 q =>
  (Heap.get?_update_other _ _ n2.symm).trans ((Heap.get?_update_other _ _ n1.symm).trans (Heap.get?_push_of_some _ q))
 have hec : ((Obj.mapFields fun x => x.setIfInBounds 1 (Value.ref h₁.objs.size)) oe).cls = oe.cls /\ ((Obj.mapFields fun x => x.setIfInBounds 1 (Value.ref h₁.objs.size)) oe).dict = oe.dict := by
  obtain ⟨c, dt, da, sl⟩ := oe
  have : da = Data.fields vs := hd
  subst this
  exact ⟨rfl, rfl⟩
 have ups : ∀ b o, s.heap.get? b = some o -> (∀ vs, o.data ≠ Data.fields vs) -> ∃ sl, (((h₁.push { cls := Value.type "traceback", data := Data.fields tbs }).update e (Obj.mapFields fun x => x.setIfInBounds 1 (Value.ref h₁.objs.size))).update h₁.objs.size (Obj.mapFields fun x => x.setIfInBounds 3 Value.none)).get? b = some { cls := o.cls, dict := o.dict, data := o.data, slots := sl } := fun b o q nf => by
  obtain ⟨sl, q1⟩ := hs₁.right.right b o q
  refine ⟨sl, oth b _ (fun z => ?_) (hlt b o q) q1⟩
  subst z
  rw [he] at q
  cases q
  exact nf vs hd
 refine h _ (fun b o q => oth b o (fun z => ?_) (fun z => ?_) (hbase b o q)) (Heap.FunFrames.of_keeps (fun b o q nf => ?_) hl) ⟨_, _, h₁.objs.size, _, _, he₄, ⟨hec.1, ?_⟩, hd₃, ?_, hbn, hTe, hn₄, hd₄, ?_, hec.2⟩ ups
 ·subst z
  rw [hen] at q
  cases q
 ·subst z
  rw [hbn] at q
  cases q
 ·obtain ⟨sl, q1⟩ := ups b o q nf
  exact ⟨_, q1, rfl⟩
 ·rw [Array.getElem?_setIfInBounds]
  simpa using h0
 ·simp [hsz]
 ·simp [ht3]
theorem FlyingD.obj {dd : Option Addr} {l : List Env} {h : Heap} (f : FlyingD base l e cls a0 dd h) : ∃ oe vs, h.get? e = some oe /\ oe.cls = cls /\ oe.data = Data.fields vs /\ oe.dict = dd := by
 obtain ⟨f1, f2, f3, oe, vs, T, oT, ts, h1, h2, h3, h4, h5, h6, h7, h8, h9, h10⟩ := f
 exact ⟨oe, vs, h1, h2.1, h3, h10⟩
theorem FlyingD.less {dd : Option Addr} {h : Heap} (f : FlyingD base (env :: outer) e cls a0 dd h) : FlyingD base outer e cls a0 dd h := ⟨f.1, f.2.1, f.2.2.1.2.2, f.2.2.2⟩
theorem looks_landsD {dd : Option Addr} (hfr : A.frames = some (env :: outer)) (hf : env.frame = some L) (hfl : FlyingD base (env :: outer) e cls a0 dd s.heap)
  (hQ : ∀ h', FlyingD base (env :: outer) e cls a0 dd h' -> s.heap.UpToSlots h' -> Q () { s with heap := h' }) : wpAny M A (noteFrame (Value.ref e) env) (fun _ s₂ => wpAny M A (setFlight (Value.ref e) none) Q E s₂) E s := by
 obtain ⟨f1, f2, f3, oe, vs, T, oT, ts, he, ⟨hc, h0⟩, hd, h1, hnT, hTe, hT, hdT, h3, hdd⟩ := hfl
 unfold noteFrame
 rw [hf]
 dsimp only
 refine wpAny_bind (wpAny_field he hd h1 ?_)
 rw [if_pos (by simp)]
 refine wpAny_bind (wpAny_field hT hdT h3 ?_)
 rw [if_neg (by simp [rawInt])]
 refine wpAny_bind (wpAny_setField hT hdT (Array.getElem?_eq_some_iff.mp h3).1 ?_)
 have other : ∀ b, b ≠ T -> (s.heap.update T (Obj.mapFields fun x => x.setIfInBounds 3 Value.none)).get? b = s.heap.get? b := fun b hb => Heap.get?_update_other _ _ hb.symm
 have nrec : ∀ b o, s.heap.get? b = some o -> (∀ vs, o.data ≠ Data.fields vs) -> b ≠ T := fun b o q nf z => by
  subst z
  rw [hT] at q
  cases q
  exact nf ts hdT
 refine newEntryD (base := base) (s := { s with heap := s.heap.update T (Obj.mapFields fun x => x.setIfInBounds 3 Value.none) }) hfr (Heap.FunFrames.of_keeps (fun b o q nf => ⟨o, (other b (nrec b o q nf)).trans q, rfl⟩) f3) hf ((other e hTe.symm).trans he) (fun b o q => (other b (fun z => ?_)).trans (f1 b o q)) f2 hd (Array.getElem?_eq_some_iff.mp h1).1 h0 fun h' g1 g2 g3 g4 => ?_
 ·subst z
  rw [hnT] at q
  cases q
 ·refine hQ h' ⟨g1, f2, g2, ?_⟩ fun b o q nf => g4 b o ((other b (nrec b o q nf)).trans q) nf
  rw [hc, hdd] at g3
  exact g3
theorem leaves_onD {dd : Option Addr} (hfr : A.frames = some (env :: outer)) (hf : env.frame = some L) (hfl : FlyingD base (env :: outer) e cls a0 dd s.heap)
  (hQ : ∀ h', FlyingD base outer e cls a0 dd h' -> s.heap.UpToSlots h' -> Q () { s with heap := h' }) : wpAny M A (leaving env (Value.ref e)) Q E s := by
 unfold leaving
 exact wpAny_bind (looks_landsD hfr hf hfl fun h' f u => hQ h' f.less u)
theorem lands_againD {dd : Option Addr} {l : List Env} (hfl : FlyingD base l e cls a0 dd s.heap) (hQ : ∀ h', FlyingD base l e cls a0 dd h' -> s.heap.UpToSlots h' -> Q () { s with heap := h' }) : wpAny M A (setFlight (Value.ref e) none) Q E s := by
 obtain ⟨f1, f2, f3, oe, vs, T, oT, ts, he, ⟨hc, h0⟩, hd, h1, hnT, hTe, hT, hdT, h3, hdd⟩ := hfl
 unfold setFlight
 refine wpAny_bind (wpAny_field he hd h1 ?_)
 rw [if_pos (by simp)]
 refine wpAny_setField hT hdT (Array.getElem?_eq_some_iff.mp h3).1 ?_
 have other : ∀ b, b ≠ T -> (s.heap.update T (Obj.mapFields fun x => x.setIfInBounds 3 Value.none)).get? b = s.heap.get? b := fun b hb => Heap.get?_update_other _ _ hb.symm
 have nrec : ∀ b o, s.heap.get? b = some o -> (∀ vs, o.data ≠ Data.fields vs) -> b ≠ T := fun b o q nf z => by
  subst z
  rw [hT] at q
  cases q
  exact nf ts hdT
 have hd4 := Obj.data_mapFields hdT fun x => x.setIfInBounds 3 Value.none
 have hT4 := Heap.get?_update_self (Obj.mapFields fun x => x.setIfInBounds 3 Value.none) hT (Obj.isFreed_of_fields hd4)
 refine hQ _ ⟨fun b o q => (other b (fun z => ?_)).trans (f1 b o q), f2, Heap.FunFrames.of_keeps (fun b o q nf => ⟨o, (other b (nrec b o q nf)).trans q, rfl⟩) f3, oe, vs, T, _, _, (other e hTe.symm).trans he, ⟨hc, h0⟩, hd, h1, hnT, hTe, hT4, hd4, ?_, hdd⟩ fun b o q nf => ⟨o.slots, (other b (nrec b o q nf)).trans q⟩
 ·subst z
  rw [hnT] at q
  cases q
 ·have := (Array.getElem?_eq_some_iff.mp h3).1
  simp [this]
theorem leaves_firstD {dd : Option Addr} {oe : Obj} {vs : Array Value} (hfr : A.frames = some (env :: outer)) (hf : env.frame = some L) (st : base.StaysIn s.heap) (ff : s.heap.FunFrames base (env :: outer)) (hen : base.get? e = none) (he : s.heap.get? e = some oe) (hc : oe.cls = cls) (hdd : oe.dict = dd) (hd : oe.data = Data.fields vs) (h0 : vs[0]? = some a0) (h1 : vs[1]? = some Value.none)
  (hQ : ∀ h', FlyingD base outer e cls a0 dd h' -> s.heap.UpToSlots h' -> Q () { s with heap := h' }) : wpAny M A (leaving env (Value.ref e)) Q E s := by
 unfold leaving noteFrame
 rw [hf]
 dsimp only
 refine wpAny_bind (wpAny_bind (wpAny_field he hd h1 ?_))
 rw [if_neg (by simp)]
 refine newEntryD (base := base) hfr ff hf he st hen hd (Array.getElem?_eq_some_iff.mp h1).1 h0 fun h' g1 g2 g3 g4 => ?_
 refine hQ h' ⟨g1, hen, g2.2.2, ?_⟩ g4
 rw [hc, hdd] at g3
 exact g3
end
end L2
set_option Elab.async false
set_option linter.all false
set_option maxRecDepth 100000
namespace L2
open PySem PySem.Spec PySem.Calls PyProof.Rows PySem.W
section
variable {prog : Program} {w : World} {A : Around} {E : Value -> Shared -> Prop} {h : Heap} {g : Array GenState} {d : Drawn} {t : Nat} {os : OsState} {nm q : Str} {C N f : Addr} {bs bm bmB : List Value} {hdct : Bool} {sn : List Str} {sub : List Value} {ab : Bool} {col : Option Bool} {dd : Option Addr} {k0 k1 k2 k3 k5 : Option Value} {B newId initId : String} {K : PySem.W.Frag} {rest : List Value}
abbrev tupO (rest : List Value) : Obj := { cls := Value.type "tuple", data := Data.seq rest.toArray }
abbrev excO (C : Addr) (t : Addr) : Obj := { cls := Value.ref C, data := Data.fields #[Value.ref t, Value.none, Value.none, Value.none, Value.bool false, Value.none] }
theorem type_call_own {Q : PySem.Fin -> Shared -> Prop} (F : ExcBaseFacts B newId initId bmB) (T : OwnTail h bmB bm) (hC : h.get? C = some (excClassObj nm q C N bs bm hdct sn sub ab col dd k0 k1 k2 k3 k5 newId)) (X : K.In h) (hi : findIn K (.ref C) "__init__" = some (some (.ref f))) (hf : typeIn K (.ref f) = some (.type "function")) (hrest : rest.length <= sizeLine)
  (hq : wpAny (model prog w) A (call (.ref f) (.ref (h.objs.size + 1) :: rest)) (fun v s' => v = .none /\ Q (.done (.ret (.ref (h.objs.size + 1)))) s') E ⟨(h.push (tupO rest)).push (excO C h.objs.size), g, d, t, os⟩) :
  wpAny (model prog w) A (Builtin.«type.__call__» ⟨.ref C :: rest, []⟩) Q E ⟨h, g, d, t, os⟩ := by
 unfold Builtin.«type.__call__»
 refine wpAny_ite_false rfl ?_
 refine wpAny_bind ?_
 refine wpAny_bind (wpAny_bind (wpAny_load' hC (wpAny_pure (wpAny_pure (wpAny_ite_false rfl (wpAny_bind (wpAny_madeBy_exc hC (wpAny_bind (wpAny_pure (wpAny_bind (wpAny_holding (wpAny_call (codeAny_call_builtin_code (Code.quiet_builtin _ F.quiet) (wpAny_check_new_subT F T hC (codeAny_exc_new_subT F T hC ?_ hrest)))))))))))))))
 have kp : ∀ b o, h.get? b = some o -> ((h.push (tupO rest)).push (excO C h.objs.size)).get? b = some o := fun b o e => Heap.get?_push_of_some _ (Heap.get?_push_of_some _ e)
 have X2 : K.In ((h.push (tupO rest)).push (excO C h.objs.size)) := X.keeps kp
 have hget : ((h.push (tupO rest)).push (excO C h.objs.size)).get? (h.objs.size + 1) = some (excO C h.objs.size) := Heap.get?_push_at (by rw [Heap.size_push]) rfl
 have L0 : Looks (model prog w) ((h.push (tupO rest)).push (excO C h.objs.size)) (typeOf (.ref (h.objs.size + 1))) (.ref C) := (Looks.ld hget).andThen .now
 have Li := looks_findIn (M := model prog w) X2 hi
 have Lb := bind_fn (M := model prog w) X2 (.ref (h.objs.size + 1)) hf
 have hcC : (Value.ref C :: bm).contains (Value.ref C) = true := by simp
 show wpAny _ _ _ _ _ _
 refine wpAny_bind ?_
 unfold isInstance
 refine wpAny_bind (L0.at (wpAny_isSubtype_exc (kp _ _ hC) ?_))
 rw [hcC]
 refine wpAny_ite_false rfl (wpAny_bind (wpAny_holding ?_))
 unfold callSpecial? specialOf
 refine wpAny_bind (wpAny_bind (L0.at (Li.at ?_)))
 show wpAny _ _ _ _ _ _
 refine wpAny_holding (wpAny_bind (Lb.at ?_))
 show wpAny _ _ _ _ _ _
 refine wpAny_bind (wpAny_mono hq (fun v s' hv => ?_) fun _ _ x => x)
 obtain ⟨rfl, hv⟩ := hv
 exact wpAny_pure (wpAny_ite_false rfl (wpAny_pure hv))
theorem exc_make {R : Result -> Shared -> Prop} (F : ExcBaseFacts B newId initId bmB) (T : OwnTail h bmB bm) (hC : h.get? C = some (excClassObj nm q C N bs bm hdct sn sub ab col dd k0 k1 k2 k3 k5 newId)) (X : K.In h) (hi : findIn K (.ref C) "__init__" = some (some (.ref f))) (hf : typeIn K (.ref f) = some (.type "function")) (hrest : rest.length <= sizeLine)
  (hq : codeAny (model prog w) (A.under (.builtin "type.__call__" ⟨.ref C :: rest, []⟩)) (.call (.ref f) ⟨.ref (h.objs.size + 1) :: rest, []⟩) (InitBack (h.objs.size + 1) R) ⟨(h.push (tupO rest)).push (excO C h.objs.size), g, d, t, os⟩) :
  codeAny (model prog w) A (.call (.ref C) ⟨rest, []⟩) R ⟨h, g, d, t, os⟩ := by
 refine codeAny_of_tree ?_
 refine wpAny_bind (wpAny_load' hC ?_)
 refine wpAny_bind (wpAny_specialOf ⟨_, hC, rfl⟩ tc_lookup (wpAny_bind (wpAny_of_eq (tc_bind (.ref C)) (wpAny_bind (wpAny_pure (wpAny_ite_true rfl (wpAny_pure ⟨rfl, ?_⟩)))))))
 refine codeAny_call_builtin_at (Code.quiet_builtin _ (by decide +kernel)) entry_typeCall (wpAny_check_type_call_sub hC ?_)
 refine type_call_own F T hC X hi hf hrest (wpAny_call (codeAny_mono hq fun r s' hr => ?_))
 cases r with
 | error e => exact hr
 | ok fl =>
  cases fl with
  | ret v => exact hr
  | next => exact hr
  | brk => exact hr
  | cont => exact hr
theorem einit_call {Q : Value -> Shared -> Prop} {x t0 : Addr} {oe : Obj} {vs : Array Value} (F : ExcBaseFacts B newId initId bmB) (T : OwnTail h bmB bm) (hC : h.get? C = some (excClassObj nm q C N bs bm hdct sn sub ab col dd k0 k1 k2 k3 k5 newId)) (he : h.get? x = some oe) (hcls : oe.cls = .ref C) (hd : oe.data = .fields vs) (h0 : vs[0]? = some (.ref t0)) (hrest : rest.length <= sizeLine)
  (hq : Q .none ⟨(h.push (tupO rest)).update x (Obj.mapFields fun z => z.setIfInBounds 0 (.ref h.objs.size)), g, d, t, os⟩) :
  wpAny (model prog w) A (call (.builtin initId) (.ref x :: rest)) Q E ⟨h, g, d, t, os⟩ := by
 refine wpAny_call (codeAny_call_builtin F.init.plain F.initEntry (wpAny_check_init_subT F T hC he hcls ?_))
 unfold Builtin.«BaseException.__init__»
 refine wpAny_ite_false rfl (wpAny_bind (wpAny_newTuple ?_ hrest))
 refine wpAny_bind ?_
 unfold Builtin.BaseException.bexcPut
 have he' : (h.push (tupO rest)).get? x = some oe := Heap.get?_push_of_some _ he
 refine wpAny_bind (wpAny_field he' hd h0 (wpAny_bind (wpAny_setField he' hd (Array.getElem?_eq_some_iff.mp h0).1 ?_)))
 refine wpAny_letGo ?_
 exact wpAny_pure hq
end
end L2
set_option Elab.async false
set_option linter.all false
set_option maxRecDepth 100000
namespace L2
open PySem PySem.Spec PySem.Calls PyProof.Rows PySem.W Builtin Builtin.ObjectAttr
def excMro (C CE : Addr) : List Value := [.ref C, .ref CE, .type "ValueError", .type "Exception", .type "BaseException", .type "object"]
theorem own_set : builtinOwn "ValueError" "__setattr__" = none /\ builtinOwn "Exception" "__setattr__" = none /\ builtinOwn "BaseException" "__setattr__" = none /\ (builtinOwn "object" "__setattr__").isSome = true /\ isObjects "object" (Str.ofString "__setattr__").toString = true := by decide +kernel
section
variable {prog : Program} {w : World} {A : Around} {E : Value -> Shared -> Prop} {s : Shared} {K : PySem.W.Frag} {x C CE : Addr} {ox : Obj} {od : Option Obj} {name : Str} {tk : Tok} {v : Value} {cd : ClassData}
theorem refuse_ok {M : Model} {h : Heap} (L0 : Looks M h (typeOf (.ref x)) (.ref C)) (L1 : Looks M h (mroOf (.ref C)) (excMro C CE)) : Looks M h (refuseIfOverridden (.ref x) "__setattr__") () := by
 unfold refuseIfOverridden
 refine L0.andThen (L1.andThen ?_)
 obtain ⟨o1, o2, o3, o4, o5⟩ := own_set
 obtain ⟨ob, o4⟩ := Option.isSome_iff_exists.mp o4
 unfold excMro
 simp only [List.forIn_cons, List.forIn_nil]
 have c1 : classOwn (.type "ValueError") (Str.ofString "__setattr__") = pure none := congrArg pure o1
 have c2 : classOwn (.type "Exception") (Str.ofString "__setattr__") = pure none := congrArg pure o2
 have c3 : classOwn (.type "BaseException") (Str.ofString "__setattr__") = pure none := congrArg pure o3
 have c4 : classOwn (.type "object") (Str.ofString "__setattr__") = pure (some ob) := congrArg pure o4
 rw [c1, c2, c3, c4, o5]
 exact Looks.now
theorem osa_exc {R : Result -> Shared -> Prop} (X : K.In s.heap) (I : W.InstAt s.heap x ox C od) (hc : clsIn K C = some cd) (hm : cd.mro = excMro C CE) (ht : takerIn K C name = some none)
  (h : ∀ b, wpAny (model prog w) A.in1 (storeInOwnDict (.ref x) (.ref C) (.str name tk) name v b) (fun fin s' =>
   match fin with
   | PySem.Fin.done f => R (Except.ok f) s'
   | PySem.Fin.again c' => c'.quiet = true /\ codeAny (model prog w) A c' R s') (fun e s' => R (Except.error e) s') s) :
  codeAny (model prog w) A (.call (.builtin "object.__setattr__") ⟨[.ref x, .str name tk, v], []⟩) R s := by
 have SF := F.store_object
 have hmo : mroIn K C (.type "object") = some true := by
  unfold mroIn
  rw [hc]
  show (if cd.mro.isEmpty = true then none else some (cd.mro.contains (Value.type "object"))) = some true
  rw [hm]
  simp [excMro]
 have L0 : Looks (model prog w) s.heap (typeOf (.ref x)) (.ref C) := I.type
 have sub : Looks (model prog w) s.heap (isInstance (.ref x) (.type "object")) true := L0.andThen (looks_mroIn X hmo)
 have L1 : Looks (model prog w) s.heap (mroOf (.ref C)) (excMro C CE) := by
  rw [<- hm]
  exact (looks_clsIn X hc).andThen .now
 have Lr := refuse_ok L0 L1
 obtain ⟨attr, ha, hr⟩ := Option.bind_eq_some_iff.mp ht
 have La := looks_findIn (M := model prog w) X ha
 have Ls : Looks (model prog w) s.heap (storeTaker? attr) none := by
  cases attr with
  | none => exact Looks.now
  | some a =>
   obtain ⟨b, hb, e⟩ := Option.map_eq_some_iff.mp hr
   have hb0 : b = false := by
    cases b with
    | false => rfl
    | true => cases e
   subst hb0
   exact (looks_takesIn X hb).andThen .now
 refine codeAny_call_builtin SF.slot.plain SF.entry ?_
 refine' check_slot ?c1 ?c2 ?c3 ?c4 ?c5
 case c1 => exact SF.kind
 case c2 => exact SF.split
 case c3 => exact sub
 case c4 => exact SF.args _ _ _
 case' c5 => skip
 unfold Builtin.«object.__setattr__»
 refine wpAny_ite_false rfl ?_
 refine wpAny_bind (Lr.at (wpAny_bind (wpAny_pure (wpAny_bind (L0.at (wpAny_bind (La.at (wpAny_bind (Ls.at ?_)))))))))
 exact h attr.isSome
theorem set_exc0 {vs : Array Value} {Q : Unit -> Shared -> Prop} (X : K.In s.heap) (hx : s.heap.get? x = some ox) (hcl : ox.cls = .ref C) (hd : ox.data = .fields vs) (hdd : ox.dict = none) (hs : findIn K (.ref C) "__setattr__" = some (some (.builtin "object.__setattr__"))) (hc : clsIn K C = some cd) (hm : cd.mro = excMro C CE) (hh : cd.hasDict = true) (ht : takerIn K C name = some none)
  (h : ∀ h', (h'.Ns1 s.heap.objs.size fun y => if y = name then some v else none) -> h'.get? x = some { ox with dict := some s.heap.objs.size } -> (∀ b o, b ≠ x -> s.heap.get? b = some o -> h'.get? b = some o) -> Q () { s with heap := h', toks := s.toks + 2 }) :
  wpAny (model prog w) A (setAttr (.ref x) name v) Q E s := by
 have I : W.InstAt s.heap x ox C none := ⟨hx, hcl, by unfold notCls; rw [hd], by rw [hdd]; trivial⟩
 refine set_plain X I hs (osa_exc (s := { s with toks := s.toks + 1 }) (od := none) X I hc hm ht fun b => ?_)
 unfold storeInOwnDict
 have e0 : ownStreamTells (Value.ref x) (Value.ref C) = pure () := rfl
 rw [e0]
 refine wpAny_bind (wpAny_pure ?_)
 refine wpAny_ite_false rfl ?_
 refine wpAny_bind ?_
 unfold ownDictForStores instanceDict
 refine wpAny_bind (wpAny_loadPart hx ?_)
 rw [hcl]
 refine wpAny_bind ((looks_clsIn (M := model prog w) X hc).at ?_)
 rw [hh]
 refine wpAny_ite_false rfl ?_
 dsimp only
 rw [hdd, hd]
 refine wpAny_ite_false rfl ?_
 dsimp only
 have hx1 : (s.heap.push { cls := Value.type "dict", data := Data.dict #[] }).get? x = some ox := Heap.get?_push_of_some _ hx
 have hd1 : (s.heap.push { cls := Value.type "dict", data := Data.dict #[] }).get? s.heap.objs.size = some { cls := Value.type "dict", data := Data.dict #[] } := Heap.get?_push_size _ rfl
 have hne : s.heap.objs.size ≠ x := (Nat.ne_of_lt (Heap.lt_size hx)).symm
 refine wpAny_bind (wpAny_alloc' (wpAny_bind (wpAny_update' hx1 ?_)))
 have hx2 := Heap.get?_update_self (fun o => { cls := o.cls, dict := some s.heap.objs.size, data := o.data, slots := o.slots }) hx1 (Obj.isFreed_of_fields hd)
 have hd2 := (Heap.get?_update_other (s.heap.push { cls := Value.type "dict", data := Data.dict #[] }) (fun o => { cls := o.cls, dict := some s.heap.objs.size, data := o.data, slots := o.slots }) hne.symm).trans hd1
 refine wpAny_pure (a := some s.heap.objs.size) ?_
 show wpAny _ _ (storeInDict _ _ _ _) _ _ _
 unfold storeInDict
 refine wpAny_bind (wpAny_pure (wpAny_bind ?_))
 have n0 : ((s.heap.push { cls := Value.type "dict", data := Data.dict #[] }).update x (fun o => { cls := o.cls, dict := some s.heap.objs.size, data := o.data, slots := o.slots })).Ns1 s.heap.objs.size (fun _ => none) := ⟨_, #[], _, hd2, rfl, by simp [StrKeys], by simp [UniqKeys], fun n => rfl⟩
 refine wpAny_nsSet1 n0 fun h' hn2 hs2 => ?_
 obtain ⟨oD, esD, epD, hoD, hdD, hcD⟩ := hn2.count (PySem.Within.cons name v (ns := []) (fun _ q => absurd rfl q))
 refine wpAny_bind (wpAny_lookBehind hoD (by rw [hdD]; exact pastItsLine_dict (Nat.le_trans hcD (by rw [List.length_cons]; decide))) ?_)
 refine wpAny_pure (h _ hn2 ((hs2.2 _ hne.symm).trans hx2) fun b o hb q => ?_)
 refine (hs2.2 _ (Nat.ne_of_lt (Heap.lt_size q))).trans ((Heap.get?_update_other _ _ hb.symm).trans (Heap.get?_push_of_some _ q))
theorem set_exc1 {vs : Array Value} {dx : Addr} {mA : Str -> Option Value} {ns : List Str} {Q : Unit -> Shared -> Prop} (X : K.In s.heap) (hx : s.heap.get? x = some ox) (hcl : ox.cls = .ref C) (hd : ox.data = .fields vs) (hdd : ox.dict = some dx) (hne : dx ≠ x) (hA : s.heap.Ns1 dx mA) (hw : PySem.Within mA ns) (hsz : ns.length <= 1000) (hs : findIn K (.ref C) "__setattr__" = some (some (.builtin "object.__setattr__"))) (hc : clsIn K C = some cd) (hm : cd.mro = excMro C CE) (hh : cd.hasDict = true) (ht : takerIn K C name = some none)
  (h : ∀ h', (h'.Ns1 dx fun y => if y = name then some v else mA y) -> (∀ b o, b ≠ dx -> s.heap.get? b = some o -> h'.get? b = some o) -> Q () { s with heap := h', toks := s.toks + 2 }) :
  wpAny (model prog w) A (setAttr (.ref x) name v) Q E s := by
 obtain ⟨oA, esA, epA, hoA, restA⟩ := id hA
 have I : W.InstAt s.heap x ox C (some oA) := ⟨hx, hcl, by unfold notCls; rw [hd], by rw [hdd]; exact hoA⟩
 refine set_plain X I hs (osa_exc (s := { s with toks := s.toks + 1 }) (od := some oA) X I hc hm ht fun b => ?_)
 unfold storeInOwnDict
 have e0 : ownStreamTells (Value.ref x) (Value.ref C) = pure () := rfl
 rw [e0]
 refine wpAny_bind (wpAny_pure ?_)
 refine wpAny_ite_false rfl ?_
 refine wpAny_bind ?_
 unfold ownDictForStores instanceDict
 refine wpAny_bind (wpAny_loadPart hx ?_)
 rw [hcl]
 refine wpAny_bind ((looks_clsIn (M := model prog w) X hc).at ?_)
 rw [hh]
 refine wpAny_ite_false rfl ?_
 dsimp only
 rw [hdd]
 refine wpAny_pure (a := some dx) ?_
 show wpAny _ _ (storeInDict _ _ _ _) _ _ _
 unfold storeInDict
 refine wpAny_bind (wpAny_pure (wpAny_bind ?_))
 refine wpAny_nsSet1 (s := { s with toks := s.toks + 1 }) hA fun h' hn2 hs2 => ?_
 obtain ⟨oD, esD, epD, hoD, hdD, hcD⟩ := hn2.count (PySem.Within.cons name v hw)
 refine wpAny_bind (wpAny_lookBehind hoD (by rw [hdD]; exact pastItsLine_dict (Nat.le_trans hcD (by rw [List.length_cons, sizeLine_eq]; omega))) ?_)
 exact wpAny_pure (h _ hn2 fun b o hb q => (hs2.2 _ hb).trans q)
theorem get_exc {expr : Bool} {vs : Array Value} {dx : Addr} {mA : Str -> Option Value} {Q : Value -> Shared -> Prop} (k : ExcK K C) (X : K.In s.heap) (hx : s.heap.get? x = some ox) (hcl : ox.cls = .ref C) (hd : ox.data = .fields vs) (hdd : ox.dict = some dx) (hA : s.heap.Ns1 dx mA) (hh : hasDictIn K C = true) (ha : findIn K (.ref C) name = some none) (hv : mA name = some v) (hv' : handedOut v = pure v)
  (h : Q v { s with toks := s.toks + 1 }) : wpAny (model prog w) A (getAttr (.ref x) name expr) Q E s := by
 obtain ⟨oA, hoA, hl⟩ := lookIn_ns hA
 have I : W.InstAt s.heap x ox C (some oA) := ⟨hx, hcl, by unfold notCls; rw [hd], by rw [hdd]; exact hoA⟩
 have Lf := looks_find (M := model prog w) X I (findObj_own hh ha rfl (by rw [hl, hv]))
 have L0' : Looks (model prog w) s.heap (typeOf (.ref x)) (.ref C) := I.type
 obtain ⟨hh', g, d, t, os⟩ := s
 have L1 := looks_findIn (M := model prog w) X k.ga
 have L2 := looks_findIn (M := model prog w) X k.ha
 have LB : Looks (model prog w) hh' (isInstance (.ref x) (.type "BaseException")) true := L0'.andThen (looks_mroIn X k.mb)
 have hk : builtinKind "BaseException.__getattribute__" = some .slot := by decide +kernel
 have hsplit : splitId "BaseException.__getattribute__" = some ("BaseException", "__getattribute__") := by decide +kernel
 unfold getAttr getAttrBy
 refine wpAny_bind (wpAny_mkText (wpAny_holding (wpAny_bind (L0'.at (wpAny_bind (L1.at ?_))))))
 show wpAny _ _ (getAttrByItsOwn _ _ _ _ _ _) _ _ _
 unfold getAttrByItsOwn hookBefore
 refine wpAny_bind (L2.at ?_)
 refine wpAny_bind (wpAny_attempt (wpAny_holding ?_))
 have ec : callGetattribute (.ref x) (.str name t) (.builtin "BaseException.__getattribute__") expr = boundAndCalled (.builtin "BaseException.__getattribute__") (.ref x) (.str name t) := by
  unfold callGetattribute
  rw [if_neg (by cases expr <;> simp [onTheHeap])]
 rw [ec]
 unfold boundAndCalled
 refine wpAny_bind (wpAny_of_eq (PySem.F.attr_ValueError.ga.bind (.ref x)) ?_)
 refine wpAny_call (codeAny_call_builtin PySem.F.attr_ValueError.ga.plain PySem.F.entry_bexc_ga ?_)
 simp only [checkBuiltinCall, hk, hsplit]
 refine wpAny_bind (LB.at ?_)
 have ha := PySem.F.args_bexc_ga (.ref x) (.str name t)
 have key : ∀ {A' : Around} {E' : Value -> Shared -> Prop} {R : Unit -> Shared -> Prop}, R () ⟨hh', g, d, t + 1, os⟩ -> wpAny (model prog w) A' (match Manifest.signature? "BaseException.__getattribute__" with
   | some sig => Bind.checkArgs "BaseException.__getattribute__" sig { pos := [Value.ref x] ++ [Value.str name t] }
   | x => pure ()) R E' ⟨hh', g, d, t + 1, os⟩ := by
  intro A' E' R hR
  have ha' : (match Manifest.signature? "BaseException.__getattribute__" with
   | some sig => Bind.checkArgs "BaseException.__getattribute__" sig { pos := [Value.ref x] ++ [Value.str name t] }
   | x => pure ()) = pure () := ha
  rw [ha']
  exact wpAny_pure hR
 rw [if_neg (by decide)]
 refine key ?_
 unfold Builtin.«object.__getattribute__»
 refine wpAny_bind (wpAny_pure ?_)
 refine wpAny_bind (wpAny_pure ?_)
 refine wpAny_bind (L0'.at ?_)
 refine wpAny_bind (Lf.at ?_)
 show wpAny _ _ (ret v) _ _ _
 refine wpAny_pure ?_
 show wpAny _ _ _ _ _ _
 rw [hv']
 exact wpAny_pure h
end
end L2
set_option Elab.async false
set_option linter.all false
set_option maxRecDepth 100000
namespace L2
open PySem PySem.Spec PySem.Calls PyProof.Rows PySem.W
section
variable {M : Model} {A : Around} {E : Value -> Shared -> Prop} {s : Shared} {env : Env} {nm q : Str} {C N : Addr} {bs bm : List Value} {hdct : Bool} {sn : List Str} {sub : List Value} {ab : Bool} {col : Option Bool} {dd : Option Addr} {k0 k1 k2 k3 k5 : Option Value} {newId : String}
theorem raise_exc {x : Sem Value} {Q : Flow -> Shared -> Prop} (hbase : bm.contains (Value.type "BaseException") = true) (hh : A.handled = none)
  (h : wpAny M A x (fun v s₁ => ∃ e oe vs, v = Value.ref e /\ s₁.heap.get? C = some (excClassObj nm q C N bs bm hdct sn sub ab col dd k0 k1 k2 k3 k5 newId) /\ s₁.heap.get? e = some oe /\ oe.cls = .ref C /\ oe.data = Data.fields vs /\ vs[1]? = some Value.none /\ E (Value.ref e) s₁) E s) :
  wpAny M A (raiseStmt env (some x) none) Q E s := by
 have hcB : (Value.ref C :: bm).contains (Value.type "BaseException") = true := by rw [List.contains_cons, hbase, Bool.or_true]
 unfold raiseStmt
 refine wpAny_bind (wpAny_mono h (fun v s₁ ⟨e, oe, vs, ev, hC, he, hc, hd, h1, hE⟩ => ?_) fun _ _ z => z)
 subst ev
 obtain ⟨hp, g, d, tk, os⟩ := s₁
 have L0 : Looks M hp (typeOf (.ref e)) (.ref C) := hc ▸ (Looks.ld he).andThen .now
 have Lc : Looks M hp (typeOf (.ref C)) (.type "type") := (Looks.ld hC).andThen .now
 have Li : Looks M hp (isType (.ref e)) false := by
  unfold isType loadHead
  refine (Looks.ld he).andThen ?_
  rw [hd]
  exact .now
 refine wpAny_bind (wpAny_pure (wpAny_bind (wpAny_holding ?_)))
 unfold excFromValue isExcClass
 refine wpAny_bind (wpAny_bind (Li.at (wpAny_ite_false rfl (wpAny_pure (wpAny_ite_false rfl ?_)))))
 unfold isInstance
 refine wpAny_bind (wpAny_bind (L0.at (wpAny_isSubtype_exc hC ?_)))
 rw [hcB]
 refine wpAny_ite_true rfl (wpAny_pure ?_)
 refine wpAny_bind (Li.at (wpAny_ite_false rfl (wpAny_bind ?_)))
 unfold raisedInstance
 refine wpAny_bind (L0.at (wpAny_bind (Lc.at (wpAny_ite_true rfl (wpAny_pure ?_)))))
 unfold setFlight
 refine wpAny_bind (wpAny_bind (wpAny_field he hd h1 (wpAny_ite_false rfl (wpAny_pure ?_))))
 exact wpAny_raiseNew_none hh hE
end
end L2
set_option Elab.async false
set_option linter.all false
set_option maxRecDepth 100000
namespace L2
open PySem PySem.Spec PySem.Calls PyProof.Rows PySem.W
abbrev bmV : List Value := [.type "ValueError", .type "Exception", .type "BaseException", .type "object"]
def excInO (K : PySem.W.Frag) (C : Addr) (bmB : List Value) (newId : String) : Bool :=
 match K.lookup C with
 | some ⟨.type "type", _, .cls cd, sl⟩ =>
  match cd.mro, sl.toList with
  | .ref C' :: bm, [_, _, _, _, some (.builtin n), _] => C' == C && n == newId && !cd.hasDel && tailIn K bmB bm && nsOkIn K cd.ns
  | _, _ => false
 | _ => false
theorem own_ofO {K : PySem.W.Frag} {h : Heap} {C : Addr} {bmB : List Value} {newId : String} (X : K.In h) (z : excInO K C bmB newId = true) :
  ∃ bm N nm q bs hdct sn sub ab col dd k0 k1 k2 k3 k5, h.get? C = some (excClassObj nm q C N bs bm hdct sn sub ab col dd k0 k1 k2 k3 k5 newId) /\ OwnTail h bmB bm := by
 unfold excInO at z
 split at z
 ·rename_i dd cd sl ho
  split at z
  ·rename_i C' bm k0 k1 k2 k3 n k5 hm' hs
   simp only [Bool.and_eq_true, beq_iff_eq, Bool.not_eq_true'] at z
   obtain ⟨⟨⟨⟨rfl, rfl⟩, hdel⟩, ht⟩, hok⟩ := z
   obtain ⟨nm, bs, mro, ns, qn, hd, sn, sub, ab, col, del⟩ := cd
   dsimp only at hm' hdel hok
   subst hm' hdel
   have hsl : sl = #[k0, k1, k2, k3, some (.builtin n), k5] := by
    obtain ⟨l⟩ := sl
    simp only at hs
    rw [hs]
   subst hsl
   exact ⟨bm, ns, nm, qn, bs, hd, sn, sub, ab, col, dd, k0, k1, k2, k3, k5, X _ _ ho, PySem.W.tail_of_in X ht⟩
  ·cases z
 ·cases z
def clsO (K : PySem.W.Frag) (C CE : Addr) : Bool :=
 match clsIn K C with
 | some cd => cd.mro == excMro C CE && cd.hasDict
 | none => false
theorem clsO_of {K : PySem.W.Frag} {C CE : Addr} (h : clsO K C CE = true) : ∃ cd, clsIn K C = some cd /\ cd.mro = excMro C CE /\ cd.hasDict = true := by
 unfold clsO at h
 split at h
 ·rename_i cd hc
  simp only [Bool.and_eq_true, beq_iff_eq] at h
  exact ⟨cd, hc, h.1, h.2⟩
 ·cases h
structure ExO (K : PySem.W.Frag) (C CE : Addr) : Prop where
 kx : ExcK K C
 ex : excInO K C bmV "ValueError.__new__" = true
 es : findIn K (.ref C) "__setattr__" = some (some (.builtin "object.__setattr__"))
 cl : clsO K C CE = true
structure ExF (K : PySem.W.Frag) (C : Addr) (f : Str) : Prop where
 tk : takerIn K C f = some none
 fd : findIn K (.ref C) f = some none
structure ExB (K : PySem.W.Frag) (CE : Addr) : Prop where
 sp : specialIn K (.ref CE) "__getattribute__" = some (some (.builtin "type.__getattribute__"))
 rd : readsIn K CE (.type "type") = true
 fc : findCls K (.ref CE) (.type "type") "__init__" = some (.val (.builtin "ValueError.__init__"))
def exn (e C a0 : Addr) (dd : Option Addr) : HO := .ext fun h => ∃ o, h.get? e = some o /\ o.cls = .ref C /\ o.dict = dd /\ o.data = .fields #[.ref a0, .none, .none, .none, .bool false, .none]
def exq (e C : Addr) (dd : Option Addr) : HO := .ext fun h => ∃ o vs, h.get? e = some o /\ o.cls = .ref C /\ o.dict = dd /\ o.data = .fields vs
def xdm (d : Addr) (fs : List (Str × V)) : HO := .ext fun h => ∃ mA, h.Ns1 d mA /\ (∀ f, RelO (fs.lookup f) (mA f)) /\ PySem.Within mA (fs.map (·.1))
section
variable {P : Program} {w : World} {H : Hp} {h : Heap} {e C a0 d : Addr} {dd : Option Addr} {fs : List (Str × V)}
theorem exn_ok {o : Obj} (h1 : h.get? e = some o) (h2 : o.cls = .ref C) (h3 : o.dict = dd) (h4 : o.data = .fields #[.ref a0, .none, .none, .none, .bool false, .none]) : ObjOk P w H h e (exn e C a0 dd) := ⟨⟨o, h1, h2, h3, h4⟩, ⟨o, h1⟩, fun _ _ ⟨u, q, r⟩ k => ⟨u, k u q, r⟩⟩
theorem exq_ok {o : Obj} {vs : Array Value} (h1 : h.get? e = some o) (h2 : o.cls = .ref C) (h3 : o.dict = dd) (h4 : o.data = .fields vs) : ObjOk P w H h e (exq e C dd) := ⟨⟨o, vs, h1, h2, h3, h4⟩, ⟨o, h1⟩, fun _ _ ⟨u, vs, q, r⟩ k => ⟨u, vs, k u q, r⟩⟩
theorem xdm_ok {mA : Str -> Option Value} (h1 : h.Ns1 d mA) (h2 : ∀ f, RelO (fs.lookup f) (mA f)) (h3 : PySem.Within mA (fs.map (·.1))) : ObjOk P w H h d (xdm d fs) := by
 obtain ⟨o, es, ep, q, r⟩ := id h1
 exact ⟨⟨mA, h1, h2, h3⟩, ⟨o, q⟩, fun _ _ ⟨mA, ⟨o, es, ep, q, r⟩, z⟩ k => ⟨mA, ⟨o, es, ep, k o q, r⟩, z⟩⟩
end
section
variable {X : Cx} {C CE : Addr} {x f : Str} {p apos pos pos' : Pos} {o e value : Expr} {es : List Expr} {ta tv : TE} {t : TA}
def tEInit (K : PySem.W.Frag) (t : TA) : TE := fun σ H Q => t σ H fun vs H1 => ∃ x rest C a0 dd, vs = V.ref x :: rest /\ H1 x = some (exn x C a0 dd) /\ excInO K C bmV "ValueError.__new__" = true /\ rest.length <= sizeLine /\ ∀ t2, H1 t2 = none -> Q .non (upd (upd H1 t2 (.tup rest)) x (exn x C t2 dd))
theorem pe_einit {pl : Sem Bool} (B : ExB X.K CE) (hg : Gl X x) (hm : X.mg x = some (.ref CE)) (ha : PA X (e :: es) t) (hdb : (x == ("__debug__" : Str)) = false := by decide)
  (hst : starEach (e :: es) X.env = (false, eval e X.env) :: starEach es X.env := by rfl) (hpl : (backTo pos (starEach es X.env)).any (·.1) = false := by rfl)
  (ht : eval (.Call (.Attribute (.Name x p) "__init__" apos) (e :: es) [] pos) X.env = (do
   let ov <- eval (.Name x p) X.env
   standAt apos.atName
   let (f, first) <- holding [ov] (getMethod ov "__init__" pl)
   callWith pos f first (backTo pos (starEach (e :: es) X.env)) (backToKw pos (keywordEach [] X.env))) := by rfl) :
  PE X (.Call (.Attribute (.Name x p) "__init__" apos) (e :: es) [] pos) (tEInit X.K t) := by
 intro pins s σ H Q I h
 refine PySem.W.methodCall_KW (pl := pl) (ld_glob I hg hm ?_ hdb) ht
 refine method_cls I.kIn B.sp (cls_value I.kIn B.rd B.fc rfl ?_)
 have I0 := I.tok (s.toks + 1)
 refine PyProof.Rows.callWith_builtin1 (thn (ha pos pins _ σ H _ I0 h) fun us s1 ⟨vs, H1, I1, r1, x, rest, C, a0, dd, ev, hx, ex, hz, q⟩ => ?_) hst hpl
 subst ev
 obtain ⟨u, us, rfl⟩ : ∃ u us', us = u :: us' := by
  cases r1 with
  | cons a b => exact ⟨_, _, rfl⟩
 cases r1 with
 | cons ru rr =>
  obtain rfl : u = Value.ref x := ru
  obtain ⟨bm, N, nm, q', bs, hdct, sn, sub, ab, col, dd', k0, k1, k2, k3, k5, hC, T⟩ := own_ofO I1.kIn ex
  obtain ⟨oe, he, hc, hdd, hd⟩ := (I1.hok x _ hx).1
  have lus : us.length <= sizeLine := by rw [<- rr.length]; exact hz
  obtain ⟨hp, g, dr, tk, os⟩ := s1
  refine einit_call F.excBase_ValueError T hC he hc hd rfl lus ?_
  have hx2 : H1 hp.objs.size = none := I1.fresh
  have ne : x ≠ hp.objs.size := ne_of_none hx hx2
  have I2 := I1.laid (a := hp.objs.size) (o := .tup rest) (h' := hp.push (tupO us)) (t' := tk) (fun b u q => Heap.get?_push_of_some _ q) (Nat.le_refl _) ⟨hz, us, rr, ⟨_, Heap.get?_push_size hp rfl, rfl, _, rfl⟩, _, Heap.get?_push_size hp rfl, rfl⟩
  have hx3 : upd H1 hp.objs.size (.tup rest) x = some (exn x C a0 dd) := by rw [upd_ne ne]; exact hx
  have he2 : (hp.push (tupO us)).get? x = some oe := Heap.get?_push_of_some _ he
  have hd3 := Obj.data_mapFields hd fun z => z.setIfInBounds 0 (.ref hp.objs.size)
  have he3 := Heap.get?_update_self (Obj.mapFields fun z => z.setIfInBounds 0 (Value.ref hp.objs.size)) he2 (Obj.isFreed_of_fields hd3)
  have hcd : ((Obj.mapFields fun z => z.setIfInBounds 0 (Value.ref hp.objs.size)) oe).cls = oe.cls /\ ((Obj.mapFields fun z => z.setIfInBounds 0 (Value.ref hp.objs.size)) oe).dict = oe.dict := by
   obtain ⟨c, dt, da, sl⟩ := oe
   have : da = _ := hd
   subst this
   exact ⟨rfl, rfl⟩
  have I3 := I2.write (x := x) (e := x) (o := exn x C hp.objs.size dd) (h' := (hp.push (tupO us)).update x (Obj.mapFields fun z => z.setIfInBounds 0 (.ref hp.objs.size))) (t' := tk) (by rw [hx3]; exact True.intro) (.inl rfl) (fun b u hb q => (Heap.get?_update_other _ _ hb.symm).trans q) ⟨_, he3⟩ (exn_ok he3 (hcd.1.trans hc) (hcd.2.trans hdd) hd3)
  exact ⟨.non, _, I3, rfl, q _ hx2⟩
def sXFld0 (K : PySem.W.Frag) (CE : Addr) (ta tv : TE) (f : Str) : TS := fun D σ H => tv σ H fun v H1 => ta σ H1 fun x H2 => ∃ a C a0, x = .ref a /\ H2 a = some (exn a C a0 none) /\ ExO K C CE /\ ExF K C f /\ ∀ d, H2 d = none -> D.nx σ (upd (upd H2 d (xdm d [(f, v)])) a (exn a C a0 (some d)))
theorem ps_xfld0 (ha : PE X o ta) (hv : PE X value tv) (hs : swapsWith value (some (.Attribute o f pos')) pos.line X.env = pure false) : PS X (.Assign [.Attribute o f pos'] value pos) (sXFld0 X.K CE ta tv f) := by
 intro pins s σ H D I h
 refine plainObj_wpAny_Assign_Attribute (thn (hv pins s σ H _ I h) fun u s1 ⟨y, H1, I1, ry, q⟩ => thn (ha pins s1 σ H1 _ I1 q) fun ov s2 ⟨x, H2, I2, rx, a, C, a0, ex, ea, O, Fd, q2⟩ => ?_) hs
 subst ex
 obtain rfl : ov = Value.ref a := rx
 obtain ⟨oe, he, hc, hdd, hd⟩ := (I2.hok a _ ea).1
 obtain ⟨cd, h1, h2, h3⟩ := clsO_of O.cl
 refine set_exc0 I2.kIn he hc hd hdd O.es h1 h2 h3 Fd.tk fun h' hn hx kp => ?_
 have fr : H2 s2.heap.objs.size = none := I2.fresh
 have ne : a ≠ s2.heap.objs.size := ne_of_none ea fr
 obtain ⟨oD, esD, epD, hoD, _⟩ := id hn
 have new : ∀ {b : Addr} {u : HO}, H2 b = some u -> u ≠ exn a C a0 none -> upd (upd H2 s2.heap.objs.size (xdm s2.heap.objs.size [(f, y)])) a (exn a C a0 (some s2.heap.objs.size)) b = some u := fun q n => by
  rw [upd_ne (ne_of q ea n), upd_ne (ne_of_none q fr)]
  exact q
 have I4 : Inv X pins σ (upd (upd H2 s2.heap.objs.size (xdm s2.heap.objs.size [(f, y)])) a (exn a C a0 (some s2.heap.objs.size))) { s2 with heap := h', toks := s2.toks + 2 } := by
  refine I2.un ⟨fun b o q n _ _ => kp b o (fun z => ?_) q, fun b o q n _ _ => ⟨o.slots, kp b o (fun z => ?_) q⟩, fun b o q n _ => ?_, fun b o q _ => ?_, fun b xs q => new q (by intro z; cases z), fun b o u q => new q (by intro z; cases z), fun b p q => ⟨#[], by rw [Array.append_empty]; exact new q (by intro z; cases z)⟩⟩ fun b u q => ?_
  ·rw [z, ea] at n
   cases n
  ·rw [z, ea] at n
   cases n
  ·rw [upd_ne (fun z => by rw [z, ea] at n; cases n), upd_ne (Nat.ne_of_lt (Heap.lt_size q))]
   exact n
  ·by_cases z : b = a
   ·exact ⟨_, z ▸ hx⟩
   ·exact ⟨o, kp b o z q⟩
  ·by_cases z : b = a
   ·subst z
    rw [upd_same] at q
    cases q
    exact exn_ok hx hc rfl hd
   ·rw [upd_ne z] at q
    by_cases z2 : b = s2.heap.objs.size
    ·subst z2
     rw [upd_same] at q
     cases q
     refine xdm_ok hn (fun g => ?_) (PySem.Within.cons f _ (ns := []) (fun _ q => absurd rfl q))
     by_cases zg : g = f
     ·subst zg
      rw [if_pos rfl]
      show RelO (List.lookup g [(g, y)]) (some u)
      rw [List.lookup_cons, beq_self_eq_true]
      exact ry
     ·rw [if_neg zg]
      show RelO (List.lookup g [(f, y)]) none
      have : (g == f) = false := by simpa using zg
      rw [List.lookup_cons, this]
      exact True.intro
    ·rw [upd_ne z2] at q
     refine (I2.hok b u q).stay (fun c v hc' q' => kp c v (fun y => ?_) q') (fun c q' => new q' (by intro z; cases z)) fun c xs q' => new q' (by intro z; cases z)
     rcases hc' with y2 | y2
     ·exact z (y2.symm.trans y)
     ·rw [y, ea] at y2
      cases y2
 exact ⟨σ, _, I4, q2 _ fr⟩
def sXFld1 (K : PySem.W.Frag) (CE : Addr) (ta tv : TE) (f : Str) : TS := fun D σ H => tv σ H fun v H1 => ta σ H1 fun x H2 => ∃ a C a0 d fs, x = .ref a /\ H2 a = some (exn a C a0 (some d)) /\ H2 d = some (xdm d fs) /\ fs.length < 100 /\ d ≠ a /\ ExO K C CE /\ ExF K C f /\ D.nx σ (upd H2 d (xdm d (putF f v fs)))
theorem ps_xfld1 (ha : PE X o ta) (hv : PE X value tv) (hs : swapsWith value (some (.Attribute o f pos')) pos.line X.env = pure false) : PS X (.Assign [.Attribute o f pos'] value pos) (sXFld1 X.K CE ta tv f) := by
 intro pins s σ H D I h
 refine plainObj_wpAny_Assign_Attribute (thn (hv pins s σ H _ I h) fun u s1 ⟨y, H1, I1, ry, q⟩ => thn (ha pins s1 σ H1 _ I1 q) fun ov s2 ⟨x, H2, I2, rx, a, C, a0, d, fs, ex, ea, ed, hl, nda, O, Fd, q2⟩ => ?_) hs
 subst ex
 obtain rfl : ov = Value.ref a := rx
 obtain ⟨oe, he, hc, hdd, hd⟩ := (I2.hok a _ ea).1
 obtain ⟨mA, hA, rA, wA⟩ := (I2.hok d _ ed).1
 obtain ⟨cd, h1, h2, h3⟩ := clsO_of O.cl
 refine set_exc1 I2.kIn he hc hd hdd nda hA wA (by rw [List.length_map]; omega) O.es h1 h2 h3 Fd.tk fun h' hn kp => ?_
 obtain ⟨oD, esD, epD, hoD, _⟩ := id hn
 have I3 : Inv X pins σ (upd H2 d (xdm d (putF f y fs))) { s2 with heap := h', toks := s2.toks + 2 } := I2.write (x := d) (e := d) (o := xdm d (putF f y fs)) (by rw [ed]; exact True.intro) (.inl rfl) (fun b u hb z => kp b u hb z) ⟨_, hoD⟩ (by
  refine xdm_ok hn (fun g => ?_) (fun g hg => ?_)
  ·show RelO ((putF f y fs).lookup g) (if g = f then some u else mA g)
   rw [lookup_putF]
   by_cases q : g = f
   ·rw [if_pos q, if_pos q]; exact ry
   ·rw [if_neg q, if_neg q]; exact rA g
  ·by_cases q : g = f
   ·rw [q]; exact (keys_putF f y fs).1
   ·refine (keys_putF f y fs).2 g (wA g fun z => hg ?_)
    show (if g = f then some u else mA g) = none
    rw [if_neg q]; exact z)
 exact ⟨σ, _, I3, q2⟩
def tXGet (K : PySem.W.Frag) (ta : TE) (f : Str) : TE := fun σ H Q => ta σ H fun x H1 => ∃ a C d fs v, x = .ref a /\ H1 a = some (exq a C (some d)) /\ H1 d = some (xdm d fs) /\ ExcK K C /\ hasDictIn K C = true /\ findIn K (.ref C) f = some none /\ fs.lookup f = some v /\ Q v H1
theorem pe_xget (he : PE X e ta) (hb : attributeBase e f X.env (eval e X.env) = eval e X.env) : PE X (.Attribute e f pos) (tXGet X.K ta f) := by
 intro pins s σ H Q I h
 refine attr_of hb (thn (he pins s σ H _ I h) fun u s1 ⟨x, H1, I1, rx, a, C, d, fs, v, ex, ea, ed, k, hh, ff, l, q⟩ => ?_)
 subst ex
 obtain rfl : u = Value.ref a := rx
 obtain ⟨oe, vs, he, hc, hdd, hd⟩ := (I1.hok a _ ea).1
 obtain ⟨mA, hA, rA, wA⟩ := (I1.hok d _ ed).1
 obtain ⟨u, hu, ru⟩ := RelO.some_of (v := v) (o := mA f) (by rw [<- l]; exact rA f)
 refine get_exc k I1.kIn he hc hd hdd hA hh ff hu ?_ ⟨v, H1, I1.tok _, ru, q⟩
 cases v with
 | non => cases (show u = Value.none from ru); rfl
 | bl b => cases (show u = Value.bool b from ru); rfl
 | int i => obtain ⟨t, e⟩ := (show ∃ t, u = Value.int i t from ru); cases e; rfl
 | str x => obtain ⟨t, e⟩ := (show ∃ t, u = Value.str x t from ru); cases e; rfl
 | byt b => obtain ⟨t, e⟩ := (show ∃ t, u = Value.bytes b t from ru); cases e; rfl
 | flt b => obtain ⟨t, e⟩ := (show ∃ t, u = Value.float b t from ru); cases e; rfl
 | ref a => cases (show u = Value.ref a from ru); rfl
 | ty n => cases (show u = Value.type n from ru); rfl
end
end L2
set_option Elab.async false
set_option linter.all false
set_option maxRecDepth 100000
namespace L2
open PySem PySem.Spec PySem.Calls PyProof.Rows PySem.W
def CX2 (P : Program) (w : World) : CXT := fun l H s E e s' =>
 ∃ a cls H' B a0 dd, e = Value.ref a /\ s'.os = s.os /\ AllBare s'.gens /\ Un (frs l) [] H H' s.heap s'.heap /\ HOk P w H' s'.heap /\ FlyingD B l a cls a0 dd s'.heap /\ InB B l H' s.heap s'.heap /\ E cls dd H'
section
variable {X : Cx} {pins : List (Addr × Obj)} {σ : St} {H H' : Hp} {s s1 : Shared} {B h : Heap} {a : Addr} {cls a0 : Value} {dd : Option Addr} {E : XK}
theorem leave_endD (I : Inv X pins σ H s) (hex : X.ex = []) (os : s1.os = s.os) (bare : AllBare s1.gens) (un : Un (frs X.stack) [] H H' s.heap h) (hok : HOk X.prog X.w H' h) (i : InB B X.stack H' s.heap h) (ff : h.FunFrames B X.stack) (up : h.UpToSlots s1.heap)
  (fl : FlyingD B X.outer a cls a0 dd s1.heap) (hE : E cls dd H') : CX2 X.prog X.w X.outer X.H₀ X.s₀ E (.ref a) s1 := by
 have un1 := flown_un un ff i fl.1 up
 have hok1 := flown_hok hok (stk_free I un) i fl.1
 have I1 : Inv X pins σ H' s1 := I.call' os un1 hok1 bare (fun b z => absurd z (by simp))
 have bs := I1.base
 rw [hex] at bs
 refine ⟨a, cls, H', B, a0, dd, rfl, I1.os, I1.bare, bs, I1.hok, fl, fun b o e hb c => ?_, hE⟩
 have nL : b ≠ X.env.locals := by
  rcases c with z | ⟨o0, z⟩
  ·intro q
   rw [q, I1.free] at z
   cases z
  ·exact Nat.ne_of_lt (Nat.lt_of_lt_of_le (Heap.lt_size z) I.ok.above)
 refine flown_in hok un i fl.1 b o e (fun hm => ?_) (c.imp id fun ⟨o0, z⟩ => I.base.there b o0 z (by rw [hex]; simp))
 rcases List.mem_cons.mp (I.stkSub b hm) with z | z
 ·exact nL z
 ·exact hb z
def dropH (H : Hp) (e : Addr) : Hp := fun b => if b = e then none else H b
theorem dropH_same {e : Addr} : dropH H e e = none := by unfold dropH; rw [if_pos rfl]
theorem dropH_ne {e b : Addr} (n : b ≠ e) : dropH H e b = H b := by unfold dropH; rw [if_neg n]
theorem leave_own {e C a1 : Addr} (I : Inv X pins σ H s) (hex : X.ex = []) (hfs : X.fs = frs X.outer) (hst : X.stack = X.env :: X.outer) (he : H e = some (exn e C a1 dd)) (hnew : X.s₀.heap.objs.size <= e) (os : s1.os = s.os) (bare : AllBare s1.gens) (hB : B = PySem.W.hideAll s.heap (e :: frs X.stack)) (up : s.heap.UpToSlots s1.heap)
  (fl : FlyingD B X.outer e (.ref C) a0 dd s1.heap) (hE : E (.ref C) dd (dropH H e)) : CX2 X.prog X.w X.outer X.H₀ X.s₀ E (.ref e) s1 := by
 have nd : ∀ {b : Addr} {u : HO}, H b = some u -> u ≠ exn e C a1 dd -> dropH H e b = some u := fun q n => by rw [dropH_ne (ne_of q he n)]; exact q
 have bs := I.base
 rw [hex, hfs] at bs
 have un : Un (frs X.outer) [] X.H₀ (dropH H e) X.s₀.heap s.heap := ⟨bs.keep, bs.slot, fun b o q n z => by
   by_cases y : b = e
   ·rw [y]; exact dropH_same
   ·rw [dropH_ne y]; exact bs.free b o q n z, bs.there, fun b xs q => nd (bs.tups b xs q) (by intro z; cases z), fun b o u q => nd (bs.frzs b o u q) (by intro z; cases z), fun b p q => by
   obtain ⟨more, z⟩ := bs.tbls b p q
   exact ⟨more, nd z (by intro z; cases z)⟩⟩
 have hok : HOk X.prog X.w (dropH H e) s.heap := fun b u q => by
  have y : b ≠ e := fun y => by rw [y, dropH_same] at q; cases q
  rw [dropH_ne y] at q
  exact (I.hok b u q).stay (fun _ _ _ z => z) (fun c z => nd z (by intro z; cases z)) fun c xs z => nd z (by intro z; cases z)
 have fso : ∀ b ∈ frs X.outer, dropH H e b = none := fun b hb => by
  by_cases y : b = e
  ·rw [y]; exact dropH_same
  ·rw [dropH_ne y]
   refine I.stkFree b ?_
   rw [hst]
   obtain ⟨v, hv, e⟩ := List.mem_filterMap.mp hb
   exact List.mem_filterMap.mpr ⟨v, List.mem_cons_of_mem _ hv, e⟩
 have i : InB B X.outer (dropH H e) X.s₀.heap s.heap := fun b o q hb c => by
  rw [hB]
  have nL : b ≠ X.env.locals := by
   rcases c with z | ⟨o0, z⟩
   ·intro y
    by_cases ye : b = e
    ·rw [ye, dropH_same] at z; cases z
    ·rw [dropH_ne ye, y, I.free] at z
     cases z
   ·exact Nat.ne_of_lt (Nat.lt_of_lt_of_le (Heap.lt_size z) I.ok.above)
  have ne : b ≠ e := by
   rcases c with z | ⟨o0, z⟩
   ·intro y
    rw [y, dropH_same] at z
    cases z
   ·exact Nat.ne_of_lt (Nat.lt_of_lt_of_le (Heap.lt_size z) hnew)
  refine PySem.W.hideAll_get _ q fun hm => ?_
  rcases List.mem_cons.mp hm with z | hm
  ·exact ne z
  ·rcases List.mem_cons.mp (I.stkSub b hm) with z | z
   ·exact nL z
   ·exact hb (hfs ▸ z)
 have ff : s.heap.FunFrames B X.outer := by
  have z := PySem.W.funFrames_hide (as := e :: frs X.stack) I.stack (fun env he b hb => List.mem_cons_of_mem _ (List.mem_filterMap.mpr ⟨env, he, hb⟩))
  rw [<- hB, hst] at z
  exact z.2.2
 exact ⟨e, _, _, B, a0, dd, rfl, os.trans I.os, bare, flown_un un ff i fl.1 up, flown_hok hok fso i fl.1, fl, flown_in hok un i fl.1, hE⟩
end
section
variable {P : Program} {w : World} {K : PySem.W.Frag} {mg : Str -> Option Value} {base : Heap} {N : List Str} {qual : Str} {scope : Scope} {f : Addr} {cd : Value} {A : Around} {outer : List Env} {s : Shared} {H : Hp} {E : XK}
theorem passes2 : Passes (CX2 P w) (cxOf (CX2 P w) P w K mg base N qual scope f cd A outer s H E) E := by
 intro pins σ H1 s1 e s' I hc
 obtain ⟨a, cls, H', B, a0, dd, rfl, os, bare, un, hok, fl, i, hE⟩ := hc
 refine leaves_onD (base := B) I.ok.frames rfl fl fun h1 fl1 up => ?_
 exact leave_endD (s1 := { s' with heap := h1 }) I rfl os bare un hok i fl.2.2.1 up fl1 hE
def RaisesO (X : Cx) (E : XK) : Prop := ∀ (pins : List (Addr × Obj)) (σ : St) (H : Hp) (s : Shared) (e C a1 : Addr) (dd : Option Addr), Inv X pins σ H s -> H e = some (exn e C a1 dd) -> X.s₀.heap.objs.size <= e -> E (.ref C) dd (dropH H e) -> X.xe (.ref e) s
theorem raisesO : RaisesO (cxOf (CX2 P w) P w K mg base N qual scope f cd A outer s H E) E := by
 intro pins σ H1 s1 e C a1 dd I he hnew hE
 obtain ⟨oe, h1, h2, h3, h4⟩ := (I.hok e _ he).1
 have ff := PySem.W.funFrames_hide (as := e :: frs (cxOf (CX2 P w) P w K mg base N qual scope f cd A outer s H E).stack) I.stack (fun env he b hb => List.mem_cons_of_mem _ (List.mem_filterMap.mpr ⟨env, he, hb⟩))
 refine leaves_firstD (base := PySem.W.hideAll s1.heap (e :: frs (cxOf (CX2 P w) P w K mg base N qual scope f cd A outer s H E).stack)) I.ok.frames rfl (fun b o q => PySem.W.of_hideAll _ q) ff ?_ h1 h2 h3 h4 rfl rfl fun h' fl up => ?_
 ·exact PySem.W.hideAll_none _ List.mem_cons_self
 ·exact leave_own (s1 := { s1 with heap := h' }) I rfl rfl rfl he hnew rfl I.bare rfl up fl hE
end
section
variable {X : Cx} {x : Str} {C f : Addr} {fd : FuncData} {ps : List Str} {sp : Sp} {k : Nat} {np cpos pos : Pos} {e : Expr} {es : List Expr} {t : TA} {E : XK}
def tRaiseO (C : Addr) (sp : Sp) (E : XK) (t : TA) : TS := fun _ σ H => t σ H fun vs H1 => vs.length <= sizeLine /\ ∀ x t1, H1 x = none -> H1 t1 = none -> x ≠ t1 ->
 sp (.ref x :: vs) (upd (upd H1 t1 (.tup vs)) x (exn x C t1 none)) (fun v H2 => v = .non /\ ∃ a1 dd, H2 x = some (exn x C a1 dd) /\ E (.ref C) dd (dropH H2 x)) E0
theorem ps_raiseO (hh : X.calm = true) (R : RaisesO X E) (hm : X.mg x = some (.ref C)) (ex : excInO X.K C bmV "ValueError.__new__" = true) (hi : findIn X.K (.ref C) "__init__" = some (some (.ref f))) (hf : typeIn X.K (.ref f) = some (.type "function")) (kp : keepIn X.K (.ref C) = true) (F : FnOk X.prog X.w X.K X.mg X.base CX0 k f fd ps sp) (hr : Room (k + 1) X.A) (hb : Binds X.K fd ps [])
  (hg : Gl X x) (ha : PA X (e :: es) t) (hd : (x == ("__debug__" : Str)) = false := by decide) (he : starEach (e :: es) X.env = (false, eval e X.env) :: starEach es X.env := by rfl) (hpl : (backTo cpos (starEach es X.env)).any (·.1) = false := by rfl) :
  PS X (.Raise (some (.Call (.Name x np) (e :: es) [] cpos)) none pos) (tRaiseO C sp E t) := by
 intro pins s σ H D I h
 obtain ⟨bm, N, nm, q', bs, hdct, sn, sub, ab, col, dd', k0, k1, k2, k3, k5, hC, T⟩ := own_ofO I.ok.mod.kin ex
 rw [arm_exec_Raise]
 refine wpAny_bind (wpAny_standAt (raise_exc (C := C) (nm := nm) (q := q') (N := N) (bs := bs) (bm := bm) (hdct := hdct) (sn := sn) (sub := sub) (ab := ab) (col := col) (dd := dd') (k0 := k0) (k1 := k1) (k2 := k2) (k3 := k3) (k5 := k5) (newId := "ValueError.__new__") (T.hasType PySem.F.excBase_ValueError.hasBase) (I.ok.hd hh) ?_))
 refine wpAny_bind (wpAny_mono (Q := fun v s₁ => ∃ e oe vs, v = Value.ref e /\ s₁.heap.get? C = some (excClassObj nm q' C N bs bm hdct sn sub ab col dd' k0 k1 k2 k3 k5 "ValueError.__new__") /\ s₁.heap.get? e = some oe /\ oe.cls = Value.ref C /\ oe.data = Data.fields vs /\ vs[1]? = some Value.none /\ X.xe (Value.ref e) s₁) (E := X.xe) ?_ (fun v s1 q => wpAny_bind (wpAny_standAt (wpAny_pure q))) fun _ _ z => z)
 refine wpAny_Call_Name_kw (ld_glob I hg hm ?_ hd)
 refine PySem.W.callWith_K (h₀ := X.base) I.ok.mod.kin kp (thn (ha cpos pins s σ H _ I h) fun us s1 ⟨vs, H1, I1, r, hz, q⟩ => ⟨I1.kIn, ?_⟩) he hpl
 obtain ⟨hp, g, dr, tk, os⟩ := s1
 have hbk := I1.bk
 have n1 : H1 hp.objs.size = none := I1.hok.fresh (Nat.le_refl _)
 have n2 : H1 (hp.objs.size + 1) = none := I1.hok.fresh (Nat.le_succ _)
 have ne : hp.objs.size + 1 ≠ hp.objs.size := Nat.succ_ne_self _
 have lus : us.length <= sizeLine := by rw [<- r.length]; exact hz
 have hq := q (hp.objs.size + 1) hp.objs.size n2 n1 ne
 have I2 := I1.laid (a := hp.objs.size) (o := .tup vs) (h' := hp.push (tupO us)) (t' := tk) (fun b u q => Heap.get?_push_of_some _ q) (Nat.le_refl _) ⟨hz, us, r, ⟨_, Heap.get?_push_size hp rfl, rfl, _, rfl⟩, _, Heap.get?_push_size hp rfl, rfl⟩
 have hget : ((hp.push (tupO us)).push (excO C hp.objs.size)).get? (hp.objs.size + 1) = some (excO C hp.objs.size) := Heap.get?_push_at (by rw [Heap.size_push]) rfl
 have I3 : Inv X pins σ (upd (upd H1 hp.objs.size (.tup vs)) (hp.objs.size + 1) (exn (hp.objs.size + 1) C hp.objs.size none)) ⟨(hp.push (tupO us)).push (excO C hp.objs.size), g, dr, tk, os⟩ := I2.laid (a := hp.objs.size + 1) (t' := tk) (fun b u q => Heap.get?_push_of_some _ q) (Nat.le_of_eq (Heap.size_push _ _)) (exn_ok hget rfl rfl rfl)
 have r2 : Vals (V.ref (hp.objs.size + 1) :: vs) (Value.ref (hp.objs.size + 1) :: us) := .cons rfl r
 have hl : (Value.ref (hp.objs.size + 1) :: us ++ []).length = ps.length := by
  have e := r2.length
  rw [F.len _ _ _ _ hq] at e
  rw [List.append_nil]
  exact e.symm
 refine wpAny_call (exc_make PySem.F.excBase_ValueError (T.keeps hbk) (hbk _ _ hC) I1.kIn hi hf lus (codeAny_mono (F.run _ X.stack _ _ ⟨Value.ref (hp.objs.size + 1) :: us, []⟩ (Value.ref (hp.objs.size + 1) :: us) _ _ E0 (hr.make C us []) (I3.env0.make C us []) (by
  have := hb _ (Value.ref (hp.objs.size + 1) :: us) I3.kIn hl
  rw [List.append_nil] at this
  exact this) r2 hq) fun rr s' hq' => ?_))
 cases rr with
 | error e => exact False.elim hq'
 | ok fl =>
  cases fl with
  | ret u =>
   obtain ⟨v, H', I4, rv, ev, a1, dd, hx, hE⟩ := I3.after hq'
   subst ev
   obtain ⟨oe, g1, g2, g3, g4⟩ := (I4.hok _ _ hx).1
   exact ⟨rv, hp.objs.size + 1, oe, _, rfl, I4.bk _ _ hC, g1, g2, g4, rfl, R pins σ _ _ _ C a1 dd I4 hx (Nat.le_succ_of_le I1.sz) hE⟩
  | next => exact False.elim hq'
  | brk => exact False.elim hq'
  | cont => exact False.elim hq'
end
end L2
set_option Elab.async false
set_option linter.all false
set_option maxRecDepth 100000
namespace L2
open PySem PySem.Spec PySem.Calls PyProof.Rows PySem.W
section
variable {X : Cx} {i : Nat} {x n : Str} {D C : Addr} {np hpos pos : Pos} {b₀ : Stmt} {suite body : List Stmt} {tb : XK -> TS} {ts : TS} {rest : List ExceptHandler}
def XE (X : Cx) (i : Nat) (C : Addr) (ts : TS) (R : Ends) : XK := fun cls dd H' => cls = .ref C /\ ∀ (σ : St) (a : Addr), σ.length = X.N.length -> H' a = none -> ts (R.gone i) (σ.set i (some (.ref a))) (upd H' a (exq a C dd))
def tTry2 (X : Cx) (i : Nat) (C : Addr) (tb : XK -> TS) (ts : TS) : TS := fun D σ H => tb (XE X i C ts D) D σ H
theorem caught_ok2 {pins : List (Addr × Obj)} {σ : St} {H : Hp} {s s' : Shared} {e : Value} {R : Ends} (hN : X.N.Nodup) (hi : X.N[i]? = some n) (hl : X.env.scope.names.lookup n = some .local) (hst : X.stack = X.env :: X.outer) (hfr : X.env.frame = some X.env.locals)
  (hg : Gl X x) (hm : X.mg x = some (.ref D)) (hx : PySem.W.exmOne X.K (.ref C) (.ref D) = some true) (hs : ∀ a, PSs (X.inX a).nox (b₀ :: suite) ts) (I : Inv X pins σ H s)
  (hc : CX2 X.prog X.w X.stack H s (XE X i C ts R) e s') (hd : (x == ("__debug__" : Str)) = false := by decide) :
  wpAny (model X.prog X.w) X.A (noteFrame e X.env) (fun _ s₂ => wpAny (model X.prog X.w) X.A (setFlight e none) (fun _ s₃ =>
   wpAny (model X.prog X.w) X.A (handleBy e X.env (.ExceptHandler (some (.Name x np)) (some n) (b₀ :: suite) hpos :: rest)) (SP X pins R) X.xe s₃) X.xe s₂) X.xe s' := by
 obtain ⟨a, cls, H', B, a0, dd, rfl, os, bare, un, hok, fl, i', rfl, hE⟩ := hc
 have fr := stk_free I un
 have ff := fl.2.2.1
 refine looks_landsD (base := B) (by rw [I.ok.frames, hst]) hfr (by rw [<- hst]; exact fl) fun h₅ fl5 up45 => ?_
 rw [<- hst] at fl5
 have un5 := flown_un un ff i' fl5.1 up45
 have hok5 := flown_hok hok fr i' fl5.1
 have in5 := flown_in hok un i' fl5.1
 have I5 : Inv X pins σ H' { s' with heap := h₅ } := I.call' (s' := { s' with heap := h₅ }) os un5 hok5 bare (fun b z => absurd z (by simp))
 have J5 := I5.inX a
 obtain ⟨oe, vs5, he5, hce, _⟩ := fl5.obj
 refine wpAny_handleBy_cons (codeAny_handlers_test (ld_glob (X := X.inX a) J5 hg hm ?_ hd)) (by intro q; cases q)
 refine (PySem.W.exm_one (K := X.K) J5.kIn (by subst_eqs; exact hce ▸ (PySem.W.Looks.ld he5).andThen .now) hx).at ?_
 refine codeAny_handlers_suite_as ?_
 refine lands_againD (base := B) (by exact fl5) fun h₆ fl6 up6 => ?_
 have ff5 := fl5.2.2.1
 have un6 := flown_un un5 ff5 in5 fl6.1 up6
 have hok6 := flown_hok hok5 fr in5 fl6.1
 have in6 := flown_in hok5 un5 in5 fl6.1
 have I6 : Inv X pins σ H' { s' with heap := h₆ } := I.call' (s' := { s' with heap := h₆ }) os un6 hok6 bare (fun b z => absurd z (by simp))
 obtain ⟨ox, vs, hx6, hcx, hdx, hddx⟩ := fl6.obj
 have nfr : a ∉ frs X.stack := fun hm => by
  obtain ⟨_, o, ho, d⟩ := fl6.2.2.1.mem hm
  have ho : h₆.get? a = some o := ho
  rw [hx6] at ho; cases ho
  exact d _ hdx
 have nB : B.get? a = none := fl6.2.1
 have nH : H' a = none := by
  cases q : H' a with
  | none => rfl
  | some u =>
   have z := in6 a ox hx6 nfr (.inl (by rw [q]; rfl))
   rw [nB] at z; cases z
 have nS : s.heap.get? a = none := by
  cases q : s.heap.get? a with
  | none => rfl
  | some u =>
   have z := in6 a ox hx6 nfr (.inr ⟨u, q⟩)
   rw [nB] at z; cases z
 have ntr : ∀ c, H' c ≠ none -> c ≠ a := fun c z q => z (q ▸ nH)
 have un7 : Un (frs X.stack) [] H (upd H' a (exq a C dd)) s.heap h₆ :=
  ⟨un6.keep, un6.slot, fun b o q m z => by
   rw [upd_ne (fun y => by rw [y, nS] at q; cases q)]
   exact un6.free b o q m z, un6.there, fun b xs q => by
   have := un6.tups b xs q
   rw [upd_ne (ntr b (by rw [this]; simp))]
   exact this, fun b o u q => by
   have := un6.frzs b o u q
   rw [upd_ne (ntr b (by rw [this]; simp))]
   exact this, fun b p q => by
   obtain ⟨more, this⟩ := un6.tbls b p q
   exact ⟨more, by rw [upd_ne (ntr b (by rw [this]; simp))]; exact this⟩⟩
 have hok7 : HOk X.prog X.w (upd H' a (exq a C dd)) h₆ := fun b u q => by
  by_cases hb : b = a
  ·subst hb
   rw [upd_same] at q; cases q
   exact exq_ok hx6 hcx hddx hdx
  ·rw [upd_ne hb] at q
   exact (hok6 b u q).stay (fun _ _ _ z => z) (fun c z => by rw [upd_ne (ntr c (by rw [z]; simp))]; exact z) fun c xs z => by rw [upd_ne (ntr c (by rw [z]; simp))]; exact z
 have I7 : Inv X pins σ (upd H' a (exq a C dd)) { s' with heap := h₆ } := I.call' (s' := { s' with heap := h₆ }) os un7 hok7 bare (fun b z => absurd z (by simp))
 refine store_ok (X := X.inX a) (v := .ref a) (I7.inX a) hN hi (.inl hl) rfl (fun s8 I8 => ?_) (.inr hl)
 refine wpAny_mono (hs a pins s8 _ _ _ (I8.wish _) (hE σ a I.len nH)) (fun f s9 q => ?_) fun _ _ z => False.elim z
 have q := q.unwish
 show wpAny _ _ _ _ _ _
 cases f with
 | next =>
  obtain ⟨σ', H9, I9, q⟩ := q
  exact goes_ok (X := X) (I9.outX I.ok) hN hi hl fun s10 I10 => ⟨_, _, I10, q⟩
 | brk =>
  obtain ⟨σ', H9, I9, q⟩ := q
  exact goes_ok (X := X) (I9.outX I.ok) hN hi hl fun s10 I10 => ⟨_, _, I10, q⟩
 | cont =>
  obtain ⟨σ', H9, I9, q⟩ := q
  exact goes_ok (X := X) (I9.outX I.ok) hN hi hl fun s10 I10 => ⟨_, _, I10, q⟩
 | ret u =>
  obtain ⟨v, σ', H9, I9, r, q⟩ := q
  exact goes_ok (X := X) (I9.outX I.ok) hN hi hl fun s10 I10 => ⟨v, _, _, I10, r, q⟩
abbrev Cx.atW (X : Cx) (W : Value -> Shared -> Prop) (pn : List (Addr × Obj)) : Cx := { X with xe := W, pn := pn }
theorem Cx.Ok.atW (ok : X.Ok) (W : Value -> Shared -> Prop) (pn : List (Addr × Obj)) : (X.atW W pn).Ok :=
 ⟨ok.mod, ok.kind, ok.glob, ok.blt, ok.above, ok.inj, ok.has, ok.cab, ok.hd, ok.frames, ok.stk, ok.exf, ok.bs, ok.bsz, ok.noex, ok.exfs, ok.funs, ok.frf⟩
theorem Inv.toAt {pins : List (Addr × Obj)} {σ : St} {H : Hp} {s : Shared} (I : Inv X pins σ H s) (W : Value -> Shared -> Prop) : Inv (X.atW W (X.pn ++ pins)) [] σ H s := ⟨I.ok.atW W _, I.os, I.bare, I.base, I.loc, I.cell, I.free, I.freeC, fun p hp => I.pin p (by simpa using hp), I.hok, I.len⟩
theorem Inv.ofAt {pins p2 : List (Addr × Obj)} {σ : St} {H : Hp} {s : Shared} {W : Value -> Shared -> Prop} (ok : X.Ok) (I : Inv (X.atW W (X.pn ++ pins)) p2 σ H s) : Inv X pins σ H s := ⟨ok, I.os, I.bare, I.base, I.loc, I.cell, I.free, I.freeC, fun p hp => I.pin p (List.mem_append_left _ hp), I.hok, I.len⟩
theorem ps_try2 (hN : X.N.Nodup) (hi : X.N[i]? = some n) (hl : X.env.scope.names.lookup n = some .local) (hst : X.stack = X.env :: X.outer) (hfr : X.env.frame = some X.env.locals)
  (hg : Gl X x) (hm : X.mg x = some (.ref D)) (hx : PySem.W.exmOne X.K (.ref C) (.ref D) = some true) (hb : ∀ (E : XK) (W : Value -> Shared -> Prop) (pn : List (Addr × Obj)), Passes (CX2 X.prog X.w) (X.atW W pn) E -> PSs (X.atW W pn) body (tb E)) (hs : ∀ a, PSs (X.inX a).nox (b₀ :: suite) ts) (hd : (x == ("__debug__" : Str)) = false := by decide) :
  PS X (.Try body [.ExceptHandler (some (.Name x np)) (some n) (b₀ :: suite) hpos] [] [] pos) (tTry2 X i C tb ts) := by
 intro pins s σ H R I h
 have hb' := hb (XE X i C ts R) (fun e s' => ∃ σ H s, Inv X pins σ H s /\ CX2 X.prog X.w X.stack H s (XE X i C ts R) e s') (X.pn ++ pins) (fun p2 σ2 H2 s2 e s' I2 hc => ⟨σ2, H2, s2, I2.ofAt I.ok, hc⟩)
 refine wpAny_Try_except (wpAny_mono (hb' [] s σ H R (I.toAt _) h) (fun f s1 q => ?_) fun e s1 ⟨σ', H', s0, I0, hc⟩ => caught_ok2 hN hi hl hst hfr hg hm hx hs I0 hc hd)
 cases f with
 | next =>
  obtain ⟨σ', H', I', q⟩ := q
  exact wpAny_execs_nil ⟨σ', H', I'.ofAt I.ok, q⟩
 | ret v =>
  obtain ⟨v', σ', H', I', r, q⟩ := q
  exact ⟨v', σ', H', I'.ofAt I.ok, r, q⟩
 | brk =>
  obtain ⟨σ', H', I', q⟩ := q
  exact ⟨σ', H', I'.ofAt I.ok, q⟩
 | cont =>
  obtain ⟨σ', H', I', q⟩ := q
  exact ⟨σ', H', I'.ofAt I.ok, q⟩
end
end L2
set_option Elab.async false
set_option linter.all false
set_option maxRecDepth 100000
namespace L2
open PySem
theorem comp_tup {K : PySem.W.Frag} {a : Addr} {xs : List V} {g : TG} {tc : TT} {te : TE} {own : Nat} {fv : List (Option V)} {dec : V -> Hp -> List (Option V) -> Prop} {D : Addr} {H : Hp} {Q : VK} {σ0 : St} (hσ : σ0 = List.replicate own none ++ fv) (G : GOk g own fv dec) (Pv : Nat -> List V -> Hp -> Prop)
  (h0 : Pv 0 [] (upd H D (.lst []))) (hl : ∀ i out H', i <= xs.length -> Pv i out H' -> SqT K H' a xs) (hd : ∀ out H', Pv xs.length out H' -> Q (.ref D) H')
  (hgo : ∀ i x out H', xs[i]? = some x -> Pv i out H' -> ∃ o3, dec x H' o3 /\ o3.length = own /\ ∀ Nx : Hp -> Prop, (∀ out' H2, Pv (i + 1) out' H2 -> Nx H2) ->
   tc (o3 ++ fv) H' fun b H4 => if b = true then te (o3 ++ fv) H4 fun y H5 => ∃ out2, H5 D = some (.lst out2) /\ out2.length < sizeLine /\ Nx (upd H5 D (.lst (out2 ++ [y]))) else Nx H4) :
  CompW (Itt K a) g tc te σ0 D H Q := by
 refine comp_it hσ G xs.length Pv h0 (fun out H' p => ⟨⟨xs, hl _ _ _ (Nat.le_refl _) p, Nat.le_refl _⟩, hd out H' p⟩) fun i out H' hi p => ?_
 have q := hl i out H' (Nat.le_of_lt hi) p
 refine ⟨⟨xs, xs[i], q, by simp [hi]⟩, fun x H2 y => ?_⟩
 obtain ⟨e, y⟩ := y
 subst e
 exact hgo i x out _ (y xs q) p
end L2
namespace Ev
open PySem L2
abbrev Mv := Str × Str × Str
def kM (m : Mv) : List Key := [.inr m.1, .inr m.2.1, .inr m.2.2]
def put (f : Str -> Str) (m : Mv) : Str -> Str := fun n => if n = m.1 then m.2.2 else f n
def wayOf (ps : List Pc) (n : Str) : Option (List (Str × Str)) := ((ps.find? fun p => decide (p.1 = n)).map (·.2.2)).getD none
theorem wayOf_eq {ps : List Pc} (nd : (ps.map (·.1)).Nodup) {p : Pc} (hp : p ∈ ps) : wayOf ps p.1 = p.2.2 := by
 unfold wayOf
 cases q : ps.find? fun x => decide (x.1 = p.1) with
 | none =>
  have := List.find?_eq_none.mp q p hp
  simp at this
 | some y =>
  have m := List.mem_of_find?_eq_some q
  have e : y.1 = p.1 := by simpa using List.find?_some q
  have : y = p := inj_names nd m hp e
  subst this
  rfl
def rsn (ts : List (Str × Str)) (o : Option (List (Str × Str))) (a b : Str) : Option Str := if tieB ts a b = false then some "tie" else match o with
 | none => none
 | some ws => if tieB ws a b = false then some "ways" else none
structure MvOk (hs : List (Str × Int)) (ps : List Pc) (m : Mv) : Prop where
 n : m.1 ∈ ps.map (·.1)
 a : m.2.1 ∈ hs.map (·.1)
 b : m.2.2 ∈ hs.map (·.1)
theorem put_mKV {ns : List Str} {f : Str -> Str} {m : Mv} (h : m.1 ∈ ns) : putK (stF ns f) (Sum.inr m.1) (.str m.2.2) = stF ns (put f m) := by
 rw [mKV_put h]
 refine mKV_congr fun n _ => ?_
 unfold put
 by_cases z : n = m.1
 ·simp [z]
 ·simp [z]
def oV : Option Str -> V
 | none => .non
 | some x => .str x
structure Sure (hs : List (Str × Int)) (ts : List (Str × Str)) (ps qs : List Pc) : Prop where
 Gd : Good hs ts
 gp : ∀ q ∈ ps, GoodP ts q
 nd : (ps.map (·.1)).Nodup
 h30 : ps.length <= 30
 Q : Qs ps qs
theorem rsn_due {ts : List (Str × Str)} {o : Option (List (Str × Str))} {a b : Str} : rsn ts o a b = if tieB ts a b = false then some ("tie" : Str) else if dueB ts o a b = false then some ("ways" : Str) else (none : Option Str) := by
 unfold rsn dueB
 cases tieB ts a b with
 | false => rfl
 | true =>
  cases o with
  | none => rfl
  | some ws => rfl
def flt (ts : List (Str × Str)) (ps : List Pc) (f : Str -> Str) (m : Mv) : Option Str := if f m.1 = m.2.1 then rsn ts (wayOf ps m.1) m.2.1 m.2.2 else some "place"
def Gd (ts : List (Str × Str)) (ps : List Pc) : (Str -> Str) -> List Mv -> Prop
 | _, [] => True
 | f, m :: ms => flt ts ps f m = none /\ Gd ts ps (put f m) ms
def fin (f : Str -> Str) (ms : List Mv) : Str -> Str := ms.foldl put f
section
variable {ts : List (Str × Str)} {ps : List Pc}
end
def isS : V -> Bool
 | .str _ => true
 | _ => false
def flat3 : V -> Bool
 | .str _ => true
 | .int _ => true
 | .non => true
 | _ => false
def ThAt (H : Hp) (v : V) : Option Mv -> Prop
 | some m => ∃ a, v = .ref a /\ H a = some (.tup [.str m.1, .str m.2.1, .str m.2.2])
 | none => v = .non ∨ (∃ n, v = .int n) ∨ (∃ x, v = .str x) ∨ (∃ a xs, v = .ref a /\ H a = some (.lst xs)) ∨ ∃ a xs, v = .ref a /\ H a = some (.tup xs) /\ ((xs.length : Int) ≠ 3 ∨ (xs.length = 3 /\ (∀ x ∈ xs, flat3 x = true) /\ xs.all isS = false))
theorem ThAt.same {H H' : Hp} {v : V} {t : Option Mv} (h : ThAt H v t) (s : Same H H') : ThAt H' v t := by
 cases t with
 | some m =>
  obtain ⟨a, e, h⟩ := h
  exact ⟨a, e, s _ _ h⟩
 | none =>
  rcases h with h | h | h | ⟨a, xs, e, h⟩ | ⟨a, xs, e, h, k⟩
  ·exact .inl h
  ·exact .inr (.inl h)
  ·exact .inr (.inr (.inl h))
  ·exact .inr (.inr (.inr (.inl ⟨a, xs, e, s _ _ h⟩)))
  ·exact .inr (.inr (.inr (.inr ⟨a, xs, e, s _ _ h, k⟩)))
def pcOf (qs : List Pc) (n : Str) : Option Pc := qs.find? fun q => decide (q.1 = n)
def fltG (hs : List (Str × Int)) (ts : List (Str × Str)) (qs : List Pc) (f : Str -> Str) : Option Mv -> Option Str
 | none => some "form"
 | some m => match pcOf qs m.1 with
  | none => some "piece"
  | some q => if f m.1 = m.2.1 then (if tiedB hs ts (some m.2.1) (some m.2.2) = false then some "tie" else if goB hs ts q.2.2 (some m.2.1) (some m.2.2) = false then some "ways" else none) else some "place"
def putO (f : Str -> Str) : Option Mv -> (Str -> Str)
 | none => f
 | some m => put f m
def jgG (hs : List (Str × Int)) (ts : List (Str × Str)) (qs : List Pc) : Nat -> (Str -> Str) -> List (Option Mv) -> (Nat × Str) ⊕ (Str -> Str)
 | _, f, [] => .inr f
 | k, f, m :: ms => match fltG hs ts qs f m with
  | some r => .inl (k, r)
  | none => jgG hs ts qs (k + 1) (putO f m) ms
theorem jgG_drop {hs : List (Str × Int)} {ts : List (Str × Str)} {qs : List Pc} {ms : List (Option Mv)} {i : Nat} {m : Option Mv} {f : Str -> Str} (h : ms[i]? = some m) : jgG hs ts qs i f (ms.drop i) = match fltG hs ts qs f m with
  | some r => .inl (i, r)
  | none => jgG hs ts qs (i + 1) (putO f m) (ms.drop (i + 1)) := by
 have hi := (List.getElem?_eq_some_iff.mp h).1
 have e : ms[i] = m := (List.getElem?_eq_some_iff.mp h).2
 rw [List.drop_eq_getElem_cons hi, e]
 rfl
theorem pcOf_some {qs : List Pc} {n : Str} {q : Pc} (h : pcOf qs n = some q) : q ∈ qs /\ q.1 = n := ⟨List.mem_of_find?_eq_some h, by simpa using List.find?_some h⟩
theorem pcOf_none {qs : List Pc} {n : Str} (h : pcOf qs n = none) : n ∉ qs.map (·.1) := fun m => by
 obtain ⟨q, hq, e⟩ := List.mem_map.mp m
 have := List.find?_eq_none.mp h q hq
 simp [e] at this
theorem pcOf_eq {ps qs : List Pc} (Q : Qs ps qs) (nd : (ps.map (·.1)).Nodup) {p : Pc} (hp : p ∈ ps) : pcOf qs p.1 = some (nrm p) := by
 have hq := Q.has nd hp
 cases e : pcOf qs p.1 with
 | none => exact absurd (List.mem_map.mpr ⟨_, hq, rfl⟩) (pcOf_none e)
 | some q =>
  obtain ⟨h1, h2⟩ := pcOf_some e
  rw [inj_names (Q.nd nd) h1 hq h2]
section
variable {P : Program} {w : World} {K : PySem.W.Frag} {mg : Str -> Option Value} {base : Heap}
theorem scThree : FnScope ["thing"] ["thing"] (defScope sThree) := ⟨rfl, rfl, rfl, by decide +kernel, rfl, by decide +kernel, by decide +kernel⟩
def spThree : Sp := fun vs H Q _ => ∃ (v : V) (t : Option Mv), vs = [v] /\ ThAt H v t /\ ∀ H', Same H H' -> Q (.bl t.isSome) H'
theorem ok_three {f : Addr} {fd : FuncData} (F : Fun K "is_of_three_texts" "is_of_three_texts" sThree f fd) (B : Bi mg) : FnOk P w K mg base CX0 1 f fd ["thing"] spThree := by
 refine F.ok scThree (fun vs H Q E h => ?_) (fun cdv A outer s H vs Q E hr h => ?_)
 ·obtain ⟨v, t, rfl, _⟩ := h
  rfl
 ·obtain ⟨v, t, rfl, th, k⟩ := h
  have sz := sizeLine_eq
  refine' ⟨_, ?r0, ?kk⟩
  case' r0 => refine' pss_cons ?s1 (pss_one ?s2)
  case s1 => exact ps_if (pw_or (pt_not (pt_val (pe_callB call_isi (by rfl) B.isi PyProof.Rows.Boot.«isinstance» (pa_cons (pv 0) (pa_cons (pe_bltn (v := .ty "tuple") (by rfl) B.tuple PyProof.Rows.Boot.«tuple» rfl) pa_nil)))))
    (pw_or1 (pt_cmpR op_ne (pe_callB call_len_seq (by rfl) B.len PySem.boot_len (pa_cons (pv 0) pa_nil)) pe_int (nomark _)))).pt (pss_one (ps_ret pe_bl)) pss_nil
  case s2 => exact ps_ret (pe_callB (call_all rfl) (by rfl) B.all PyProof.Rows.Boot.«all» (pa_cons (pe_comp ["word"] 1 [] (pi_tup (pv 0)) (fun fp s H => pg_name (i := 0) (show (["word"] : List Str).Nodup by decide +kernel) rfl (Or.inl rfl)) (fun fp s H => pts_nil) (fun fp s H => pe_callB (callK (K := K) rIsi call_isi) (by rfl) B.isi PyProof.Rows.Boot.«isinstance» (pa_cons (pv 0) (pa_cons (pe_bltn (v := .ty "str") (by rfl) B.str PyProof.Rows.Boot.«str» rfl) pa_nil)))) pa_nil))
  case' kk => skip
  have tri : (∃ (p : Addr) (xs : List V), v = .ref p /\ H p = some (.tup xs) /\ xs.length = 3 /\ (∀ x ∈ xs, flat3 x = true) /\ t.isSome = xs.all isS) ∨ (∃ (p : Addr) (xs : List V), v = .ref p /\ H p = some (.tup xs) /\ (xs.length : Int) ≠ 3 /\ t.isSome = false) ∨ ∃ ty, TyOf K H v ty /\ PySem.W.kitOne K ty (.type "tuple") = some false /\ t.isSome = false := by
   cases t with
   | some m =>
    obtain ⟨a, e, h⟩ := th
    exact .inl ⟨a, _, e, h, rfl, fun x hx => by simp at hx; rcases hx with rfl | rfl | rfl <;> rfl, rfl⟩
   | none =>
    rcases th with rfl | ⟨n, rfl⟩ | ⟨x, rfl⟩ | ⟨a, xs, rfl, h⟩ | ⟨a, xs, e, h, h3 | ⟨h3, fl, ns⟩⟩
    ·exact .inr (.inr ⟨_, .non, rfl, rfl⟩)
    ·exact .inr (.inr ⟨_, .int n, rfl, rfl⟩)
    ·exact .inr (.inr ⟨_, .str x, rfl, rfl⟩)
    ·exact .inr (.inr ⟨_, .lst h, rfl, rfl⟩)
    ·exact .inr (.inl ⟨a, xs, e, h, h3, rfl⟩)
    ·exact .inl ⟨a, xs, e, h, h3, fl, ns.symm⟩
  rcases tri with ⟨p, xs, rfl, hp, h3, fl, et⟩ | ⟨p, xs, rfl, hp, h3, et⟩ | ⟨ty, tv, ek, et⟩
  ·rw [et] at k
   refine ⟨_, rfl, _, _, _, _, rfl, .tup hp, rfl, _, rfl, iteF ?_⟩
   refine ⟨_, rfl, p, _, rfl, .inr (.of hp), rfl, _, rfl, ?_⟩
   refine iteNS (show V.int (xs.length : Int) = V.int 3 by rw [h3]; rfl) ?_
   refine ⟨_, rfl, p, rfl, ⟨_, .of hp⟩, fun D hD => ?_⟩
   refine comp_tup (own := 1) (fv := []) (xs := xs) rfl gok1 (fun i out H' => Same H H' /\ H' D = some (.lst (((xs.take i).map isS).map V.bl))) ⟨Same.new hD, upd_same⟩ (fun i out H' _ ⟨sm, _⟩ => .of (sm _ _ hp)) (fun out H5 ⟨sm, hD5⟩ => ?_) (fun i y out H' hy ⟨sm, hD'⟩ => ?_)
   ·rw [List.take_length] at hD5
    refine ⟨D, _, rfl, .of hD5, ?_⟩
    have e : (xs.map isS).all id = xs.all isS := by rw [List.all_map]; rfl
    show Q (.bl ((xs.map isS).all id)) H5
    rw [e]
    exact k _ sm
   ·have hi : i < xs.length := (List.getElem?_eq_some_iff.mp hy).1
    have fy := fl y (List.mem_of_getElem? hy)
    refine ⟨_, rfl, rfl, fun Nx hN => yesT ?_⟩
    have fin : ∀ (b : Bool), isS y = b -> ∃ out2, H' D = some (.lst out2) /\ out2.length < sizeLine /\ Nx (upd H' D (.lst (out2 ++ [V.bl b]))) := fun b eb => by
     refine ⟨_, hD', by rw [List.length_map, List.length_map, List.length_take]; omega, hN [] _ ⟨same_but sm hD, ?_⟩⟩
     rw [upd_same, List.take_add_one, hy, List.map_append, List.map_append]
     show _ = some (HO.lst (_ ++ [V.bl (isS y)]))
     rw [eb]
    cases y with
    | str x => exact ⟨_, rfl, _, _, _, _, rfl, .str x, rfl, fin true rfl⟩
    | int n => exact ⟨_, rfl, _, _, _, _, rfl, .int n, rfl, fin false rfl⟩
    | non => exact ⟨_, rfl, _, _, _, _, rfl, .non, rfl, fin false rfl⟩
    | _ => cases fy
  ·rw [et] at k
   refine ⟨_, rfl, _, _, _, _, rfl, .tup hp, rfl, _, rfl, iteF ?_⟩
   refine ⟨_, rfl, p, _, rfl, .inr (.of hp), rfl, _, rfl, ?_⟩
   have : decide (V.int (xs.length : Int) = V.int 3) = false := decide_eq_false fun z => h3 (V.int.inj z)
   rw [this]
   exact iteT (k H (Same.refl H))
  ·rw [et] at k
   exact ⟨_, rfl, _, _, _, _, rfl, tv, ek, _, rfl, iteT (iteT (k H (Same.refl H)))⟩
theorem scFault : FnScope ["goods", "placed", "move"] ["goods", "placed", "move"] (defScope sFault) := ⟨rfl, rfl, rfl, by decide +kernel, rfl, by decide +kernel, by decide +kernel⟩
def spFault (K : PySem.W.Frag) (CG CW : Addr) : Sp := fun vs H Q _ => ∃ (g p d : Addr) (v : V) (hs : List (Str × Int)) (ts : List (Str × Str)) (ps qs : List Pc) (fp : List Addr) (f : Str -> Str) (t : Option Mv), vs = [.ref g, .ref d, v] /\ GoodsAt K CG CW H g p hs ts qs fp /\ Sure hs ts ps qs /\ H d = some (.dK (stF (qs.map (·.1)) f)) /\ ThAt H v t /\
 ∀ H', Same H H' -> Q (oV (fltG hs ts qs f t)) H'
theorem ok_fault {f CG CW CP : Addr} {fd : FuncData} (F : Fun K "fault_of" "fault_of" sFault f fd) (T : TxtG K CG) (TW : Txt K mg CW) (c3 : Cal P w K mg base 1 "is_of_three_texts" ["thing"] spThree) (cH : CalM P w K mg base CG 1 "has_piece" ["self", "thing"] (spGHas K CG CW)) (cT : CalM P w K mg base CW 2 "are_tied" ["self", "one", "other"] (spTiedA K CW)) (cM : CalX P w K mg base CG 3 "may_go" ["self", "piece", "one", "other"] (spGMay K CG CW CP)) :
  FnOk P w K mg base CX0 4 f fd ["goods", "placed", "move"] (spFault K CG CW) := by
 refine F.ok scFault (fun vs H Q E h => ?_) (fun cdv A outer s H vs Q E hr h => ?_)
 ·obtain ⟨g, p, d, v, hs, ts, ps, qs, fp, f, t, rfl, _⟩ := h
  rfl
 ·obtain ⟨g, p, d, v, hs, ts, ps, qs, fp, f, t, rfl, G, S, hd, th, k⟩ := h
  have hu := hu_of hr
  have hr1 : Room 1 _ := hr.mono (by decide)
  have hr2 : Room 2 _ := hr.mono (by decide)
  refine' ⟨_, ?r0, ?kk⟩
  case' r0 => refine' pss_cons ?s1 ?r1
  case s1 => exact ps_if (pt_not (pt_val (pe_fn c3 hr1 (pa_cons (pv 2) pa_nil)))) (pss_one (ps_ret pe_str)) pss_nil
  case' r1 => refine' pss_cons ?s2 ?r2
  case s2 => exact ps_if (pt_not (pt_val (pe_mt cH T.cl hr1 (pv 0) (pa_cons (pe_ix ix_tup (pv 2) pe_int (fun _ _ => rfl)) pa_nil)))) (pss_one (ps_ret pe_str)) pss_nil
  case' r2 => refine' pss_cons ?s3 ?r3
  case s3 => exact ps_if (pt_cmpR op_ne (pe_dget hu (pv 1) (pe_ix ix_tup (pv 2) pe_int (fun _ _ => rfl)) (fun _ _ => rfl)) (pe_ix ix_tup (pv 2) pe_int (fun _ _ => rfl)) (nomark _)) (pss_one (ps_ret pe_str)) pss_nil
  case' r3 => refine' pss_cons ?s4 ?r4
  case s4 => exact ps_if (pt_not (pt_val (pe_mt cT TW.cl hr2 (pe_fld (pv 0) rfl) (pa_cons (pe_ix ix_tup (pv 2) pe_int (fun _ _ => rfl)) (pa_cons (pe_ix ix_tup (pv 2) pe_int (fun _ _ => rfl)) pa_nil))))) (pss_one (ps_ret pe_str)) pss_nil
  case' r4 => refine' pss_cons ?s5 (pss_one ?s6)
  case s5 => exact ps_if (pt_not (pt_val (pe_mx cM T.cl hr (pv 0) (pa_cons (pe_ix ix_tup (pv 2) pe_int (fun _ _ => rfl)) (pa_cons (pe_ix ix_tup (pv 2) pe_int (fun _ _ => rfl)) (pa_cons (pe_ix ix_tup (pv 2) pe_int (fun _ _ => rfl)) pa_nil)))))) (pss_one (ps_ret pe_str)) pss_nil
  case s6 => exact ps_ret pe_non
  case' kk => skip
  cases t with
  | none => exact ⟨_, rfl, v, none, rfl, th, fun H1 s1 => ⟨_, rfl, iteT (k H1 s1)⟩⟩
  | some m =>
  refine ⟨_, rfl, v, some m, rfl, th, fun H1 s1 => ⟨_, rfl, iteF ?_⟩⟩
  obtain ⟨t, rfl, ht⟩ := th
  have G1 := G.same s1
  have hd1 := s1 _ _ hd
  have ht1 := s1 _ _ ht
  clear G ht hd
  obtain ⟨dx, dw, dy, vs, fpw, h1, h2, h3, h4, h5, m1, m2, m3, m4, m5⟩ := id G1.ex
  obtain ⟨dxw, d1, l2, d3, zs0, as, ef, w1, _⟩ := id h2.ex
  have hno : (gflds p dw dy).lookup ("has_piece" : Str) = none := gflds_no _ _ _ (by decide +kernel) (by decide +kernel) (by decide +kernel)
  have hno2 : (gflds p dw dy).lookup ("may_go" : Str) = none := gflds_no _ _ _ (by decide +kernel) (by decide +kernel) (by decide +kernel)
  have hnw : (flds d1 l2 d3).lookup ("are_tied" : Str) = none := flds_no _ _ _ (by decide +kernel) (by decide +kernel) (by decide +kernel)
  have nnd : (nmsOf hs).Nodup := (nms_perm hs).nodup_iff.mpr S.Gd.hnd
  refine ⟨_, rfl, g, dx, _, rfl, h1, hno, _, rfl, t, _, 0, _, rfl, rfl, .of ht1, rfl, g, p, .str m.1, some m.1, hs, ts, qs, fp, rfl, G1, rfl, _, rfl, ?_⟩
  have k : ∀ H', Same H H' -> Q (oV (match pcOf qs m.1 with
   | none => some ("piece" : Str)
   | some q => if f m.1 = m.2.1 then (if tiedB hs ts (some m.2.1) (some m.2.2) = false then some ("tie" : Str) else if goB hs ts q.2.2 (some m.2.1) (some m.2.2) = false then some ("ways" : Str) else none) else some ("place" : Str))) H' := k
  cases pq : pcOf qs m.1 with
  | none =>
   rw [pq] at k
   rw [show inB (qs.map (·.1)) (some m.1) = false from decide_eq_false (pcOf_none pq)]
   exact iteT (k H1 s1)
  | some q =>
  rw [pq] at k
  obtain ⟨hq, eq⟩ := pcOf_some pq
  have mq : m.1 ∈ qs.map (·.1) := List.mem_map.mpr ⟨q, hq, eq⟩
  rw [show inB (qs.map (·.1)) (some m.1) = true from decide_eq_true mq]
  refine iteF ?_
  refine ⟨_, rfl, _, rfl, t, _, 0, _, rfl, rfl, .of ht1, rfl, d, .str (f m.1), rfl, ?_, _, rfl, t, _, 1, _, rfl, rfl, .of ht1, rfl, rfl, _, rfl, ?_⟩
  ·rw [<- mKV_get (g := fun n => V.str (f n)) mq]
   exact .k (k := Sum.inr m.1) hd1
  have e : decide (V.str (f m.1) = V.str m.2.1) = decide (f m.1 = m.2.1) := by
   by_cases z : f m.1 = m.2.1
   ·simp [z]
   ·simp [z]
  rw [e]
  by_cases z : f m.1 = m.2.1
  ·rw [decide_eq_true z]
   refine iteF ?_
   dsimp only at k
   rw [if_pos z] at k
   refine ⟨_, rfl, g, CG, dx, _, _, rfl, h1, T.cl, T.nW, gflds_w _ _ _, p, dxw, _, rfl, w1, hnw, _, rfl, t, _, 1, _, rfl, rfl, .of ht1, rfl, _, rfl, t, _, 2, _, rfl, rfl, .of ht1, rfl, p, .str m.2.1, .str m.2.2, some m.2.1, some m.2.2, hs, ts, fpw, rfl, h2, nnd, rfl, rfl, _, rfl, ?_⟩
   cases tb : tiedB hs ts (some m.2.1) (some m.2.2) with
   | false =>
    rw [tb] at k
    exact iteT (k H1 s1)
   | true =>
    rw [tb] at k
    refine iteF ?_
    refine ⟨_, rfl, g, dx, _, rfl, h1, hno2, _, rfl, t, _, 0, _, rfl, rfl, .of ht1, rfl, _, rfl, t, _, 1, _, rfl, rfl, .of ht1, rfl, _, rfl, t, _, 2, _, rfl, rfl, .of ht1, rfl, g, p, .str m.1, .str m.2.1, .str m.2.2, some m.1, some m.2.1, some m.2.2, hs, ts, qs, fp, rfl, G1, S.Q.nd S.nd, nnd, rfl, .inl ⟨q, hq, by rw [eq], rfl, rfl, fun H2 s2 => ⟨_, rfl, ?_⟩⟩⟩
    cases db : goB hs ts q.2.2 (some m.2.1) (some m.2.2) with
    | false =>
     rw [db] at k
     exact iteT (k H2 (s1.trans s2))
    | true =>
     rw [db] at k
     exact iteF (k H2 (s1.trans s2))
  ·rw [decide_eq_false z]
   refine iteT ?_
   dsimp only at k
   rw [if_neg z] at k
   exact k H1 s1
end
end Ev
set_option Elab.async false
set_option linter.all false
set_option maxRecDepth 100000
namespace Ev
open PySem L2
theorem paired_at {α β : Type} {F : α -> β -> Prop} {ys : List α} {ts : List β} (t : Paired F ys ts) {i : Nat} {y : α} (h : ys[i]? = some y) : ∃ x, ts[i]? = some x /\ F y x := by
 have t2 : Paired F ys (ts.map id) := by rw [List.map_id]; exact t
 obtain ⟨x, e, q⟩ := paired_map (g := id) t2 h
 exact ⟨x, e, q⟩
theorem ThAt.butD {H H' : Hp} {d : Addr} {kvs : List (Key × V)} {v : V} {t : Option Mv} (h : ThAt H v t) (b : But d H H') (hd : H d = some (.dK kvs)) : ThAt H' v t := by
 cases t with
 | some m =>
  obtain ⟨a, e, h⟩ := h
  exact ⟨a, e, b _ _ h (ne_of h hd (by intro z; cases z))⟩
 | none =>
  rcases h with h | h | h | ⟨a, xs, e, h⟩ | ⟨a, xs, e, h, k⟩
  ·exact .inl h
  ·exact .inr (.inl h)
  ·exact .inr (.inr (.inl h))
  ·exact .inr (.inr (.inr (.inl ⟨a, xs, e, b _ _ h (ne_of h hd (by intro z; cases z))⟩)))
  ·exact .inr (.inr (.inr (.inr ⟨a, xs, e, b _ _ h (ne_of h hd (by intro z; cases z)), k⟩)))
structure CalF (P : Program) (w : World) (K : PySem.W.Frag) (mg : Str -> Option Value) (base : Heap) (k : Nat) (x : Str) (ps : List Str) (sp : Sp) : Prop where
 ex : ∃ f fd, FnOk P w K mg base (CX1 P w) k f fd ps sp /\ mg x = some (.ref f) /\ PySem.W.keepIn K (.ref f) = true /\ Binds K fd ps []
def AnsAt (H H' : Hp) (ns : List Str) (t : Addr) : (Nat × Str) ⊕ (Str -> Str) -> Prop
 | .inl (k, r) => H' t = some (.tup [.str "bad", .int k, .str r])
 | .inr f => ∃ d, H d = none /\ H' t = some (.tup [.str "good", .ref d]) /\ H' d = some (.dK (stF ns f))
structure Std (K : PySem.W.Frag) (CG CW : Addr) (H : Hp) (g p d : Addr) (hs : List (Str × Int)) (ts : List (Str × Str)) (ps qs : List Pc) (fp : List Addr) (ns : List Str) (f : Str -> Str) : Prop where
 G : GoodsAt K CG CW H g p hs ts qs fp
 S : Sure hs ts ps qs
 dn : d ∉ fp
 hd : H d = some (.dK (stF ns f))
 so : StandOk hs qs ns f
 has : ∀ b ∈ fp, ∃ o, H b = some o
structure RowG (H : Hp) (lm : Addr) (ys : List V) (ms : List (Option Mv)) : Prop where
 hl : H lm = some (.lst ys)
 tu : Paired (ThAt H) ys ms
section
variable {P : Program} {w : World} {K : PySem.W.Frag} {mg : Str -> Option Value} {base : Heap}
theorem scBad : FnScope ["k", "reason"] ["k", "reason"] (defScope sBad) := ⟨rfl, rfl, rfl, by decide +kernel, rfl, by decide +kernel, by decide +kernel⟩
def spBad : Sp := fun vs H Q _ => ∃ (k : Int) (r : Str), vs = [.int k, .str r] /\ ∀ t, H t = none -> Q (.ref t) (upd H t (.tup [.str "bad", .int k, .str r]))
theorem ok_bad {f : Addr} {fd : FuncData} (F : Fun K "bad" "bad" sBad f fd) : FnOk P w K mg base CX0 1 f fd ["k", "reason"] spBad := by
 refine F.ok scBad (fun vs H Q E h => ?_) (fun cdv A outer s H vs Q E hr h => ?_)
 ·obtain ⟨k, r, rfl, _⟩ := h
  rfl
 ·obtain ⟨k, r, rfl, q⟩ := h
  refine ⟨_, pss_one (ps_ret (pe_tup (pa_cons pe_str (pa_cons (pv 0) (pa_cons (pv 1) pa_nil))))), ?_⟩
  exact ⟨_, rfl, _, rfl, by show 3 <= sizeLine; decide, q⟩
theorem scJudged : FnScope ["goods", "stand", "moves", "placed", "k", "move", "reason"] ["goods", "stand", "moves"] (defScope sJudged) := ⟨rfl, rfl, rfl, by decide +kernel, rfl, by decide +kernel, by decide +kernel⟩
def spJudged (K : PySem.W.Frag) (CG CW : Addr) : Sp := fun vs H Q _ => ∃ (g p d lm : Addr) (hs : List (Str × Int)) (ts : List (Str × Str)) (ps qs : List Pc) (fp : List Addr) (ns : List Str) (f : Str -> Str) (ys : List V) (ms : List (Option Mv)), vs = [.ref g, .ref d, .ref lm] /\ Std K CG CW H g p d hs ts ps qs fp ns f /\ RowG H lm ys ms /\
 ∀ t H', Same H H' -> H t = none -> AnsAt H H' (qs.map (·.1)) t (jgG hs ts qs 0 f ms) -> Q (.ref t) H'
theorem ok_judged {f CG CW : Addr} {fd : FuncData} (F : Fun K "judged" "judged" sJudged f fd) (B : Bi mg) (mEn : mg "enumerate" = none) (cS : Cal P w K mg base 2 "checked_stand" ["goods", "stand"] (spCStand K CG CW)) (cF : Cal P w K mg base 4 "fault_of" ["goods", "placed", "move"] (spFault K CG CW)) (cB : Cal P w K mg base 1 "bad" ["k", "reason"] spBad) :
  FnOk P w K mg base CX0 5 f fd ["goods", "stand", "moves"] (spJudged K CG CW) := by
 refine F.ok scJudged (fun vs H Q E h => ?_) (fun cdv A outer s H vs Q E hr h => ?_)
 ·obtain ⟨g, p, d, lm, hs, ts, ps, qs, fp, ns, f, ys, ms, rfl, _⟩ := h
  rfl
 ·obtain ⟨g, p, d, lm, hs, ts, ps, qs, fp, ns, f, ys, ms, rfl, D0, R0, k⟩ := h
  have hu := hu_of hr
  have sz := sizeLine_eq
  have hr1 : Room 1 _ := hr.mono (by decide)
  have hr2 : Room 2 _ := hr.mono (by decide)
  refine' ⟨_, ?r0, ?kk⟩
  case' r0 => refine' pss_cons ?s1 ?r1
  case s1 => exact ps_set (i := 3) scJudged.nd rfl (Or.inl rfl) (pe_fn cS hr2 (pa_cons (pv 0) (pa_cons (pv 1) pa_nil)))
  case' r1 => refine' pss_cons ?s2 ?r2
  case s2 => exact ps_if (pt_not (pt_val (pe_callB call_isi (by rfl) B.isi PyProof.Rows.Boot.«isinstance» (pa_cons (pv 2) (pa_cons (pe_bltn (v := .ty "list") (by rfl) B.list PyProof.Rows.Boot.«list» rfl) pa_nil))))) pss_never pss_nil
  case' r2 => refine' pss_cons ?s3 (pss_one ?s4)
  case' s3 => refine' ps_for PassesOwn.never rfl (pi_enum (by rfl) mEn (pa_cons (pv 2) pa_nil)) ?g3 ?b3
  case g3 => exact pg_tup rfl (pgs_cons (pg_name (i := 4) scJudged.nd rfl (Or.inl rfl)) (pgs_cons (pg_name (i := 5) scJudged.nd rfl (Or.inl rfl)) pgs_nil))
  case' b3 => refine' pss_cons ?t1 (pss_cons ?t2 (pss_one ?t3))
  case t1 => exact ps_set (i := 6) scJudged.nd rfl (Or.inl rfl) (pe_fn cF hr (pa_cons (pv 0) (pa_cons (pv 3) (pa_cons (pv 5) pa_nil))))
  case t2 => exact ps_if (pt_cmp (pc_notN (pv 6))) (pss_one (ps_ret (pe_fn cB hr1 (pa_cons (pv 4) (pa_cons (pv 6) pa_nil))))) pss_nil
  case t3 => exact ps_dput hu (pv 3) (pe_ix ix_tup (pv 5) pe_int (fun _ _ => rfl)) (pe_ix ix_tup (pv 5) pe_int (fun _ _ => rfl)) rfl
  case s4 => exact ps_ret (pe_tup (pa_cons pe_str (pa_cons (pv 3) pa_nil)))
  case' kk => skip
  have S := D0.S
  have nq : (qs.map (·.1)).Nodup := S.Q.nd S.nd
  have lq : qs.length <= 30 := by rw [S.Q.len]; exact S.h30
  refine ⟨_, rfl, _, rfl, g, p, d, hs, ts, qs, fp, ns, f, rfl, D0.G, D0.dn, D0.hd, D0.so, nq, by omega, fun d' H1 s1 hd0 hd1 => ?_⟩
  have hl1 := s1 _ _ R0.hl
  have tu1 : Paired (ThAt H1) ys ms := Paired.mapP R0.tu fun _ _ q => q.same s1
  have G1 := D0.G.same s1
  have dfp : d' ∉ fp := fun m => by
   obtain ⟨o, e⟩ := D0.has _ m
   rw [hd0] at e
   cases e
  have lmd : lm ≠ d' := ne_of_none R0.hl hd0
  refine ⟨_, rfl, _, _, _, _, rfl, .lst hl1, rfl, _, rfl, iteF ?_⟩
  have lys := Paired.length R0.tu
  refine ⟨_, rfl, lm, rfl, ⟨_, .of hl1⟩, for_enum (K := K) (a := lm) (xs := ys) (fun i σ H' => ∃ (v4 v5 v6 : Option V) (f' : Str -> Str), σ = [some (.ref g), some (.ref d), some (.ref lm), some (.ref d'), v4, v5, v6] /\ But d' H1 H' /\ H' d' = some (.dK (stF (qs.map (·.1)) f')) /\ jgG hs ts qs 0 f ms = jgG hs ts qs i f' (ms.drop i)) ⟨none, none, none, f, rfl, But.refl _ _, hd1, rfl⟩ (fun i σ H' _ ⟨_, _, _, _, _, b, _⟩ => .of (b _ _ hl1 lmd)) ?_ ?_⟩
  ·rintro i y σ H2 hy ⟨v4, v5, v6, f', rfl, b2, hd2, ej⟩ t ht
   obtain ⟨m, hm, th⟩ := paired_at tu1 hy
   have s2 := Same.new (o := .tup [.int i, y]) ht
   have e2 : upd H2 t (.tup [.int i, y]) t = some (.tup [.int i, y]) := upd_same
   have b3 := b2.trans (But.of s2)
   have hd3 := s2 _ _ hd2
   show gTup _ _ _ _ _ (upd H2 t (.tup [.int i, y])) _
   generalize upd H2 t (.tup [.int i, y]) = H3 at s2 e2 b3 hd3 ⊢
   refine ⟨t, _, rfl, .of e2, rfl, _, _, rfl, _, _, rfl, rfl, ?_⟩
   have G3 : GoodsAt K CG CW H3 g p hs ts qs fp := G1.keep (fun b hb u e => b3 b u e (fun z => dfp (z ▸ hb))) fun b xs e => b3 b _ e (ne_of e hd1 (by intro z; cases z))
   have th3 := th.butD b3 hd1
   refine ⟨_, rfl, _, rfl, _, rfl, g, p, d', y, hs, ts, ps, qs, fp, f', m, rfl, G3, S, hd3, th3, fun H4 s4 => ?_⟩
   have b4 := b3.trans (But.of s4)
   have hd4 := s4 _ _ hd3
   have st4 : Same H H4 := fun b o e => b4 b o (s1 _ _ e) (ne_of_none e hd0)
   rw [jgG_drop hm] at ej
   cases fl : fltG hs ts qs f' m with
   | some r =>
    rw [fl] at ej
    refine ⟨_, rfl, _, rfl, iteT ?_⟩
    refine ⟨_, rfl, _, rfl, (i : Int), r, rfl, fun t2 ht2 => ?_⟩
    refine k t2 _ (st4.trans (Same.new ht2)) (st4.free ht2) ?_
    rw [ej]
    exact upd_same
   | none =>
    rw [fl] at ej
    refine ⟨_, rfl, _, rfl, iteF ?_⟩
    cases m with
    | none => cases fl
    | some m =>
    have th4 := th3.same s4
    obtain ⟨tm, rfl, htm4⟩ := th4
    have mq : m.1 ∈ qs.map (·.1) := by
     have fl : (match pcOf qs m.1 with
      | none => some ("piece" : Str)
      | some q => if f' m.1 = m.2.1 then (if tiedB hs ts (some m.2.1) (some m.2.2) = false then some ("tie" : Str) else if goB hs ts q.2.2 (some m.2.1) (some m.2.2) = false then some ("ways" : Str) else none) else some ("place" : Str)) = none := fl
     cases pq : pcOf qs m.1 with
     | none =>
      rw [pq] at fl
      cases fl
     | some q =>
      obtain ⟨hq, eq⟩ := pcOf_some pq
      exact List.mem_map.mpr ⟨q, hq, eq⟩
    refine ⟨_, rfl, tm, _, 2, _, rfl, rfl, .of htm4, rfl, _, rfl, _, rfl, tm, _, 0, _, rfl, rfl, .of htm4, rfl, d', _, rfl, .k (k := Sum.inr m.1) hd4 (by rw [mKV_len, List.length_map]; omega), ?_⟩
    exact ⟨_, _, _, put f' m, rfl, b4.trans But.upd, by rw [upd_same, put_mKV mq], ej⟩
  ·rintro σ H2 ⟨v4, v5, v6, f', rfl, b2, hd2, ej⟩
   rw [lys, List.drop_length] at ej
   refine ⟨_, rfl, by show 2 <= sizeLine; decide, fun t ht => ?_⟩
   have st2 : Same H H2 := fun b o e => b2 b o (s1 _ _ e) (ne_of_none e hd0)
   refine k t _ (st2.trans (Same.new ht)) (st2.free ht) ?_
   rw [ej]
   exact ⟨d', hd0, upd_same, (Same.new ht) _ _ hd2⟩
def spJudgedN (K : PySem.W.Frag) (CG CW : Addr) : Sp := fun vs H Q _ => ∃ (g p d : Addr) (v : V) (ty : Value) (hs : List (Str × Int)) (ts : List (Str × Str)) (ps qs : List Pc) (fp : List Addr) (ns : List Str) (f : Str -> Str), vs = [.ref g, .ref d, v] /\ Std K CG CW H g p d hs ts ps qs fp ns f /\ TyOf K H v ty /\ PySem.W.kitOne K ty (.type "list") = some false /\
 ∀ t H', Same H H' -> H' t = some (.tup [.str "bad", .int (-1), .str "form"]) -> Q (.ref t) H'
end
end Ev
set_option Elab.async false
set_option linter.all false
set_option maxRecDepth 100000
namespace Ev
open PySem L2
theorem WebAt.has {K : PySem.W.Frag} {C : Addr} {H : Hp} {p : Addr} {hs : List (Str × Int)} {ts : List (Str × Str)} {fp : List Addr} (W : WebAt K C H p hs ts fp) {b : Addr} (hb : b ∈ fp) : ∃ o, H b = some o := by
 obtain ⟨dx, d1, l2, d3, zs, as, rfl, h1, h2, h3, h4, h5, h6, h7⟩ := W.ex
 simp only [List.mem_cons] at hb
 rcases hb with rfl | rfl | rfl | rfl | hb
 ·exact ⟨_, h1⟩
 ·exact ⟨_, h2⟩
 ·exact ⟨_, h3⟩
 ·exact ⟨_, h5⟩
 ·obtain ⟨i, hi, e⟩ := List.getElem_of_mem hb
  exact ⟨_, h7 i ((nmsOf hs)[i]'(by omega)) b (List.getElem?_eq_getElem (by omega)) (by rw [<- e]; exact List.getElem?_eq_getElem hi)⟩
theorem GoodsAt.slim {K : PySem.W.Frag} {CG CW : Addr} {H : Hp} {g p : Addr} {hs : List (Str × Int)} {ts : List (Str × Str)} {qs : List Pc} {fp : List Addr} (G : GoodsAt K CG CW H g p hs ts qs fp) : ∃ fp', GoodsAt K CG CW H g p hs ts qs fp' /\ ∀ b ∈ fp', ∃ o, H b = some o := by
 obtain ⟨dx, dw, dy, vs, fpw, h1, h2, h3, h4, h5, m1, m2, m3, m4, m5⟩ := G.ex
 refine ⟨g :: dw :: dy :: (fpw ++ vs.filterMap fun v => match v with | .ref a => some a | _ => none), ⟨dx, dw, dy, vs, fpw, h1, h2, h3, h4, h5, by simp, by simp, by simp, fun b hb => by simp [hb], fun v hv a z => ?_⟩, fun b hb => ?_⟩
 ·have : a ∈ vs.filterMap fun v => match v with | .ref a => some a | _ => none := List.mem_filterMap.mpr ⟨v, hv, by rw [z]⟩
  simp only [List.mem_cons, List.mem_append]
  exact .inr (.inr (.inr (.inr this)))
 ·simp only [List.mem_cons, List.mem_append] at hb
  rcases hb with rfl | rfl | rfl | hb | hb
  ·exact ⟨_, h1⟩
  ·exact ⟨_, h3⟩
  ·exact ⟨_, h4⟩
  ·exact h2.has hb
  ·obtain ⟨v, hv, e⟩ := List.mem_filterMap.mp hb
   obtain ⟨i, hi, ev⟩ := List.getElem_of_mem hv
   have le := Paired.length h5
   have w := paired_get h5 i hi (by omega)
   rw [ev] at w
   cases o : (qs[i]'(by omega)).2.2 with
   | none =>
    rw [o] at w
    rw [show v = .non from w] at e
    cases e
   | some ws =>
    rw [o] at w
    obtain ⟨a, ys, ea, ha, _⟩ := w
    rw [ea] at e
    cases e
    exact ⟨_, ha⟩
theorem stt_put {H : Hp} {l d : Addr} {u : HO} (h : stt H l) (ne : d ≠ l) : stt (upd H d u) l := by
 rcases h with ⟨n, e⟩ | ⟨n, m, c, e⟩
 ·exact .inl ⟨n, by rw [upd_ne ne.symm]; exact e⟩
 ·exact .inr ⟨n, m, c, by rw [upd_ne ne.symm]; exact e⟩
def Kp (a b : Addr) (H H' : Hp) : Prop := ∀ c o, c ≠ a -> c ≠ b -> H c = some o -> H' c = some o
section
variable {a b : Addr} {H H1 H2 : Hp} {u : HO}
end
theorem seqG {t u : TS} {D : Ends} {σ : St} {H : Hp} (R : St -> Hp -> Prop) (later : ∀ σ H, R σ H -> u D σ H) (now : ∀ N : St -> Hp -> Prop, (∀ σ H, R σ H -> N σ H) -> t { D with nx := N } σ H) : tSeq t u D σ H := now (u D) later
theorem setG {i : Nat} {v : V} {σ : St} {H : Hp} {N : St -> Hp -> Prop} (h : N (σ.set i (some v)) H) : gName i v σ H N := h
structure CalC (P : Program) (w : World) (K : PySem.W.Frag) (mg : Str -> Option Value) (base : Heap) (C : Addr) (k : Nat) (x : Str) (ps : List Str) (sp : Sp) : Prop where
 ex : ∃ f fd, FnOk P w K mg base CX0 k f fd ps sp /\ Mk K C f /\ mg x = some (.ref C) /\ Binds K fd ps []
theorem pe_mk {X : Cx} {C : Addr} {k : Nat} {x : Str} {ps : List Str} {sp : Sp} {p pos : Pos} {e : Expr} {es : List Expr} {t : TA} (c : CalC X.prog X.w X.K X.mg X.base C k x ps sp) (hr : Room (k + 1) X.A) (ha : PA X (e :: es) t) (hg : Gl X x := by rfl) (hdb : (x == ("__debug__" : Str)) = false := by decide)
  (he : starEach (e :: es) X.env = (false, eval e X.env) :: starEach es X.env := by rfl) (hpl : (backTo pos (starEach es X.env)).any (·.1) = false := by rfl) : PE X (.Call (.Name x p) (e :: es) [] pos) (tMake C sp [] E0 t) := by
 obtain ⟨f, fd, F, M, m, b⟩ := c.ex
 exact pe_make M F hr hg m b .nil pass0 ha hdb he hpl
structure Lay (K : PySem.W.Frag) (CG CW : Addr) (H : Hp) (lh lt lp g p : Addr) (yh yt yp : List V) (hs : List (Str × Int)) (ts : List (Str × Str)) (ps qs : List Pc) (fp : List Addr) : Prop where
 hh : H lh = some (.lst yh)
 th : TupsAt K H yh (hs.map kH)
 ht : H lt = some (.lst yt)
 tt : TupsAt K H yt (ts.map kT)
 hp : H lp = some (.lst yp)
 pc : PcsAt K H yp ps
 G : GoodsAt K CG CW H g p hs ts qs fp
theorem Lay.same {K : PySem.W.Frag} {CG CW : Addr} {H H' : Hp} {lh lt lp g p : Addr} {yh yt yp : List V} {hs : List (Str × Int)} {ts : List (Str × Str)} {ps qs : List Pc} {fp : List Addr} (L : Lay K CG CW H lh lt lp g p yh yt yp hs ts ps qs fp) (s : Same H H') : Lay K CG CW H' lh lt lp g p yh yt yp hs ts ps qs fp := ⟨s _ _ L.hh, L.th.same s, s _ _ L.ht, L.tt.same s, s _ _ L.hp, Paired.mapP L.pc fun _ _ q => q.same s, L.G.same s⟩
section
variable {P : Program} {w : World} {K : PySem.W.Frag} {mg : Str -> Option Value} {base : Heap}
theorem scStand : FnScope ["_law_state", "_law_pieces_here", "_law_hands", "_law_stand_here", "_law_piece"] ["_law_state", "_law_pieces_here", "_law_hands"] (defScope sStand) := ⟨rfl, rfl, rfl, by decide +kernel, rfl, by decide +kernel, by decide +kernel⟩
def spStand (K : PySem.W.Frag) : Sp := fun vs H Q _ => ∃ (l lp lh : Addr) (yp yh : List V) (ps : List Pc) (hs : List (Str × Int)), vs = [.ref l, .ref lp, .ref lh] /\ stt H l /\ H lp = some (.lst yp) /\ lp ≠ l /\ PcsAt K H yp ps /\ H lh = some (.lst yh) /\ lh ≠ l /\ TupsAt K H yh (hs.map kH) /\ 0 < hs.length /\ hs.length <= 8 /\ ps.length <= 30 /\ (ps.map (·.1)).Nodup /\
 ∀ d f H', But l H H' -> stt H' l -> H d = none -> H' d = some (.dK (stF (ps.map (·.1)) f)) -> (∀ n ∈ ps.map (·.1), f n ∈ hs.map (·.1)) -> Q (.ref d) H'
theorem ok_stand {f : Addr} {fd : FuncData} (F : Fun K "_law_stand" "_law_stand" sStand f fd) (B : Bi mg) (cD : Cal P w K mg base 1 "_law_digit" ["_law_state", "_law_base"] spDigit) : FnOk P w K mg base CX0 2 f fd ["_law_state", "_law_pieces_here", "_law_hands"] (spStand K) := by
 refine F.ok scStand (fun vs H Q E h => ?_) (fun cdv A outer s H vs Q E hr h => ?_)
 ·obtain ⟨l, lp, lh, yp, yh, ps, hs, rfl, _⟩ := h
  rfl
 ·obtain ⟨l, lp, lh, yp, yh, ps, hs, rfl, st, hlp, lpl, pc, hlh, lhl, th, h0, h8, h30, nd, k⟩ := h
  have hu := hu_of hr
  have sz := sizeLine_eq
  refine' ⟨_, ?r0, ?kk⟩
  case' r0 => refine' pss_cons ?s1 (pss_cons ?s2 (pss_one ?s3))
  case s1 => exact ps_set (i := 3) scStand.nd rfl (Or.inl rfl) pe_dnewK
  case s2 => exact ps_for PassesOwn.never rfl (pi_list (pv 1)) (pg_name (i := 4) scStand.nd rfl (Or.inl rfl)) (pss_one (ps_dput hu (pv 3) (pe_ix ix_tup (pv 4) pe_int (fun _ _ => rfl)) (pe_ix ix_tup (pe_ix ix_list (pv 2) (pe_fn cD hr (pa_cons (pv 0) (pa_cons (pe_callB call_len_seq (by rfl) B.len PySem.boot_len (pa_cons (pv 2) pa_nil)) pa_nil))) (fun _ _ => rfl)) pe_int (fun _ _ => rfl)) rfl))
  case s3 => exact ps_ret (pv 3)
  case' kk => skip
  have lyp := Paired.length pc
  have lyh := Paired.length th
  rw [List.length_map] at lyh
  intro d hd
  have s1 := Same.new (o := .dK []) hd
  have dl : d ≠ l := by
   obtain ⟨xs, e⟩ := st.some
   exact (ne_of_none e hd).symm
  have b1 : But l H (upd H d (.dK [])) := But.of s1
  have e1 : upd H d (.dK []) d = some (.dK []) := upd_same
  have st1 := st.same s1
  show tSeq _ _ _ _ (upd H d (.dK []))
  generalize upd H d (.dK []) = H1 at b1 e1 st1 s1 ⊢
  obtain ⟨xs0, hl0⟩ := st.some
  have lpd : lp ≠ d := ne_of_none hlp hd
  refine ⟨_, rfl, lp, rfl, ⟨_, .of (s1 _ _ hlp)⟩, for_list (K := K) (a := lp) (xs := yp) (fun i σ H' => ∃ (v4 : Option V) (f : Str -> Str), σ = [some (.ref l), some (.ref lp), some (.ref lh), some (.ref d), v4] /\ But l H H' /\ stt H' l /\ H' d = some (.dK (stF ((ps.map (·.1)).take i) f)) /\ ∀ n ∈ (ps.map (·.1)).take i, f n ∈ hs.map (·.1)) ⟨none, fun n => n, rfl, b1, st1, e1, fun n hn => by simp at hn⟩ (fun i σ H' _ ⟨_, _, _, b, _⟩ => .of (b _ _ hlp lpl)) ?_ ?_⟩
  ·rintro i y σ H2 hy ⟨v4, f, rfl, b2, st2, e2, fm⟩
   have hi : i < yp.length := (List.getElem?_eq_some_iff.mp hy).1
   have hip : i < ps.length := by omega
   obtain ⟨t, v, et, ht, _⟩ := paired_get pc i hi hip
   rw [(List.getElem?_eq_some_iff.mp hy).2] at et
   subst et
   have hn : (ps.map (·.1))[i]? = some (ps[i]'hip).1 := by rw [List.getElem?_map, List.getElem?_eq_getElem hip]; rfl
   generalize ps[i]'hip = q at ht hn
   have tl : t ≠ l := ne_of ht hl0 (by intro z; cases z)
   refine ⟨_, rfl, _, rfl, _, rfl, lh, _, rfl, .inl (.of (b2 _ _ hlh lhl)), l, (yh.length : Int), rfl, by omega, by omega, st2, fun j H3 j0 j1 b3 st3 => ?_⟩
   obtain ⟨j, rfl⟩ := Int.eq_ofNat_of_zero_le j0
   have b13 := b2.trans b3
   have hj : j < yh.length := by omega
   have hyj : yh[j]? = some (yh[j]'hj) := List.getElem?_eq_getElem hj
   obtain ⟨h, hh, a, ea, ha⟩ := paired_map th hyj
   have al : a ≠ l := ne_of ha hl0 (by intro z; cases z)
   have ha3 := hpH (b13 _ _ ha al)
   have ht3 := b13 _ _ ht tl
   have e3 := b3 _ _ e2 dl
   refine ⟨lh, _, _, .ref a, rfl, rfl, .of (b13 _ _ hlh lhl), by rw [atI_nat (by omega) (by omega), Int.toNat_natCast, hyj, ea], a, _, 0, _, rfl, rfl, .of ha3, rfl, ?_⟩
   refine ⟨_, rfl, _, rfl, t, _, 0, _, rfl, rfl, .of ht3, rfl, d, _, rfl, .k (k := Sum.inr q.1) e3 (by rw [mKV_len, List.length_take, List.length_map]; omega), ?_⟩
   refine ⟨_, fun m => if m = q.1 then h.1 else f m, rfl, fun b o e nb => ?_, ?_, ?_, ?_⟩
   ·rw [upd_ne (ne_of_none e hd)]
    exact b13 _ _ e nb
   ·exact stt_put st3 dl
   ·rw [upd_same, take_at hn, mKV_new (nodup_at nd hn)]
    congr 2
    refine mKV_congr fun m _ => ?_
    by_cases z : m = q.1
    ·simp [z]
    ·simp [z]
   ·intro m hm
    rw [take_at hn] at hm
    show (if m = q.1 then h.1 else f m) ∈ _
    by_cases z : m = q.1
    ·rw [if_pos z]
     exact List.mem_map.mpr ⟨h, List.mem_of_getElem? hh, rfl⟩
    ·rw [if_neg z]
     rcases List.mem_append.mp hm with hm | hm
     ·exact fm m hm
     ·exact absurd (by simpa using hm) z
  ·rintro σ H2 ⟨v4, f, rfl, b2, st2, e2, fm⟩
   rw [lyp, <- List.length_map (f := fun q : Pc => q.1), List.take_length] at e2 fm
   exact ⟨_, rfl, k d f H2 b2 st2 hd e2 fm⟩
theorem scMade : FnScope ["_law_script", "_law_hands", "_law_ties", "_law_pieces_here"] ["_law_script"] (defScope sMade) := ⟨rfl, rfl, rfl, by decide +kernel, rfl, by decide +kernel, by decide +kernel⟩
def spMade (K : PySem.W.Frag) (CG CW : Addr) : Sp := fun vs H Q _ => ∃ (ls : Addr) (ns : List Int), vs = [.ref ls] /\ SqL K H ls (ns.map V.int) /\ ∀ (t lh lt lp g p : Addr) (yh yt yp : List V) (hs : List (Str × Int)) (ts : List (Str × Str)) (ps qs : List Pc) (fp : List Addr) (H' : Hp), Same H H' -> H' t = some (.tup [.ref lh, .ref lt, .ref lp, .ref g]) -> Lay K CG CW H' lh lt lp g p yh yt yp hs ts ps qs fp -> Sure hs ts ps qs -> (∀ n ∈ hs.map (·.1), EndB 8 n) -> Q (.ref t) H'
theorem ok_made {f CG CW : Addr} {fd : FuncData} (F : Fun K "_law_made" "_law_made" sMade f fd) (cC : Cal P w K mg base 1 "_law_cell_at" ["_law_script", "_law_k"] (spCell K)) (cL : Cal P w K mg base 3 "_law_web" ["_law_state", "_law_most"] (spLWeb K)) (cP : Cal P w K mg base 3 "_law_pieces" ["_law_state", "_law_ties", "_law_most"] (spPieces K)) (cW : CalC P w K mg base CW 5 "Web" ["self", "hands", "ties"] (spInit K CW)) (cG : CalC P w K mg base CG 7 "Goods" ["self", "web", "pieces"] (spGInit K CG CW)) :
  FnOk P w K mg base CX0 9 f fd ["_law_script"] (spMade K CG CW) := by
 refine F.ok scMade (fun vs H Q E h => ?_) (fun cdv A outer s H vs Q E hr h => ?_)
 ·obtain ⟨a, ns, rfl, _⟩ := h
  rfl
 ·obtain ⟨ls, ns, rfl, hls, k⟩ := h
  have sz := sizeLine_eq
  have hr1 : Room 1 _ := hr.mono (by decide)
  have hr3 : Room 3 _ := hr.mono (by decide)
  have hr6 : Room 6 _ := hr.mono (by decide)
  refine' ⟨_, ?r0, ?kk⟩
  case' r0 => refine' pss_cons ?s1 (pss_cons ?s2 (pss_one ?s3))
  case s1 => exact ps_asg (pe_fn cL hr3 (pa_cons (pe_lst (pa_cons (pe_fn cC hr1 (pa_cons (pv 0) (pa_cons pe_int pa_nil))) pa_nil)) (pa_cons pe_int pa_nil))) (pg_tup rfl (pgs_cons (pg_name (i := 1) scMade.nd rfl (Or.inl rfl)) (pgs_cons (pg_name (i := 2) scMade.nd rfl (Or.inl rfl)) pgs_nil)))
  case s2 => exact ps_set (i := 3) scMade.nd rfl (Or.inl rfl) (pe_fn cP hr3 (pa_cons (pe_lst (pa_cons (pe_fn cC hr1 (pa_cons (pv 0) (pa_cons pe_int pa_nil))) pa_nil)) (pa_cons (pv 2) (pa_cons pe_int pa_nil))))
  case s3 => exact ps_ret (pe_tup (pa_cons (pv 1) (pa_cons (pv 2) (pa_cons (pv 3) (pa_cons (pe_mk cG hr (pa_cons (pe_mk cW hr6 (pa_cons (pv 1) (pa_cons (pv 2) pa_nil))) (pa_cons (pv 3) pa_nil))) pa_nil)))))
  case' kk => skip
  refine ⟨_, rfl, ls, ns, 0, rfl, by decide, hls, fun n0 => ?_⟩
  refine ⟨by show 1 <= sizeLine; decide, fun l0 hl0 => ?_⟩
  have sa := Same.new (o := .lst [.int n0]) hl0
  have st0 : stt (upd H l0 (.lst [.int n0])) l0 := .inl ⟨n0, upd_same⟩
  generalize upd H l0 (.lst [.int n0]) = Ha at sa st0 ⊢
  refine ⟨l0, rfl, st0, fun t0 lh lt yh yt hs ts H2 b2 st2 ht2 hlh hlt nlt hlh2 th2 hlt2 tt2 Gd ends => ?_⟩
  have s2 : Same H H2 := fun b o e => b2 _ _ (sa _ _ e) (ne_of_none e hl0)
  have hls2 := s2.seq hls
  clear b2 sa st0 st2 hlh hlt hl0
  refine ⟨t0, _, rfl, .of ht2, rfl, _, _, rfl, _, _, rfl, rfl, ?_⟩
  clear ht2
  refine ⟨_, rfl, ls, ns, 1, rfl, by decide, hls2, fun n1 => ?_⟩
  refine ⟨by show 1 <= sizeLine; decide, fun l1 hl1 => ?_⟩
  have sa := Same.new (o := .lst [.int n1]) hl1
  have st0 : stt (upd H2 l1 (.lst [.int n1])) l1 := .inl ⟨n1, upd_same⟩
  generalize upd H2 l1 (.lst [.int n1]) = Ha at sa st0 ⊢
  refine ⟨_, rfl, l1, lt, 30, yt, ts, rfl, Nat.le_refl _, st0, sa _ _ hlt2, tt2.same sa, ne_of_none hlt2 hl1, Gd.t64, Gd.tok, Gd.tnd, fun lp yp ps H4 b4 st4 hlp hlp4 pc4 gp nd h30 _ => ?_⟩
  have s4 : Same H2 H4 := fun b o e => b4 _ _ (sa _ _ e) (ne_of_none e hl1)
  have hlh4 := s4 _ _ hlh2
  have hlt4 := s4 _ _ hlt2
  have th4 := th2.same s4
  have tt4 := tt2.same s4
  have s04 := s2.trans s4
  clear b4 sa st0 st4 hl1 hlp hlh2 hlt2 th2 tt2 hls2 s4
  refine ⟨_, rfl, _, rfl, _, rfl, _, rfl, _, rfl, fun p dx hp hdx ndp => ?_⟩
  have s8 : Same H4 (upd (upd H4 dx (.own p)) p (.ins CW dx [])) := (Same.new hdx).trans (Same.new (by rw [upd_ne ndp.symm]; exact hp))
  have hp8 : upd (upd H4 dx (.own p)) p (.ins CW dx []) p = some (.ins CW dx []) := upd_same
  generalize upd (upd H4 dx (.own p)) p (.ins CW dx []) = H8 at s8 hp8 ⊢
  refine ⟨p, dx, lh, lt, yh, yt, hs, ts, rfl, hp8, s8 _ _ hlh4, th4.same s8, s8 _ _ hlt4, tt4.same s8, Gd, fun fpw Hw keep W _ => ⟨rfl, ?_⟩⟩
  have s9 : Same H4 Hw := fun b o e => keep b o (s8 _ _ e) (ne_of_none e hp)
  refine ⟨_, rfl, fun g dxg hg hdg ndg => ?_⟩
  have s10 : Same Hw (upd (upd Hw dxg (.own g)) g (.ins CG dxg [])) := (Same.new hdg).trans (Same.new (by rw [upd_ne ndg.symm]; exact hg))
  have hg8 : upd (upd Hw dxg (.own g)) g (.ins CG dxg []) g = some (.ins CG dxg []) := upd_same
  generalize upd (upd Hw dxg (.own g)) g (.ins CG dxg []) = H10 at s10 hg8 ⊢
  have gw : g ∉ fpw := fun m => by
   obtain ⟨o, e⟩ := W.has m
   rw [hg] at e
   cases e
  have s410 := s9.trans s10
  refine ⟨g, dxg, p, lp, yp, ps, hs, ts, fpw, rfl, hg8, W.same s10, gw, Gd, s410 _ _ hlp4, Paired.mapP pc4 fun _ _ q => q.same s410, gp, nd, by omega, fun qs fp H11 keep2 GA Qq _ => ⟨rfl, ?_⟩⟩
  have sw : Same Hw H11 := fun b o e => keep2 b o (s10 _ _ e) (ne_of_none e hg)
  have s411 := s9.trans sw
  refine ⟨by show 4 <= sizeLine; decide, fun t ht => ?_⟩
  have s12 := Same.new (o := .tup [.ref lh, .ref lt, .ref lp, .ref g]) ht
  have s412 := s411.trans s12
  exact k t lh lt lp g p yh yt yp hs ts ps qs fp _ (s04.trans s412) upd_same ⟨s412 _ _ hlh4, th4.same s412, s412 _ _ hlt4, tt4.same s412, s412 _ _ hlp4, Paired.mapP pc4 fun _ _ q => q.same s412, GA.same s12⟩ ⟨Gd, gp, nd, h30, Qq⟩ ends
end
end Ev
set_option Elab.async false
set_option linter.all false
set_option maxRecDepth 100000
namespace L2
open PySem PySem.Spec PySem.Calls PyProof.Rows PySem.W
section
variable {P : Program} {w : World} {K : PySem.W.Frag} {mg : Str -> Option Value} {base : Heap} {N : List Str} {qual : Str} {scope : Scope} {f : Addr} {cd : Value} {A : Around} {outer : List Env} {s : Shared} {H : Hp} {E : XK}
theorem raises2 : Raises (cxOf (CX2 P w) P w K mg base N qual scope f cd A outer s H E) E := by
 intro pins σ H1 s1 h' e cls vs I hx hE
 have ff := PySem.W.funFrames_hide (as := frs (cxOf (CX2 P w) P w K mg base N qual scope f cd A outer s H E).stack) I.stack (fun env he b hb => List.mem_filterMap.mpr ⟨env, he, hb⟩)
 obtain ⟨t, he, _⟩ := hx.there
 refine leaves_firstD (s := { s1 with heap := h' }) (base := PySem.W.hideAll s1.heap (frs (cxOf (CX2 P w) P w K mg base N qual scope f cd A outer s H E).stack)) (dd := none) I.ok.frames rfl (fun b o q => hx.keeps _ _ (PySem.W.of_hideAll _ q)) (Heap.FunFrames.of_keeps (fun b o q _ => ⟨o, hx.keeps _ _ q, rfl⟩) ff) ?_ he rfl rfl rfl rfl rfl fun h1 fl up => ?_
 ·cases q : (PySem.W.hideAll s1.heap (frs (cxOf (CX2 P w) P w K mg base N qual scope f cd A outer s H E).stack)).get? e with
  | none => rfl
  | some o =>
   have := PySem.W.of_hideAll _ q
   rw [hx.new] at this
   cases this
 ·exact leave_endD (s1 := { s1 with heap := h1 }) I rfl rfl I.bare Un.refl I.hok (fun b o q hb _ => PySem.W.hideAll_get _ q hb) ff ((Heap.UpToSlots.of_keeps hx.keeps).trans up) fl hE
theorem Fun.okG {x qual : Str} {st : Stmt} {f : Addr} {fd : FuncData} {N ps : List Str} {k : Nat} {sp : Sp} (F : Fun K x qual st f fd) (S : FnScope N ps (defScope st)) (len : ∀ vs H Q E, sp vs H Q E -> vs.length = ps.length)
  (hbody : ∀ (cdv : Value) (A : Around) (outer : List Env) (s : Shared) (H : Hp) (vs : List V) (Q : VK) (E : XK), Room k (A.deeper (envOfC qual (defScope st) s.heap.objs.size f cdv)) -> sp vs H Q E ->
   Passes (CX2 P w) (cxOf (CX2 P w) P w K mg base N qual (defScope st) f cdv A outer s H E) E -> RaisesO (cxOf (CX2 P w) P w K mg base N qual (defScope st) f cdv A outer s H E) E -> Raises (cxOf (CX2 P w) P w K mg base N qual (defScope st) f cdv A outer s H E) E ->
   ∃ t, PSs (cxOf (CX2 P w) P w K mg base N qual (defScope st) f cdv A outer s H E) (defBody st) t /\ t { nx := fun _ H' => Q .non H', rt := Q } (start N vs) H) : FnOk P w K mg base (CX2 P w) (k + 1) f fd ps sp := by
 obtain ⟨oc, od, kV, doc, pm, an, cdv, ct, osl, rfl, lk, hcd⟩ := F.ex
 refine fn_of lk hcd S len fun A outer s H vs Q E hr hsp => ?_
 obtain ⟨t, h, q⟩ := hbody cdv A outer s H vs Q E hr hsp passes2 raisesO raises2
 exact ⟨t, h, q⟩
end
section
variable {X : Cx} {i : Nat} {x x2 n : Str} {D C D2 C2 : Addr} {np hpos np2 hpos2 pos : Pos} {b₀ c₀ : Stmt} {suite suite2 body : List Stmt} {tb : XK -> TS} {ts ts2 : TS}
def XE2 (X : Cx) (i : Nat) (C C2 : Addr) (ts ts2 : TS) (R : Ends) : XK := fun cls dd H' => XE X i C ts R cls dd H' ∨ (cls = .ref C2 /\ ∀ σ : St, σ.length = X.N.length -> ts2 R σ H')
def tTry22 (X : Cx) (i : Nat) (C C2 : Addr) (tb : XK -> TS) (ts ts2 : TS) : TS := fun D σ H => tb (XE2 X i C C2 ts ts2 D) D σ H
end
section
variable {X : Cx}
def rIsiQ (K : PySem.W.Frag) : List V -> Hp -> VK -> Prop := fun xs H Q => ∃ a C dd c cv b, xs = [.ref a, c] /\ clsV c = some cv /\ H a = some (exq a C dd) /\ ExcK K C /\ PySem.W.kitOne K (.ref C) cv = some b /\ Q (.bl b) H
end
end L2
set_option Elab.async false
set_option linter.all false
set_option maxRecDepth 100000
namespace Ev
open PySem L2
abbrev sNMI : Stmt := inClass sNoMove 0
structure NMv (K : PySem.W.Frag) (mg : Str -> Option Value) (CN CE fi : Addr) : Prop where
 O : ExO K CN CE
 Fk : ExF K CN "k"
 Fr : ExF K CN "reason"
 B : ExB K CE
 mN : mg "NoMove" = some (.ref CN)
 mE : mg "EvenError" = some (.ref CE)
 hi : PySem.W.findIn K (.ref CN) "__init__" = some (some (.ref fi))
 hf : PySem.W.typeIn K (.ref fi) = some (.type "function")
 kp : PySem.W.keepIn K (.ref CN) = true
 hd : PySem.W.hasDictIn K CN = true
def xfs (v1 v2 : V) : List (Str × V) := [("k", v1), ("reason", v2)]
theorem xfs_put (v1 v2 : V) : putF "reason" v2 [("k", v1)] = xfs v1 v2 := by
 unfold putF xfs
 rw [if_neg (by decide)]
 rfl
theorem xfs_k (v1 v2 : V) : (xfs v1 v2).lookup ("k" : Str) = some v1 := rfl
theorem xfs_r (v1 v2 : V) : (xfs v1 v2).lookup ("reason" : Str) = some v2 := rfl
structure CalG (P : Program) (w : World) (K : PySem.W.Frag) (mg : Str -> Option Value) (base : Heap) (k : Nat) (x : Str) (ps : List Str) (sp : Sp) : Prop where
 ex : ∃ f fd, FnOk P w K mg base (CX2 P w) k f fd ps sp /\ mg x = some (.ref f) /\ PySem.W.keepIn K (.ref f) = true /\ Binds K fd ps []
theorem pe_fg {X : Cx} {E : XK} {k : Nat} {x : Str} {ps : List Str} {sp : Sp} {p pos : Pos} {e : Expr} {es : List Expr} {t : TA} (c : CalG X.prog X.w X.K X.mg X.base k x ps sp) (hr : Room k X.A) (hx : Passes (CX2 X.prog X.w) X E) (ha : PA X (e :: es) t) (hg : Gl X x := by rfl) (hdb : (x == ("__debug__" : Str)) = false := by decide)
  (he : starEach (e :: es) X.env = (false, eval e X.env) :: starEach es X.env := by rfl) (hpl : (backTo pos (starEach es X.env)).any (·.1) = false := by rfl) : PE X (.Call (.Name x p) (e :: es) [] pos) (tCall sp [] E t) := by
 obtain ⟨f, fd, F, m, kp, b⟩ := c.ex
 exact pe_call F hr hg m kp b .nil hx ha hdb he hpl
section
variable {P : Program} {w : World} {K : PySem.W.Frag} {mg : Str -> Option Value} {base : Heap}
theorem scNMI : FnScope ["self", "k", "reason"] ["self", "k", "reason"] (defScope sNMI) := ⟨rfl, rfl, rfl, by decide +kernel, rfl, by decide +kernel, by decide +kernel⟩
def spNMI (CN : Addr) : Sp := fun vs H Q _ => ∃ (x a0 : Addr) (v1 v2 : V), vs = [.ref x, v1, v2] /\ H x = some (exn x CN a0 none) /\ ∀ t2 d H', (∀ b o, H b = some o -> b ≠ x -> H' b = some o) -> H d = none -> d ≠ x -> H' x = some (exn x CN t2 (some d)) -> H' d = some (xdm d (xfs v1 v2)) -> Q .non H'
theorem ok_nmi {f CN CE fi : Addr} {fd : FuncData} (F : Fun K "__init__" "NoMove.__init__" sNMI f fd) (M : NMv K mg CN CE fi) : FnOk P w K mg base CX0 1 f fd ["self", "k", "reason"] (spNMI CN) := by
 refine F.ok scNMI (fun vs H Q E h => ?_) (fun cdv A outer s H vs Q E hr h => ?_)
 ·obtain ⟨x, a0, v1, v2, rfl, _⟩ := h
  rfl
 ·obtain ⟨x, a0, v1, v2, rfl, hx, k⟩ := h
  refine' ⟨_, pss_cons ?s1 (pss_cons ?s2 (pss_one ?s3)), ?kk⟩
  case s1 => exact ps_expr (pe_einit M.B (by rfl) M.mE (pa_cons (pv 0) (pa_cons (pv 1) (pa_cons (pv 2) pa_nil))))
  case s2 => exact ps_xfld0 (CE := CE) (pv 0) (pv 1) rfl
  case s3 => exact ps_xfld1 (CE := CE) (pv 0) (pv 2) rfl
  case' kk => skip
  refine ⟨_, rfl, _, rfl, _, rfl, x, [v1, v2], CN, a0, none, rfl, hx, M.O.ex, by show 2 <= sizeLine; decide, fun t2 ht2 => ?_⟩
  have n2 : x ≠ t2 := ne_of_none hx ht2
  refine ⟨_, rfl, _, rfl, x, CN, t2, rfl, upd_same, M.O, M.Fk, fun d hd => ?_⟩
  have nd : d ≠ x := fun z => by rw [z, upd_same] at hd; cases hd
  have nd2 : d ≠ t2 := fun z => by rw [upd_ne nd, z, upd_same] at hd; cases hd
  have hd0 : H d = none := by rw [upd_ne nd, upd_ne nd2] at hd; exact hd
  refine ⟨_, rfl, _, rfl, x, CN, t2, d, _, rfl, upd_same, by rw [upd_ne nd]; exact upd_same, by show 1 < 100; decide, nd, M.O, M.Fr, ?_⟩
  rw [xfs_put]
  refine k t2 d _ (fun b o e nb => ?_) hd0 nd (by rw [upd_ne nd.symm, upd_same]) upd_same
  rw [upd_ne (ne_of_none e hd0), upd_ne nb, upd_ne (ne_of_none e hd0), upd_ne nb, upd_ne (ne_of_none e ht2)]
  exact e
theorem scMoved : FnScope ["goods", "stand", "moves", "answer"] ["goods", "stand", "moves"] (defScope sMoved) := ⟨rfl, rfl, rfl, by decide +kernel, rfl, by decide +kernel, by decide +kernel⟩
def MvEnd (CN : Addr) (H : Hp) (ns : List Str) (Q : VK) (E : XK) : (Nat × Str) ⊕ (Str -> Str) -> Prop
 | .inl (k, r) => ∀ d H', Same H H' -> H d = none -> H' d = some (xdm d (xfs (.int k) (.str r))) -> E (.ref CN) (some d) H'
 | .inr f => ∀ d H', Same H H' -> H d = none -> H' d = some (.dK (stF ns f)) -> Q (.ref d) H'
def spMoved (K : PySem.W.Frag) (CG CW CN : Addr) : Sp := fun vs H Q E => ∃ (g p d lm : Addr) (hs : List (Str × Int)) (ts : List (Str × Str)) (ps qs : List Pc) (fp : List Addr) (ns : List Str) (f : Str -> Str) (ys : List V) (ms : List (Option Mv)), vs = [.ref g, .ref d, .ref lm] /\ Std K CG CW H g p d hs ts ps qs fp ns f /\ RowG H lm ys ms /\ MvEnd CN H (qs.map (·.1)) Q E (jgG hs ts qs 0 f ms)
theorem raise_nm {X : Cx} {E : XK} {CN CE fi : Addr} {fd : FuncData} {np cpos pos : Pos} {e1 e2 : Expr} {t : TA} (M : NMv X.K X.mg CN CE fi) (F : FnOk X.prog X.w X.K X.mg X.base CX0 1 fi fd ["self", "k", "reason"] (spNMI CN)) (hb : Binds X.K fd ["self", "k", "reason"] []) (hh : X.calm = true) (R : RaisesO X E) (hr : Room 2 X.A) (hg : Gl X "NoMove") (ha : PA X (e1 :: e2 :: []) t)
  (he : starEach (e1 :: [e2]) X.env = (false, eval e1 X.env) :: starEach [e2] X.env := by rfl) (hpl : (backTo cpos (starEach [e2] X.env)).any (·.1) = false := by rfl) : PS X (.Raise (some (.Call (.Name "NoMove" np) [e1, e2] [] cpos)) none pos) (tRaiseO CN (spNMI CN) E t) :=
 ps_raiseO hh R M.mN M.O.ex M.hi M.hf M.kp F hr hb hg ha (by decide) he hpl
theorem ok_moved {f CG CW CN CE fi : Addr} {fd fdi : FuncData} (F : Fun K "moved" "moved" sMoved f fd) (M : NMv K mg CN CE fi) (Fi : FnOk P w K mg base CX0 1 fi fdi ["self", "k", "reason"] (spNMI CN)) (hb : Binds K fdi ["self", "k", "reason"] []) (cJ : Cal P w K mg base 5 "judged" ["goods", "stand", "moves"] (spJudged K CG CW)) : FnOk P w K mg base (CX2 P w) 6 f fd ["goods", "stand", "moves"] (spMoved K CG CW CN) := by
 refine F.okG scMoved (fun vs H Q E h => ?_) (fun cdv A outer s H vs Q E hr h hp ro rm => ?_)
 ·obtain ⟨g, p, d, lm, hs, ts, ps, qs, fp, ns, f, ys, ms, rfl, _⟩ := h
  rfl
 ·obtain ⟨g, p, d, lm, hs, ts, ps, qs, fp, ns, f, ys, ms, rfl, D0, R0, k⟩ := h
  have hr2 : Room 2 _ := hr.mono (by decide)
  refine' ⟨_, pss_cons ?s1 (pss_cons ?s2 (pss_one ?s3)), ?kk⟩
  case s1 => exact ps_set (i := 3) scMoved.nd rfl (Or.inl rfl) (pe_fn cJ hr (pa_cons (pv 0) (pa_cons (pv 1) (pa_cons (pv 2) pa_nil))))
  case' s2 => refine' ps_if (pt_cmpR op_eq (pe_ix ix_tup (pv 3) pe_int (fun _ _ => rfl)) pe_str (nomark _)) (pss_one ?r1) pss_nil
  case r1 => exact raise_nm M Fi hb rfl ro hr2 (by rfl) (pa_cons (pe_ix ix_tup (pv 3) pe_int (fun _ _ => rfl)) (pa_cons (pe_ix ix_tup (pv 3) pe_int (fun _ _ => rfl)) pa_nil))
  case s3 => exact ps_ret (pe_ix ix_tup (pv 3) pe_int (fun _ _ => rfl))
  case' kk => skip
  refine ⟨_, rfl, _, rfl, _, rfl, g, p, d, lm, hs, ts, ps, qs, fp, ns, f, ys, ms, rfl, D0, R0, fun t H1 s1 ht an => ?_⟩
  cases ej : jgG hs ts qs 0 f ms with
  | inl kr =>
   obtain ⟨kk, r⟩ := kr
   rw [ej] at an k
   have an : H1 t = some (.tup [.str "bad", .int kk, .str r]) := an
   refine ⟨_, rfl, t, _, _, _, rfl, rfl, .of an, rfl, rfl, _, rfl, iteT ?_⟩
   refine ⟨_, rfl, t, _, _, _, rfl, rfl, .of an, rfl, _, rfl, t, _, _, _, rfl, rfl, .of an, rfl, by show 2 <= sizeLine; decide, fun x t1 hx ht1 nx => ?_⟩
   refine ⟨x, t1, _, _, rfl, upd_same, fun t2 d2 H2 kp hd2 ndx ex2 ed2 => ⟨rfl, t2, some d2, ex2, ?_⟩⟩
   have nd1 : H1 d2 = none := by
    have z := hd2
    rw [upd_ne ndx] at z
    by_cases y : d2 = t1
    ·rw [y]; exact ht1
    ·rw [upd_ne y] at z; exact z
   refine k d2 _ (fun b o e => ?_) (s1.free nd1) (by rw [dropH_ne ndx]; exact ed2)
   have e1 := s1 _ _ e
   have nbx := ne_of_none e1 hx
   rw [dropH_ne nbx]
   exact kp b o (by rw [upd_ne nbx, upd_ne (ne_of_none e1 ht1)]; exact e1) nbx
  | inr f' =>
   rw [ej] at an k
   obtain ⟨d', hd', et, ed⟩ := an
   refine ⟨_, rfl, t, _, _, _, rfl, rfl, .of et, rfl, rfl, _, rfl, iteF ?_⟩
   exact ⟨_, rfl, t, _, _, _, rfl, rfl, .of et, rfl, k d' H1 s1 hd' ed⟩
end
end Ev
set_option Elab.async false
set_option linter.all false
set_option maxRecDepth 100000
namespace EvT
open PySem PySem.SeqAt PyProof.Rows
open AutoSeq1 (wpAny_loadPart')
theorem loop_cons {α β : Type} {as : List α} {f : (a : α) -> a ∈ as -> β -> Sem (ForInStep β)} {l l' : List α} {a : α} {b : β} {h : ∃ bs, bs ++ l = as} (e : l = a :: l') : ∃ (h1 : a ∈ as) (h2 : ∃ bs, bs ++ l' = as), List.forIn'.loop as f l b h = (f a h1 b >>= fun r => match r with
  | .done r => pure r
  | .yield r => List.forIn'.loop as f l' r h2) := by
 subst e
 exact ⟨_, _, rfl⟩
abbrev ixF (x1 x2 y : Value) : Nat -> Option PySem.Fin × Unit -> Sem (ForInStep (Option PySem.Fin × Unit)) := (fun (i : Nat) (_ : Option PySem.Fin × Unit) =>
      (match #[x1, x2][i]? with
      | some y_1 => do
       let __do_lift <- eqBool y_1 y
       if __do_lift = true then do
         let __do_lift <- retInt ↑i
         pure (ForInStep.done (some __do_lift, ()))
        else pure (ForInStep.yield (none, ()))
      | x => pure (ForInStep.yield (none, ())) : Sem (ForInStep (Option PySem.Fin × Unit))))
section
variable {prog : Program} {w : World} {A : Around} {E : Value -> Shared -> Prop} {s : Shared}
theorem idx_tup2 {l : Addr} {x1 x2 y : Value} {n : Nat} {dl : Option Addr} {sl : Array (Option Value)} {b1 : Bool} {R : Fin -> Shared -> Prop}
  (gl : s.heap.get? l = some { cls := .type "tuple", dict := dl, data := .seq #[x1, x2] n, slots := sl })
  (h1 : ∀ {Q : Bool -> Shared -> Prop}, Q b1 s -> wpAny (model prog w) A (eqBool x1 y) Q E s)
  (h2 : b1 = false -> ∀ {Q : Bool -> Shared -> Prop}, Q true s -> wpAny (model prog w) A (eqBool x2 y) Q E s)
  (h : ∀ t tk, R (.done (.ret (.int (if b1 then 0 else 1) t))) { s with toks := tk }) :
  wpAny (model prog w) A (Builtin.«tuple.index» ⟨[.ref l, y], []⟩) R E s := by
 obtain ⟨hp, g, d, tk, os⟩ := s
 unfold Builtin.«tuple.index»
 simp only [Std.Legacy.Range.forIn_eq_forIn_range', Std.Legacy.Range.size]
 wp_walk using wpAny_loadPart' gl
 obtain ⟨_, h3, e⟩ := loop_cons (as := List.range' 0 ((min #[x1, x2].size #[x1, x2].size - 0 + 1 - 1) / 1)) (l := List.range' 0 ((min #[x1, x2].size #[x1, x2].size - 0 + 1 - 1) / 1)) (a := 0) (l' := [1]) (b := (none, ())) (h := ⟨[], rfl⟩) (f := (fun a _ => ixF x1 x2 y a)) (by simp [List.range'])
 refine Eq.mpr (congrArg (fun z => wpAny (model prog w) A z _ _ _) e) ?_
 clear e
 refine wpAny_bind ?_
 change wpAny (model prog w) A (eqBool x1 y >>= fun b => if b = true then (retInt ((0 : Nat) : Int) >>= fun r => pure (ForInStep.done (some r, ()))) else pure (ForInStep.yield (none, ()))) _ _ _
 refine wpAny_bind (h1 ?_)
 cases b1 with
 | true =>
  wp_walk
  exact h _ _
 | false =>
  refine wpAny_pure ?_
  dsimp only
  obtain ⟨_, h4, e⟩ := loop_cons (as := List.range' 0 ((min #[x1, x2].size #[x1, x2].size - 0 + 1 - 1) / 1)) (l := [1]) (a := 1) (l' := []) (b := ((none, ()) : Option PySem.Fin × Unit)) (h := h3) (f := (fun a _ => ixF x1 x2 y a)) rfl
  refine Eq.mpr (congrArg (fun z => wpAny (model prog w) A z _ _ _) e) ?_
  clear e
  refine wpAny_bind ?_
  change wpAny (model prog w) A (eqBool x2 y >>= fun b => if b = true then (retInt ((1 : Nat) : Int) >>= fun r => pure (ForInStep.done (some r, ()))) else pure (ForInStep.yield (none, ()))) _ _ _
  refine wpAny_bind (h2 rfl ?_)
  wp_walk
  exact h _ _
end
end EvT
namespace L2
open PySem PySem.Spec PyProof.Rows PySem.W
section
variable {X : Cx}
def rTIdx : V -> List V -> Hp -> VK -> Prop := fun x vs H Q => ∃ (p : Addr) (a b y : Str), x = .ref p /\ vs = [.str y] /\ H p = some (.tup [.str a, .str b]) /\ (y = a ∨ y = b) /\ Q (.int (if a = y then 0 else 1)) H
theorem mt_tidx : MtM X "tuple.index" rTIdx := by
 intro pins s σ H x vs v us Q I rx rv h
 obtain ⟨p, a, b, y, rfl, rfl, hp, hy, q⟩ := h
 cases rx
 obtain ⟨u, rfl, ru⟩ := rv.one
 obtain ⟨t, rfl⟩ := ru
 obtain ⟨its, r, it, _⟩ := I.tuple (.of hp)
 obtain ⟨u1, u2, rfl, r1, r2⟩ := vals2 r
 obtain ⟨t1, rfl⟩ := r1
 obtain ⟨t2, rfl⟩ := r2
 obtain ⟨⟨c1, d1, tt1, l1⟩, o1, k1, n1, z1⟩ := id (isTuple_of it)
 simp only at k1 z1
 subst k1 z1
 have T1 : s.TypeIs (.ref p) "tuple" := ⟨_, o1, rfl⟩
 refine wpAny_call_entry PySem.F.slot_tuple_index T1 PySem.F.entry_tuple_index (EvT.idx_tup2 (b1 := decide (a = y)) o1 (fun {Q} q => SeqAt.EqAt.str_str a t1 y t X.prog X.w _ _ (by rw [show (a == y) = decide (a = y) by by_cases z : a = y <;> simp [z]]; exact q)) (fun e {Q} q => SeqAt.EqAt.str_str b t2 y t X.prog X.w _ _ (by
  have : b = y := by
   rcases hy with z | z
   ·exact absurd z.symm (of_decide_eq_false e)
   ·exact z.symm
  rw [this]
  simpa using q)) fun t tk => ?_) (PySem.F.args_tuple_index_2 _ _)
 refine ⟨_, rfl, ?_⟩
 by_cases z : a = y
 ·rw [decide_eq_true z, if_pos rfl]
  rw [if_pos z] at q
  exact ⟨.int _, H, I.tok _, ⟨_, rfl⟩, q⟩
 ·rw [decide_eq_false z, if_neg (by decide)]
  rw [if_neg z] at q
  exact ⟨.int _, H, I.tok _, ⟨_, rfl⟩, q⟩
end
end L2
set_option Elab.async false
set_option linter.all false
set_option maxRecDepth 100000
namespace Ev
open PySem L2
def fltR (ts : List (Str × Str)) (ps : List Pc) (f : Str -> Str) : Option Mv -> Option Str
 | none => some "form"
 | some m => if m.1 ∈ ps.map (·.1) then (if f m.1 = m.2.1 then rsn ts (wayOf ps m.1) m.2.1 m.2.2 else some "place") else some "piece"
theorem tiedB_all {hs : List (Str × Int)} {ts : List (Str × Str)} (G : Good hs ts) (a b : Str) : tiedB hs ts (some a) (some b) = tieB ts a b := by
 by_cases ha : a ∈ hs.map (·.1)
 ·by_cases hb : b ∈ hs.map (·.1)
  ·exact tiedB_eq ha hb
  ·rw [tiedB_some, decide_eq_false hb]
   have : tieB ts a b = false := by
    unfold tieB
    rw [Bool.or_eq_false_iff]
    exact ⟨decide_eq_false fun m => hb (G.tin _ m).2, decide_eq_false fun m => hb (G.tin _ m).1⟩
   rw [this]
   simp
 ·rw [tiedB_some, decide_eq_false ha]
  have : tieB ts a b = false := by
   unfold tieB
   rw [Bool.or_eq_false_iff]
   exact ⟨decide_eq_false fun m => ha (G.tin _ m).1, decide_eq_false fun m => ha (G.tin _ m).2⟩
  rw [this]
  simp
theorem fltG_all {hs : List (Str × Int)} {ts : List (Str × Str)} {ps qs : List Pc} (S : Sure hs ts ps qs) (f : Str -> Str) : ∀ m : Option Mv, fltG hs ts qs f m = fltR ts ps f m
 | none => rfl
 | some m => by
  unfold fltG fltR
  dsimp only
  by_cases hm : m.1 ∈ ps.map (·.1)
  ·rw [if_pos hm]
   obtain ⟨p, hp, e⟩ := List.mem_map.mp hm
   have e : p.1 = m.1 := e
   have e2 := pcOf_eq S.Q S.nd hp
   rw [e] at e2
   have w2 := wayOf_eq S.nd hp
   rw [e] at w2
   rw [e2, w2, rsn_due, tiedB_all S.Gd]
   show (if f m.1 = m.2.1 then (if tieB ts m.2.1 m.2.2 = false then some ("tie" : Str) else if goB hs ts (p.2.2.map tsOf) (some m.2.1) (some m.2.2) = false then some ("ways" : Str) else none) else some ("place" : Str)) = _
   have : goB hs ts (p.2.2.map tsOf) (some m.2.1) (some m.2.2) = dueB ts p.2.2 m.2.1 m.2.2 := by
    unfold goB dueB
    rw [tiedB_all S.Gd]
    cases p.2.2 with
    | none => rfl
    | some ws =>
     show (tieB ts m.2.1 m.2.2 && decide (ord2 m.2.1 m.2.2 ∈ tsOf ws)) = _
     rw [tieB_eq]
   rw [this]
  ·rw [if_neg hm]
   have : pcOf qs m.1 = none := by
    cases e : pcOf qs m.1 with
    | none => rfl
    | some q =>
     obtain ⟨h1, h2⟩ := pcOf_some e
     have : m.1 ∈ qs.map (·.1) := List.mem_map.mpr ⟨q, h1, h2⟩
     rw [S.Q.nms] at this
     exact absurd ((sortS_perm _).mem_iff.mp this) hm
   rw [this]
def jgR (ts : List (Str × Str)) (ps : List Pc) : Nat -> (Str -> Str) -> List (Option Mv) -> (Nat × Str) ⊕ (Str -> Str)
 | _, f, [] => .inr f
 | k, f, m :: ms => match fltR ts ps f m with
  | some r => .inl (k, r)
  | none => jgR ts ps (k + 1) (putO f m) ms
theorem jgG_all {hs : List (Str × Int)} {ts : List (Str × Str)} {ps qs : List Pc} (S : Sure hs ts ps qs) : ∀ (ms : List (Option Mv)) (k : Nat) (f : Str -> Str), jgG hs ts qs k f ms = jgR ts ps k f ms
 | [], _, _ => rfl
 | m :: ms, k, f => by
  unfold jgG jgR
  rw [fltG_all S]
  cases fltR ts ps f m with
  | some r => rfl
  | none => exact jgG_all S ms _ _
theorem jgR_drop {ts : List (Str × Str)} {ps : List Pc} {ms : List (Option Mv)} {i : Nat} {m : Option Mv} {f : Str -> Str} (h : ms[i]? = some m) : jgR ts ps i f (ms.drop i) = match fltR ts ps f m with
  | some r => .inl (i, r)
  | none => jgR ts ps (i + 1) (putO f m) (ms.drop (i + 1)) := by
 have hi := (List.getElem?_eq_some_iff.mp h).1
 have e : ms[i] = m := (List.getElem?_eq_some_iff.mp h).2
 rw [List.drop_eq_getElem_cons hi, e]
 rfl
theorem nin2 {K : PySem.W.Frag} {ts : List (Str × Str)} {a b : Str} {lt : Addr} {yt : List V} {σ : St} {H : Hp} {Q : Bool -> Hp -> Prop} {i j : Nat} {tk : TE} (hi : σ[i]? = some (some (.str a))) (hj : σ[j]? = some (some (.str b))) (hk : ∀ (H' : Hp) (Kq : VK), Same H H' -> Kq (.ref lt) H' -> tk σ H' Kq) (hl : H lt = some (.lst yt)) (tt : TupsAt K H yt (ts.map kT))
  (q : ∀ H', Same H H' -> Q (!tieB ts a b) H') : tAnd (tTest (tOp (rInD K (r2 K rS rS) true) (tTup (tCons (tVar i) (tCons (tVar j) tNil))) tk)) (tTest (tOp (rInD K (r2 K rS rS) true) (tTup (tCons (tVar j) (tCons (tVar i) tNil))) tk)) σ H Q := by
 refine ⟨_, hi, _, hj, by show 2 <= sizeLine; decide, fun t1 ht1 => ?_⟩
 have s1 := Same.new (o := .tup [.str a, .str b]) ht1
 refine hk _ _ s1 ⟨(a, b), ts, ⟨t1, _, _, rfl, .of upd_same, rfl, rfl⟩, ⟨lt, yt, rfl, .of (s1 _ _ hl), reps_of (tt.same s1)⟩, _, rfl, ?_⟩
 rw [if_pos rfl]
 refine ite2 (fun c => ?_) (fun c => ?_)
 ·have c : ¬ (a, b) ∈ ts := by simpa using c
  refine ⟨_, hj, _, hi, by show 2 <= sizeLine; decide, fun t2 ht2 => ?_⟩
  have s2 := Same.new (o := .tup [.str b, .str a]) ht2
  have s12 := s1.trans s2
  refine hk _ _ s12 ⟨(b, a), ts, ⟨t2, _, _, rfl, .of upd_same, rfl, rfl⟩, ⟨lt, yt, rfl, .of (s12 _ _ hl), reps_of (tt.same s12)⟩, _, rfl, ?_⟩
  have := q _ s12
  unfold tieB at this
  rw [decide_eq_false c, Bool.false_or] at this
  rw [if_pos rfl]
  by_cases hm : (b, a) ∈ ts
  ·simpa [hm] using this
  ·simpa [hm] using this
 ·have c : (a, b) ∈ ts := by simpa using c
  have := q _ s1
  unfold tieB at this
  rw [decide_eq_true c, Bool.true_or] at this
  exact this
section
variable {P : Program} {w : World} {K : PySem.W.Frag} {mg : Str -> Option Value} {base : Heap}
theorem scReason : FnScope ["_law_ties", "_law_ways_here", "_law_later", "_law_move_here", "_law_name", "_law_one", "_law_other"] ["_law_ties", "_law_ways_here", "_law_later", "_law_move_here"] (defScope sReason) := ⟨rfl, rfl, rfl, by decide +kernel, rfl, by decide +kernel, by decide +kernel⟩
def spReason (K : PySem.W.Frag) : Sp := fun vs H Q _ => ∃ (lt dw dl : Addr) (v : V) (yt : List V) (ts : List (Str × Str)) (ps : List Pc) (gv : Str -> V) (f : Str -> Str) (t : Option Mv), vs = [.ref lt, .ref dw, .ref dl, v] /\ H lt = some (.lst yt) /\ TupsAt K H yt (ts.map kT) /\ H dw = some (.dK (mKV (ps.map (·.1)) gv)) /\ (∀ n ∈ ps.map (·.1), WyAt K H (gv n) (wayOf ps n)) /\ H dl = some (.dK (stF (ps.map (·.1)) f)) /\ ThAt H v t /\
 ∀ H', Same H H' -> Q (oV (fltR ts ps f t)) H'
set_option maxHeartbeats 800000 in
theorem ok_reason {f : Addr} {fd : FuncData} (F : Fun K "_law_reason" "_law_reason" sReason f fd) (B : Bi mg) : FnOk P w K mg base CX0 1 f fd ["_law_ties", "_law_ways_here", "_law_later", "_law_move_here"] (spReason K) := by
 refine F.ok scReason (fun vs H Q E h => ?_) (fun cdv A outer s H vs Q E hr h => ?_)
 ·obtain ⟨lt, dw, dl, v, yt, ts, ps, gv, f, t, rfl, _⟩ := h
  rfl
 ·obtain ⟨lt, dw, dl, v, yt, ts, ps, gv, f, t, rfl, hlt, tt, hdw, wy, hdl, th, k⟩ := h
  have hu := hu_of hr
  have sz := sizeLine_eq
  refine' ⟨_, ?r0, ?kk⟩
  case' r0 => refine' pss_cons ?s1 ?r1
  case' s1 => refine' ps_if (PW.pt (pw_or ?c1 (pw_or ?c2 (pw_or1 (pt_not (pt_val ?c3)))))) (pss_one (ps_ret pe_str)) pss_nil
  case c1 => exact pt_not (pt_val (pe_callB call_isi (by rfl) B.isi PyProof.Rows.Boot.«isinstance» (pa_cons (pv 3) (pa_cons (pe_bltn (v := .ty "tuple") (by rfl) B.tuple PyProof.Rows.Boot.«tuple» rfl) pa_nil))))
  case c2 => exact pt_cmpR op_ne (pe_callB call_len_seq (by rfl) B.len PySem.boot_len (pa_cons (pv 3) pa_nil)) pe_int (nomark _)
  case c3 => exact pe_callB (call_all rfl) (by rfl) B.all PyProof.Rows.Boot.«all» (pa_cons (pe_comp ["_law_part"] 1 [] (pi_tup (pv 3)) (fun fp s H => pg_name (i := 0) (show (["_law_part"] : List Str).Nodup by decide +kernel) rfl (Or.inl rfl)) (fun fp s H => pts_nil) (fun fp s H => pe_callB (callK (K := K) rIsi call_isi) (by rfl) B.isi PyProof.Rows.Boot.«isinstance» (pa_cons (pv 0) (pa_cons (pe_bltn (v := .ty "str") (by rfl) B.str PyProof.Rows.Boot.«str» rfl) pa_nil)))) pa_nil)
  case' r1 => refine' pss_cons ?s2 ?r2
  case s2 => exact ps_asg (pv 3) (pg_tup rfl (pgs_cons (pg_name (i := 4) scReason.nd rfl (Or.inl rfl)) (pgs_cons (pg_name (i := 5) scReason.nd rfl (Or.inl rfl)) (pgs_cons (pg_name (i := 6) scReason.nd rfl (Or.inl rfl)) pgs_nil))))
  case' r2 => refine' pss_cons ?s3 ?r3
  case s3 => exact ps_if (pt_cmp (pc_dnotin hu (pv 4) (pv 1))) (pss_one (ps_ret pe_str)) pss_nil
  case' r3 => refine' pss_cons ?s4 ?r4
  case s4 => exact ps_if (pt_cmpR op_ne (pe_dget hu (pv 2) (pv 4) (fun _ _ => rfl)) (pv 5) (nomark _)) (pss_one (ps_ret pe_str)) pss_nil
  case' r4 => refine' pss_cons ?s5 (pss_cons ?s6 (pss_one ?s7))
  case s5 => exact ps_if (pw_and (pt_cmpR (opK (K := K) (fun K => rInD K (r2 K rS rS) true) (op_notInD (cmp2 cmpS cmpS) (roomU hr _))) (pe_tup (pa_cons (pv 5) (pa_cons (pv 6) pa_nil))) (pv 0) (by with_unfolding_all rfl)) (pw_and1 (pt_cmpR (opK (K := K) (fun K => rInD K (r2 K rS rS) true) (op_notInD (cmp2 cmpS cmpS) (roomU hr _))) (pe_tup (pa_cons (pv 6) (pa_cons (pv 5) pa_nil))) (pv 0) (by with_unfolding_all rfl)))).pt (pss_one (ps_ret pe_str)) pss_nil
  case s6 => exact ps_if (pw_and (pt_cmp (pc_notN (pe_dget hu (pv 1) (pv 4) (fun _ _ => rfl)))) (pw_and (pt_cmpR (opK (K := K) (fun K => rInD K (r2 K rS rS) true) (op_notInD (cmp2 cmpS cmpS) (roomU hr _))) (pe_tup (pa_cons (pv 5) (pa_cons (pv 6) pa_nil))) (pe_dget hu (pv 1) (pv 4) (fun _ _ => rfl)) (by with_unfolding_all rfl)) (pw_and1 (pt_cmpR (opK (K := K) (fun K => rInD K (r2 K rS rS) true) (op_notInD (cmp2 cmpS cmpS) (roomU hr _))) (pe_tup (pa_cons (pv 6) (pa_cons (pv 5) pa_nil))) (pe_dget hu (pv 1) (pv 4) (fun _ _ => rfl)) (by with_unfolding_all rfl))))).pt (pss_one (ps_ret pe_str)) pss_nil
  case s7 => exact ps_ret pe_non
  case' kk => skip
  have tri : (∃ (p : Addr) (xs : List V), v = .ref p /\ H p = some (.tup xs) /\ xs.length = 3 /\ (∀ x ∈ xs, flat3 x = true) /\ t.isSome = xs.all isS) ∨ (∃ (p : Addr) (xs : List V), v = .ref p /\ H p = some (.tup xs) /\ (xs.length : Int) ≠ 3 /\ t.isSome = false) ∨ ∃ ty, TyOf K H v ty /\ PySem.W.kitOne K ty (.type "tuple") = some false /\ t.isSome = false := by
   cases t with
   | some m =>
    obtain ⟨a, e, h⟩ := th
    exact .inl ⟨a, _, e, h, rfl, fun x hx => by simp at hx; rcases hx with rfl | rfl | rfl <;> rfl, rfl⟩
   | none =>
    rcases th with rfl | ⟨n, rfl⟩ | ⟨x, rfl⟩ | ⟨a, xs, rfl, h⟩ | ⟨a, xs, e, h, h3 | ⟨h3, fl, ns⟩⟩
    ·exact .inr (.inr ⟨_, .non, rfl, rfl⟩)
    ·exact .inr (.inr ⟨_, .int n, rfl, rfl⟩)
    ·exact .inr (.inr ⟨_, .str x, rfl, rfl⟩)
    ·exact .inr (.inr ⟨_, .lst h, rfl, rfl⟩)
    ·exact .inr (.inl ⟨a, xs, e, h, h3, rfl⟩)
    ·exact .inl ⟨a, xs, e, h, h3, fl, ns.symm⟩
  have form : t.isSome = false -> ∀ H', Same H H' -> Q (.str "form") H' := fun e => by
   cases t with
   | none => exact k
   | some m => cases e
  refine seqG (fun σ H' => σ = start ["_law_ties", "_law_ways_here", "_law_later", "_law_move_here", "_law_name", "_law_one", "_law_other"] [.ref lt, .ref dw, .ref dl, v] /\ Same H H' /\ t.isSome = true) ?later ?now
  case now =>
   intro N hN
   rcases tri with ⟨p, xs, rfl, hp, h3, fl, et⟩ | ⟨p, xs, rfl, hp, h3, et⟩ | ⟨ty, tv, ek, et⟩
   ·refine ⟨_, rfl, _, _, _, _, rfl, .tup hp, rfl, _, rfl, iteF ?_⟩
    refine ⟨_, rfl, p, _, rfl, .inr (.of hp), rfl, _, rfl, ?_⟩
    refine iteNS (show V.int (xs.length : Int) = V.int 3 by rw [h3]; rfl) ?_
    refine ⟨_, rfl, p, rfl, ⟨_, .of hp⟩, fun D hD => ?_⟩
    refine comp_tup (own := 1) (fv := []) (xs := xs) rfl gok1 (fun i out H' => Same H H' /\ H' D = some (.lst (((xs.take i).map isS).map V.bl))) ⟨Same.new hD, upd_same⟩ (fun i out H' _ ⟨sm, _⟩ => .of (sm _ _ hp)) (fun out H5 ⟨sm, hD5⟩ => ?_) (fun i y out H' hy ⟨sm, hD'⟩ => ?_)
    ·rw [List.take_length] at hD5
     refine ⟨D, _, rfl, .of hD5, _, rfl, ?_⟩
     have e : (xs.map isS).all id = xs.all isS := by rw [List.all_map]; rfl
     show if (!((xs.map isS).all id)) = true then _ else _
     rw [e, <- et]
     cases z : t.isSome with
     | true => exact iteF (hN _ _ ⟨rfl, sm, z⟩)
     | false => exact iteT (form z _ sm)
    ·have hi : i < xs.length := (List.getElem?_eq_some_iff.mp hy).1
     have fy := fl y (List.mem_of_getElem? hy)
     refine ⟨_, rfl, rfl, fun Nx hN => yesT ?_⟩
     have fin : ∀ (b : Bool), isS y = b -> ∃ out2, H' D = some (.lst out2) /\ out2.length < sizeLine /\ Nx (upd H' D (.lst (out2 ++ [V.bl b]))) := fun b eb => by
      refine ⟨_, hD', by rw [List.length_map, List.length_map, List.length_take]; omega, hN [] _ ⟨same_but sm hD, ?_⟩⟩
      rw [upd_same, List.take_add_one, hy, List.map_append, List.map_append]
      show _ = some (HO.lst (_ ++ [V.bl (isS y)]))
      rw [eb]
     cases y with
     | str x => exact ⟨_, rfl, _, _, _, _, rfl, .str x, rfl, fin true rfl⟩
     | int n => exact ⟨_, rfl, _, _, _, _, rfl, .int n, rfl, fin false rfl⟩
     | non => exact ⟨_, rfl, _, _, _, _, rfl, .non, rfl, fin false rfl⟩
     | _ => cases fy
   ·refine ⟨_, rfl, _, _, _, _, rfl, .tup hp, rfl, _, rfl, iteF ?_⟩
    refine ⟨_, rfl, p, _, rfl, .inr (.of hp), rfl, _, rfl, ?_⟩
    have : decide (V.int (xs.length : Int) = V.int 3) = false := decide_eq_false fun z => h3 (V.int.inj z)
    rw [this]
    exact iteT (form et H (Same.refl H))
   ·exact ⟨_, rfl, _, _, _, _, rfl, tv, ek, _, rfl, iteT (iteT (form et H (Same.refl H)))⟩
  case later =>
  rintro _ H1 ⟨rfl, s1, et⟩
  cases t with
  | none => cases et
  | some m =>
  clear tri form
  obtain ⟨p, rfl, hp⟩ := th
  refine ⟨_, rfl, p, _, rfl, .of (s1 _ _ hp), rfl, _, _, rfl, _, _, rfl, _, _, rfl, rfl, ?_⟩
  have hdw1 := s1 _ _ hdw
  have hdl1 := s1 _ _ hdl
  have k : ∀ H', Same H H' -> Q (oV (if m.1 ∈ ps.map (·.1) then (if f m.1 = m.2.1 then rsn ts (wayOf ps m.1) m.2.1 m.2.2 else some ("place" : Str)) else some ("piece" : Str))) H' := k
  refine ⟨_, rfl, _, rfl, dw, _, rfl, .k (k := Sum.inr m.1) hdw1, _, rfl, ?_⟩
  by_cases hm : m.1 ∈ ps.map (·.1)
  rotate_left 1
  ·rw [if_neg hm] at k
   have e : valV (mKV (ps.map (·.1)) gv) (Sum.inr m.1) = none := valV_none_of (by
    rw [mKV_keys]
    intro q
    obtain ⟨y, hy, e⟩ := List.mem_map.mp q
    exact hm (Sum.inr.inj e ▸ hy))
   rw [e]
   exact iteT (k H1 s1)
  rw [if_pos hm] at k
  rw [mKV_get hm]
  refine iteF ?_
  refine ⟨_, rfl, _, rfl, dl, .str (f m.1), rfl, ?_, _, rfl, rfl, _, rfl, ?_⟩
  ·rw [<- mKV_get (g := fun n => V.str (f n)) hm]
   exact .k (k := Sum.inr m.1) hdl1
  have e : decide (V.str (f m.1) = V.str m.2.1) = decide (f m.1 = m.2.1) := by
   by_cases z : f m.1 = m.2.1
   ·simp [z]
   ·simp [z]
  rw [e]
  by_cases z : f m.1 = m.2.1
  rotate_left 1
  ·rw [decide_eq_false z]
   rw [if_neg z] at k
   exact iteT (k H1 s1)
  rw [decide_eq_true z]
  rw [if_pos z] at k
  refine iteF ?_
  refine nin2 (ts := ts) (a := m.2.1) (b := m.2.2) (lt := lt) rfl rfl (fun H' Kq s q => ⟨_, rfl, q⟩) (s1 _ _ hlt) (tt.same s1) fun H2 s2 => ?_
  have s12 := s1.trans s2
  unfold rsn at k
  cases tb : tieB ts m.2.1 m.2.2 with
  | false =>
   rw [tb] at k
   exact iteT (k H2 s12)
  | true =>
   rw [tb] at k
   refine iteF ?_
   have g2 : ∀ (H' : Hp), Same H H' -> DGet H' dw (.str m.1) (some (gv m.1)) := fun H' s => by
    rw [<- mKV_get (g := gv) hm]
    exact .k (k := Sum.inr m.1) (s _ _ hdw)
   have w0 := wy m.1 hm
   cases o : wayOf ps m.1 with
   | none =>
    rw [o] at w0 k
    have w0 : gv m.1 = .non := w0
    exact ⟨_, rfl, _, rfl, dw, _, rfl, g2 _ s12, _, rfl, by rw [w0]; exact iteF (iteF (k H2 s12))⟩
   | some ws =>
    rw [o] at w0 k
    obtain ⟨lw, yw, ew, hw, tw⟩ := w0
    refine ⟨_, rfl, _, rfl, dw, _, rfl, g2 _ s12, _, rfl, ?_⟩
    rw [ew]
    refine iteT ?_
    refine nin2 (ts := ws) (a := m.2.1) (b := m.2.2) (lt := lw) rfl rfl (fun H' Kq s q => ⟨_, rfl, _, rfl, dw, _, rfl, g2 _ (s12.trans s), by rw [ew]; exact q⟩) (s12 _ _ hw) (tw.same s12) fun H3 s3 => ?_
    have k : ∀ H', Same H H' -> Q (oV (if tieB ws m.2.1 m.2.2 = false then some ("ways" : Str) else none)) H' := k
    cases tb2 : tieB ws m.2.1 m.2.2 with
    | false =>
     rw [tb2] at k
     exact iteT (k H3 (s12.trans s3))
    | true =>
     rw [tb2] at k
     exact iteF (k H3 (s12.trans s3))
end
end Ev
set_option Elab.async false
set_option linter.all false
set_option maxRecDepth 100000
namespace Ev
open PySem L2
def PcF (K : PySem.W.Frag) (H : Hp) (gv : Str -> V) (y : V) (p : Pc) : Prop := ∃ t, y = .ref t /\ H t = some (.tup [.str p.1, .int p.2.1, gv p.1]) /\ WyAt K H (gv p.1) p.2.2
theorem pcs_fn {K : PySem.W.Frag} {H : Hp} : ∀ {yp : List V} {ps : List Pc}, PcsAt K H yp ps -> (ps.map (·.1)).Nodup -> ∃ gv, Paired (PcF K H gv) yp ps
 | _, _, .nil, _ => ⟨fun _ => .non, .nil⟩
 | _, _, .cons (a := y) (b := p) (l₂ := ps) h t, nd => by
  rw [List.map_cons, List.nodup_cons] at nd
  obtain ⟨gv, q⟩ := pcs_fn t nd.2
  obtain ⟨a, v, e, h1, h2⟩ := h
  refine ⟨fun n => if n = p.1 then v else gv n, .cons ⟨a, e, ?_, ?_⟩ ?_⟩
  ·simpa using h1
  ·simpa using h2
  ·have : ∀ {l : List V} {m : List Pc}, Paired (PcF K H gv) l m -> (∀ x ∈ m, ¬ x.1 = p.1) -> Paired (PcF K H fun n => if n = p.1 then v else gv n) l m := fun {l m} q => by
    induction q with
    | nil => intro _; exact .nil
    | cons h _ ih =>
     intro hn
     refine .cons ?_ (ih fun x hx => hn x (List.mem_cons_of_mem _ hx))
     have z := hn _ List.mem_cons_self
     obtain ⟨t, e1, e2, e3⟩ := h
     refine ⟨t, e1, ?_, ?_⟩
     ·simpa [z] using e2
     ·simpa [z] using e3
   exact this q fun x hx z => nd.1 (List.mem_map.mpr ⟨x, hx, z⟩)
theorem WyAt.butD {K : PySem.W.Frag} {H H' : Hp} {d : Addr} {kvs : List (Key × V)} {v : V} {o : Option (List (Str × Str))} (h : WyAt K H v o) (b : But d H H') (hd : H d = some (.dK kvs)) : WyAt K H' v o := by
 cases o with
 | none => exact h
 | some ws =>
  obtain ⟨a, ys, e, h1, h2⟩ := h
  exact ⟨a, ys, e, b _ _ h1 (ne_of h1 hd (by intro z; cases z)), Paired.mapP h2 fun y k ⟨c, z, q⟩ => ⟨c, z, b _ _ q (ne_of q hd (by intro z; cases z))⟩⟩
section
variable {P : Program} {w : World} {K : PySem.W.Frag} {mg : Str -> Option Value} {base : Heap}
theorem scWalked : FnScope ["_law_ties", "_law_pieces_here", "_law_stand_here", "_law_row", "_law_later", "_law_ways_here", "_law_k", "_law_reason_here"] ["_law_ties", "_law_pieces_here", "_law_stand_here", "_law_row"] (defScope sWalked) := ⟨rfl, rfl, rfl, by decide +kernel, rfl, by decide +kernel, by decide +kernel⟩
def spWalked (K : PySem.W.Frag) : Sp := fun vs H Q _ => ∃ (lt lp d lm : Addr) (yt yp ys : List V) (ts : List (Str × Str)) (ps : List Pc) (f : Str -> Str) (ms : List (Option Mv)), vs = [.ref lt, .ref lp, .ref d, .ref lm] /\ H lt = some (.lst yt) /\ TupsAt K H yt (ts.map kT) /\ H lp = some (.lst yp) /\ PcsAt K H yp ps /\ (ps.map (·.1)).Nodup /\ ps.length <= 30 /\ H d = some (.dK (stF (ps.map (·.1)) f)) /\ RowG H lm ys ms /\ ys.length <= 1000 /\
 ∀ t H', Same H H' -> H t = none -> AnsAt H H' (ps.map (·.1)) t (jgR ts ps 0 f ms) -> Q (.ref t) H'
theorem ok_walked {f : Addr} {fd : FuncData} (F : Fun K "_law_walked" "_law_walked" sWalked f fd) (B : Bi mg) (cM : Cal P w K mg base 1 "_law_reason" ["_law_ties", "_law_ways_here", "_law_later", "_law_move_here"] (spReason K)) : FnOk P w K mg base CX0 2 f fd ["_law_ties", "_law_pieces_here", "_law_stand_here", "_law_row"] (spWalked K) := by
 refine F.ok scWalked (fun vs H Q E h => ?_) (fun cdv A outer s H vs Q E hr h => ?_)
 ·obtain ⟨lt, lp, d, lm, yt, yp, ys, ts, ps, f, ms, rfl, _⟩ := h
  rfl
 ·obtain ⟨lt, lp, d, lm, yt, yp, ys, ts, ps, f, ms, rfl, hlt, tt, hlp, pc, nd, h30, hd, R0, h1000, k⟩ := h
  have hu := hu_of hr
  have sz := sizeLine_eq
  refine' ⟨_, ?r0, ?kk⟩
  case' r0 => refine' pss_cons ?s1 (pss_cons ?s2 (pss_cons ?s3 (pss_one ?s4)))
  case s1 => exact ps_set (i := 4) scWalked.nd rfl (Or.inl rfl) (pe_callTy call_dictD (by rfl) B.dict PyProof.Rows.Boot.«dict» (pa_cons (pv 2) pa_nil))
  case s2 => exact ps_set (i := 5) scWalked.nd rfl (Or.inl rfl) (pe_callTy (call_dictOf rfl) (by rfl) B.dict PyProof.Rows.Boot.«dict» (pa_cons (pe_comp ["_law_piece"] 1 [] (pi_list (pv 1)) (fun fp s H => pg_name (i := 0) (show (["_law_piece"] : List Str).Nodup by decide +kernel) rfl (Or.inl rfl)) (fun fp s H => pts_nil) (fun fp s H => pe_tup (pa_cons (pe_ix (ixK (K := K) rIxT ix_tup) (pv 0) pe_int (fun _ _ => rfl)) (pa_cons (pe_ix (ixK (K := K) rIxT ix_tup) (pv 0) pe_int (fun _ _ => rfl)) pa_nil)))) pa_nil))
  case' s3 => refine' ps_for PassesOwn.never rfl (pi_range1 (by rfl) B.range (pa_cons (pe_callB call_len_seq (by rfl) B.len PySem.boot_len (pa_cons (pv 3) pa_nil)) pa_nil)) (pg_name (i := 6) scWalked.nd rfl (Or.inl rfl)) ?b3
  case' b3 => refine' pss_cons ?t1 (pss_cons ?t2 (pss_one ?t3))
  case t1 => exact ps_set (i := 7) scWalked.nd rfl (Or.inl rfl) (pe_fn cM hr (pa_cons (pv 0) (pa_cons (pv 5) (pa_cons (pv 4) (pa_cons (pe_ix ix_list (pv 3) (pv 6) (fun _ _ => rfl)) pa_nil)))))
  case t2 => exact ps_if (pt_cmp (pc_notN (pv 7))) (pss_one (ps_ret (pe_tup (pa_cons pe_str (pa_cons (pv 6) (pa_cons (pv 7) pa_nil)))))) pss_nil
  case t3 => exact ps_dput hu (pv 4) (pe_ix ix_tup (pe_ix ix_list (pv 3) (pv 6) (fun _ _ => rfl)) pe_int (fun _ _ => rfl)) (pe_ix ix_tup (pe_ix ix_list (pv 3) (pv 6) (fun _ _ => rfl)) pe_int (fun _ _ => rfl)) rfl
  case s4 => exact ps_ret (pe_tup (pa_cons pe_str (pa_cons (pv 4) pa_nil)))
  case' kk => skip
  obtain ⟨gv, pf⟩ := pcs_fn pc nd
  have lyp := Paired.length pc
  have lys := Paired.length R0.tu
  refine ⟨_, rfl, d, _, rfl, .inl hd, fun dl hdl => ?_⟩
  have s1 := Same.new (o := .dK (stF (ps.map (·.1)) f)) hdl
  have e1 : upd H dl (.dK (stF (ps.map (·.1)) f)) dl = some (.dK (stF (ps.map (·.1)) f)) := upd_same
  show tSeq _ _ _ _ (upd H dl (.dK (stF (ps.map (·.1)) f)))
  generalize upd H dl (.dK (stF (ps.map (·.1)) f)) = H1 at s1 e1 ⊢
  refine ⟨_, rfl, lp, rfl, ⟨_, .of (s1 _ _ hlp)⟩, fun D hD => ?_⟩
  refine comp_list (own := 1) (fv := []) (xs := yp) rfl gok1 (fun i out H' => Same H1 H' /\ H' D = some (.lst out) /\ PairsAt K H' out (mKV ((ps.map (·.1)).take i) gv)) ⟨Same.new hD, upd_same, .nil⟩ (fun i out H' _ ⟨sm, _, _⟩ => .of (sm _ _ (s1 _ _ hlp))) (fun out H2 ⟨s2, hD2, pa⟩ => ?_) (fun i y out H' hy ⟨sm, hD', pa⟩ => ?_)
  rotate_left 1
  ·obtain ⟨q, hq, t, rfl, ht, _⟩ := paired_at pf hy
   have hi : i < yp.length := (List.getElem?_eq_some_iff.mp hy).1
   have hn : (ps.map (·.1))[i]? = some q.1 := by rw [List.getElem?_map, hq]; rfl
   have ht2 := sm _ _ (s1 _ _ ht)
   refine ⟨_, rfl, rfl, fun Nx hN => yesT ?_⟩
   refine ⟨_, rfl, t, _, 0, _, rfl, rfl, .of ht2, rfl, _, rfl, t, _, 2, _, rfl, rfl, .of ht2, rfl, by show 2 <= sizeLine; decide, fun t2 ht2 => ?_⟩
   have s5 := Same.new (o := .tup [.str q.1, gv q.1]) ht2
   have lo := Paired.length pa
   rw [mKV_len, List.length_take, List.length_map] at lo
   refine ⟨out, s5 _ _ hD', by omega, hN _ _ ⟨same_but (sm.trans s5) hD, upd_same, ?_⟩⟩
   have ht5 : upd H' t2 (.tup [.str q.1, gv q.1]) t2 = some (.tup [.str q.1, gv q.1]) := upd_same
   have pD : ∀ {b : Addr} {ys : List V}, upd H' t2 (.tup [.str q.1, gv q.1]) b = some (.tup ys) -> b ≠ D := fun hb => ne_of hb (s5 _ _ hD') (by intro z; cases z)
   rw [take_at hn]
   show PairsAt K _ _ (((ps.map (·.1)).take i ++ [q.1]).map _)
   rw [List.map_append]
   exact paired_app (Paired.mapP pa fun y kv ⟨b, z, hb⟩ => ⟨b, z, by rw [upd_ne (pD (s5 _ _ hb))]; exact s5 _ _ hb⟩) (.cons ⟨t2, rfl, by rw [upd_ne (pD ht5)]; exact ht5⟩ .nil)
  rw [lyp, <- List.length_map (f := fun q : Pc => q.1), List.take_length] at pa
  refine ⟨D, out, _, rfl, hD2, pa, by rw [mKV_len, List.length_map]; omega, fun dw hdw => ?_⟩
  have ndk : ((mKV (ps.map (·.1)) gv).map (·.1)).Nodup := by
   rw [mKV_keys, List.nodup_iff_pairwise_ne, List.pairwise_map]
   exact nd.imp fun n e => n (Sum.inr.inj e)
  rw [mergeK_nil ndk]
  have s3 := s2.trans (Same.new (o := .dK (mKV (ps.map (·.1)) gv)) hdw)
  have ew : upd H2 dw (.dK (mKV (ps.map (·.1)) gv)) dw = some (.dK (mKV (ps.map (·.1)) gv)) := upd_same
  show tSeq _ _ _ _ (upd H2 dw (.dK (mKV (ps.map (·.1)) gv)))
  have dwl : dw ≠ dl := (ne_of_none (s2 _ _ e1) hdw).symm
  generalize upd H2 dw (.dK (mKV (ps.map (·.1)) gv)) = H3 at s3 ew ⊢
  have e3 := s3 _ _ e1
  have s03 := s1.trans s3
  have hlm3 := s03 _ _ R0.hl
  have tu3 : Paired (ThAt H3) ys ms := Paired.mapP R0.tu fun _ _ q => q.same s03
  have hlt3 := s03 _ _ hlt
  have tt3 := tt.same s03
  have lmd : lm ≠ dl := ne_of_none R0.hl hdl
  have ltd : lt ≠ dl := ne_of_none hlt hdl
  have way3 : ∀ n ∈ ps.map (·.1), WyAt K H3 (gv n) (wayOf ps n) := fun n hn => by
   obtain ⟨p0, hp0, ep⟩ := List.mem_map.mp hn
   obtain ⟨j, hj⟩ := List.getElem?_of_mem hp0
   have hjy : j < yp.length := by
    have := (List.getElem?_eq_some_iff.mp hj).1
    omega
   obtain ⟨q, hq, _, _, _, wy⟩ := paired_at pf (List.getElem?_eq_getElem hjy)
   rw [hj] at hq
   cases hq
   rw [<- ep, wayOf_eq nd hp0]
   exact wy.same s03
  refine ⟨_, rfl, lm, _, rfl, .inl (.of hlm3), _, rfl, by omega, by omega, ?_⟩
  refine for_range (lo := 0) (fun i σ H' => ∃ (v6 v7 : Option V) (f' : Str -> Str), σ = [some (.ref lt), some (.ref lp), some (.ref d), some (.ref lm), some (.ref dl), some (.ref dw), v6, v7] /\ But dl H3 H' /\ H' dl = some (.dK (stF (ps.map (·.1)) f')) /\ jgR ts ps 0 f ms = jgR ts ps i f' (ms.drop i)) ⟨none, none, f, rfl, But.refl _ _, e3, rfl⟩ ?_ ?_
  ·rintro i σ H4 hi ⟨v6, v7, f', rfl, b4, e4, ej⟩
   have hiy : i < ys.length := by omega
   have hy : ys[i]? = some (ys[i]'hiy) := List.getElem?_eq_getElem hiy
   obtain ⟨m, hm, th⟩ := paired_at tu3 hy
   have th4 := th.butD b4 e3
   rw [jgR_drop hm] at ej
   have at4 : ∀ {H' : Hp}, H' lm = some (.lst ys) -> atI ys ((0 : Int) + (i : Int)) = some (ys[i]'hiy) := fun _ => by rw [atI_nat (by omega) (by omega), show ((0 : Int) + (i : Int)).toNat = i by omega, hy]
   have hlm4 := b4 _ _ hlm3 lmd
   refine ⟨_, rfl, _, rfl, _, rfl, _, rfl, _, rfl, lm, _, _, _, rfl, rfl, .of hlm4, at4 hlm4, ?_⟩
   refine ⟨lt, dw, dl, _, yt, ts, ps, gv, f', m, rfl, b4 _ _ hlt3 ltd, Paired.mapP tt3 fun y k ⟨c, z, q⟩ => ⟨c, z, b4 _ _ q (ne_of q e3 (by intro z; cases z))⟩, b4 _ _ ew dwl, fun n hn => (way3 n hn).butD b4 e3, e4, th4, fun H5 s5 => ?_⟩
   have st4 : Same H H4 := fun b o e => b4 b o (s03 _ _ e) (ne_of_none e hdl)
   have b5 := b4.trans (But.of s5)
   have e5 := s5 _ _ e4
   cases fl : fltR ts ps f' m with
   | some r =>
    rw [fl] at ej
    refine ⟨_, rfl, _, rfl, iteT ?_⟩
    refine ⟨_, rfl, _, rfl, by show 3 <= sizeLine; decide, fun t2 ht2 => ?_⟩
    refine k t2 _ ((st4.trans s5).trans (Same.new ht2)) ((st4.trans s5).free ht2) ?_
    rw [ej]
    show upd H5 t2 _ t2 = _
    rw [upd_same]
    simp [oV]
   | none =>
    rw [fl] at ej
    refine ⟨_, rfl, _, rfl, iteF ?_⟩
    cases m with
    | none => cases fl
    | some m =>
    have mq : m.1 ∈ ps.map (·.1) := by
     by_cases z : m.1 ∈ ps.map (·.1)
     ·exact z
     ·unfold fltR at fl
      dsimp only at fl
      rw [if_neg z] at fl
      cases fl
    obtain ⟨tm, etm, htm⟩ := th4.same s5
    have hlm5 := s5 _ _ hlm4
    refine ⟨_, rfl, _, rfl, lm, _, _, _, rfl, rfl, .of hlm5, at4 hlm5, tm, _, 2, _, etm, rfl, .of htm, rfl, ?_⟩
    refine ⟨_, rfl, _, rfl, _, rfl, lm, _, _, _, rfl, rfl, .of hlm5, at4 hlm5, tm, _, 0, _, etm, rfl, .of htm, rfl, dl, _, rfl, .k (k := Sum.inr m.1) e5 (by rw [mKV_len, List.length_map]; omega), ?_⟩
    exact ⟨_, _, put f' m, rfl, b5.trans But.upd, by rw [upd_same, put_mKV mq], ej⟩
  ·rintro σ H4 ⟨v6, v7, f', rfl, b4, e4, ej⟩
   rw [lys, Int.toNat_natCast, List.drop_length] at ej
   refine ⟨_, rfl, by show 2 <= sizeLine; decide, fun t ht => ?_⟩
   have st4 : Same H H4 := fun b o e => b4 b o (s03 _ _ e) (ne_of_none e hdl)
   refine k t _ (st4.trans (Same.new ht)) (st4.free ht) ?_
   rw [ej]
   exact ⟨dl, hdl, upd_same, (Same.new ht) _ _ e4⟩
end
end Ev
set_option Elab.async false
set_option linter.all false
set_option maxRecDepth 100000
namespace Ev
open PySem L2
def tBMt (r : V -> List V -> Hp -> VK -> Prop) (to : TE) (t : TA) : TE := fun σ H Q => to σ H fun x H1 => (∃ p xs, x = .ref p /\ H1 p = some (.tup xs)) /\ t σ H1 fun vs H2 => r x vs H2 Q
theorem pe_bmt {X : Cx} {o e : Expr} {es : List Expr} {to : TE} {t : TA} {name : Str} {apos cpos : Pos} {id : String} {r : V -> List V -> Hp -> VK -> Prop} (slot : Slot "tuple" name id) (hty : typeOf (.builtin id) = pure (.type "method_descriptor")) (hm : MtR X id r) (ho : PE X o to) (ha : PA X (e :: es) t)
  (hbase : attributeBase o name X.env (eval o X.env) = eval o X.env := by rfl)
  (hfew : ((backTo cpos (starEach (e :: es) X.env)).all (fun x => !x.1) && (backToKw cpos (keywordEach [] X.env)).all (fun x => x.1.isSome)
   && decide ((e :: es).length + ([] : List Keyword).length + (if ([] : List Keyword).isEmpty then 0 else 1) < 30)) = true := by rfl)
  (hline : (apos.endLine == cpos.line) = true := by rfl) (hs : starEach (e :: es) X.env = (false, eval e X.env) :: starEach es X.env := by rfl) (hplain : (backTo cpos (starEach es X.env)).any (·.1) = false := by rfl) :
  PE X (.Call (.Attribute o name apos) (e :: es) [] cpos) (tBMt r to t) := by
 intro pins s σ H Q I h
 refine wpAny_Call_method_late hbase hfew hline rfl (thn (ho pins s σ H _ I h) fun v s1 ⟨x, H1, I1, r1, ⟨p, xs, ex, hp⟩, q1⟩ => ?_)
 subst ex
 obtain rfl : v = Value.ref p := r1
 obtain ⟨_, _, _, ⟨o1, e1, c1, _⟩, o2, e2, c2⟩ := I1.hok p _ hp
 refine ⟨"tuple", id, PySem.F.plainAttrs_tuple, slot, hty, ⟨o1, e1, c1⟩, fun a z => ⟨o2, by cases z; exact e2, c2⟩, ?_⟩
 have hA := ha cpos pins s1 σ H1 _ I1 q1
 rw [hs] at hA ⊢
 refine Calls.callWith_builtin (by show (false || (backTo cpos (starEach es X.env)).any (·.1)) = false; rw [hplain] <;> rfl) (Calls.evalArgs_plain ?_)
 exact thn hA fun us s2 ⟨vs, H2, I2, r2, q2⟩ => hm pins s2 σ H2 (.ref p) vs _ us Q I2 rfl r2 q2
theorem ThAt.butL {H H' : Hp} {l : Addr} {v : V} {t : Option Mv} (h : ThAt H v t) (b : But l H H') (ne : ∀ a, v = .ref a -> a ≠ l) : ThAt H' v t := by
 cases t with
 | some m =>
  obtain ⟨a, e, h⟩ := h
  exact ⟨a, e, b _ _ h (ne a e)⟩
 | none =>
  rcases h with h | h | h | ⟨a, xs, e, h⟩ | ⟨a, xs, e, h, k⟩
  ·exact .inl h
  ·exact .inr (.inl h)
  ·exact .inr (.inr (.inl h))
  ·exact .inr (.inr (.inr (.inl ⟨a, xs, e, b _ _ h (ne a e)⟩)))
  ·exact .inr (.inr (.inr (.inr ⟨a, xs, e, b _ _ h (ne a e), k⟩)))
theorem paired_mem {α β : Type} {F G : α -> β -> Prop} : ∀ {xs : List α} {ys : List β}, Paired F xs ys -> (∀ x y, x ∈ xs -> F x y -> G x y) -> Paired G xs ys
 | _, _, .nil, _ => .nil
 | _, _, .cons h t, k => .cons (k _ _ List.mem_cons_self h) (paired_mem t fun x y hx => k x y (List.mem_cons_of_mem _ hx))
structure RIt (H H' : Hp) (l lf dl : Addr) (ns : List Str) (f : Str -> Str) (ys : List V) (ms : List (Option Mv)) : Prop where
 bt : But l H H'
 st : stt H' l
 hd : H' dl = some (.dK (stF ns f))
 hl : H' lf = some (.lst ys)
 tu : Paired (ThAt H') ys ms
 ne : ∀ a, V.ref a ∈ ys -> a ≠ l /\ a ≠ lf
section
variable {H H1 H2 : Hp} {l lf dl : Addr} {ns : List Str} {f : Str -> Str} {ys : List V} {ms : List (Option Mv)}
theorem RIt.same (T : RIt H H1 l lf dl ns f ys ms) (s : Same H1 H2) : RIt H H2 l lf dl ns f ys ms := ⟨T.bt.trans (But.of s), T.st.same s, s _ _ T.hd, s _ _ T.hl, Paired.mapP T.tu fun _ _ q => q.same s, T.ne⟩
theorem RIt.but (T : RIt H H1 l lf dl ns f ys ms) (b : But l H1 H2) (st : stt H2 l) (n1 : lf ≠ l) (n2 : dl ≠ l) : RIt H H2 l lf dl ns f ys ms :=
 ⟨T.bt.trans b, st, b _ _ T.hd n2, b _ _ T.hl n1, paired_mem T.tu fun v _ hv q => q.butL b fun a e => (T.ne a (e ▸ hv)).1, T.ne⟩
theorem RIt.app {v : V} {m : Option Mv} (T : RIt H H1 l lf dl ns f ys ms) (hlf : H lf = none) (n1 : lf ≠ l) (th : ThAt H1 v m) (ne : ∀ a, v = .ref a -> a ≠ l /\ a ≠ lf) : RIt H (upd H1 lf (.lst (ys ++ [v]))) l lf dl ns f (ys ++ [v]) (ms ++ [m]) := by
 have b : But lf H1 (upd H1 lf (.lst (ys ++ [v]))) := But.upd
 refine ⟨fun c o e n => ?_, stt_put T.st n1, ?_, upd_same, paired_app (paired_mem T.tu fun u _ hu q => q.butL b fun a e => (T.ne a (e ▸ hu)).2) (.cons (th.butL b fun a e => (ne a e).2) .nil), fun a ha => ?_⟩
 ·rw [upd_ne (ne_of_none e hlf)]
  exact T.bt _ _ e n
 ·exact b _ _ T.hd (ne_of T.hd T.hl (by intro z; cases z))
 ·rcases List.mem_append.mp ha with h | h
  ·exact T.ne a h
  ·exact ne a (by simpa using (List.mem_singleton.mp h).symm)
theorem RIt.put {g : Str -> Str} (T : RIt H H1 l lf dl ns f ys ms) (hdl : H dl = none) (n2 : dl ≠ l) : RIt H (upd H1 dl (.dK (stF ns g))) l lf dl ns g ys ms := by
 have b : But dl H1 (upd H1 dl (.dK (stF ns g))) := But.upd
 refine ⟨fun c o e n => ?_, stt_put T.st n2, upd_same, b _ _ T.hl (ne_of T.hl T.hd (by intro z; cases z)), Paired.mapP T.tu fun _ _ q => q.butD b T.hd, T.ne⟩
 rw [upd_ne (ne_of_none e hdl)]
 exact T.bt _ _ e n
end
def MvS (K : PySem.W.Frag) (H : Hp) (v : V) : Prop := v = .non ∨ (∃ a xs, v = .ref a /\ H a = some (.lst xs)) ∨ (∃ a xs, v = .ref a /\ H a = some (.tup xs) /\ (xs.length : Int) ≠ 3) ∨ ∃ (a : Addr) (x y : Str) (z : V), v = .ref a /\ H a = some (.tup [.str x, .str y, z]) /\ ((∃ q, z = .str q) ∨ z = .int 5)
section
variable {P : Program} {w : World} {K : PySem.W.Frag} {mg : Str -> Option Value} {base : Heap}
theorem scMove : FnScope ["_law_state", "_law_hands", "_law_ties", "_law_pieces_here", "_law_later", "_law_rare", "_law_name", "_law_one", "_law_near", "_law_other", "_law_some"] ["_law_state", "_law_hands", "_law_ties", "_law_pieces_here", "_law_later", "_law_rare"] (defScope sMove) := ⟨rfl, rfl, rfl, by decide +kernel, rfl, by decide +kernel, by decide +kernel⟩
def spMove (K : PySem.W.Frag) : Sp := fun vs H Q _ => ∃ (l lh lt lp dl : Addr) (rare : Int) (yh yt yp : List V) (hs : List (Str × Int)) (ts : List (Str × Str)) (ps : List Pc) (f : Str -> Str), vs = [.ref l, .ref lh, .ref lt, .ref lp, .ref dl, .int rare] /\ 0 < rare /\ rare <= 1000 /\ stt H l /\ H lh = some (.lst yh) /\ lh ≠ l /\ TupsAt K H yh (hs.map kH) /\ H lt = some (.lst yt) /\ lt ≠ l /\ TupsAt K H yt (ts.map kT) /\ ts.length < 64 /\ H lp = some (.lst yp) /\ lp ≠ l /\ PcsAt K H yp ps /\ H dl = some (.dK (stF (ps.map (·.1)) f)) /\ ps.length <= 30 /\ 0 < hs.length /\ hs.length <= 8 /\
 ∀ v m H', But l H H' -> stt H' l -> ThAt H' v m -> MvS K H' v -> (∀ a, v = .ref a -> H a = none) -> Q v H'
abbrev cMove : List Str := ["_law_tie", "_law_one"]
set_option maxHeartbeats 1600000 in
theorem ok_move {f : Addr} {fd : FuncData} (F : Fun K "_law_move" "_law_move" sMove f fd) (B : Bi mg) (cD : Cal P w K mg base 1 "_law_digit" ["_law_state", "_law_base"] spDigit) : FnOk P w K mg base CX0 2 f fd ["_law_state", "_law_hands", "_law_ties", "_law_pieces_here", "_law_later", "_law_rare"] (spMove K) := by
 refine F.ok scMove (fun vs H Q E h => ?_) (fun cdv A outer s H vs Q E hr h => ?_)
 ·obtain ⟨l, lh, lt, lp, dl, rare, yh, yt, yp, hs, ts, ps, f, rfl, _⟩ := h
  rfl
 ·obtain ⟨l, lh, lt, lp, dl, rare, yh, yt, yp, hs, ts, ps, f, rfl, ra0, ra1, st, hlh, lhl, th, hlt, ltl, tt, t64, hlp, lpl, pc, hd, h30, h0, h8, k⟩ := h
  have hu := hu_of hr
  have sz := sizeLine_eq
  refine' ⟨_, ?r0, ?kk⟩
  case' r0 => refine' pss_cons ?t1 ?q1
  case t1 => exact ps_set (i := 6) scMove.nd rfl (Or.inl rfl) pe_str
  case' q1 => refine' pss_cons ?t2 ?q2
  case t2 => exact ps_if (pw_and (pt_cmpR (op_neNil (roomU hr 0)) (pv 3) (pe_lst pa_nil) (nomark _)) (pw_and1 (pt_cmpR op_gt (pe_fn cD hr (pa_cons (pv 0) (pa_cons (pv 5) pa_nil))) pe_int (nomark _)))).pt (pss_one (ps_set (i := 6) scMove.nd rfl (Or.inl rfl) (pe_ix ix_tup (pe_ix ix_list (pv 3) (pe_fn cD hr (pa_cons (pv 0) (pa_cons (pe_callB call_len_seq (by rfl) B.len PySem.boot_len (pa_cons (pv 3) pa_nil)) pa_nil))) (fun _ _ => rfl)) pe_int (fun _ _ => rfl)))) pss_nil
  case' q2 => refine' pss_cons ?t3 ?q3
  case t3 => exact ps_set (i := 7) scMove.nd rfl (Or.inr rfl) (pe_ix ix_tup (pe_ix ix_list (pv 1) (pe_fn cD hr (pa_cons (pv 0) (pa_cons (pe_callB call_len_seq (by rfl) B.len PySem.boot_len (pa_cons (pv 1) pa_nil)) pa_nil))) (fun _ _ => rfl)) pe_int (fun _ _ => rfl))
  case' q3 => refine' pss_cons ?t4 ?q4
  case t4 => exact ps_if (pt_cmpR op_gt (pe_fn cD hr (pa_cons (pv 0) (pa_cons (pv 5) pa_nil))) pe_int (nomark _)) (pss_one (ps_set (i := 7) scMove.nd rfl (Or.inr rfl) (pe_dget2 hu (pv 4) (pv 6) (pv 7) ⟨rfl, rfl, rfl, rfl⟩))) pss_nil
  case' q4 => refine' pss_cons ?t5 ?q5
  case' t5 => refine' ps_setC (i := 8) cMove 1 [7] scMove.nd rfl (Or.inl rfl) (pi_list (pv 2)) (fun fp s H => ?g2) (fun fp s H => ?w2) (fun fp s H => ?e2)
  case g2 => exact pg_name (i := 0) (show (cMove).Nodup by decide +kernel) rfl (Or.inl rfl)
  case w2 => exact pts_one (pt_cmpR (opK (K := K) (fun K => rIn K false) op_in_seq) (pv 1) (pv 0) (by with_unfolding_all rfl))
  case e2 => exact pe_ix (ixK (K := K) rIxT ix_tup) (pv 0) (pe_op op_sub pe_int (pe_bmt PySem.F.slot_tuple_index PySem.F.type_tuple_index mt_tidx (pv 0) (pa_cons (pv 1) pa_nil))) (fun _ _ => rfl)
  case' q5 => refine' pss_cons ?t6 ?q6
  case t6 => exact ps_set (i := 9) scMove.nd rfl (Or.inl rfl) (pe_ix ix_tup (pe_ix ix_list (pv 1) (pe_fn cD hr (pa_cons (pv 0) (pa_cons (pe_callB call_len_seq (by rfl) B.len PySem.boot_len (pa_cons (pv 1) pa_nil)) pa_nil))) (fun _ _ => rfl)) pe_int (fun _ _ => rfl))
  case' q6 => refine' pss_cons ?t7 ?q7
  case t7 => exact ps_if (pw_and (pt_cmpR (op_neNil (roomU hr 0)) (pv 8) (pe_lst pa_nil) (nomark _)) (pw_and1 (pt_cmpR op_gt (pe_fn cD hr (pa_cons (pv 0) (pa_cons (pv 5) pa_nil))) pe_int (nomark _)))).pt (pss_one (ps_set (i := 9) scMove.nd rfl (Or.inl rfl) (pe_ix ix_list (pv 8) (pe_fn cD hr (pa_cons (pv 0) (pa_cons (pe_callB call_len_seq (by rfl) B.len PySem.boot_len (pa_cons (pv 8) pa_nil)) pa_nil))) (fun _ _ => rfl)))) pss_nil
  case' q7 => refine' pss_cons ?t8 (pss_cons ?t9 (pss_one ?t10))
  case' t8 => refine' ps_set (i := 10) scMove.nd rfl (Or.inl rfl) (pe_lst ?k0)
  case' k0 => refine' pa_cons (pe_lst (pa_cons (pv 6) (pa_cons (pv 7) (pa_cons (pv 9) pa_nil)))) ?k1
  case' k1 => refine' pa_cons (pe_tup (pa_cons (pv 6) (pa_cons (pv 7) pa_nil))) ?k2
  case' k2 => refine' pa_cons (pe_tup (pa_cons (pv 6) (pa_cons (pv 7) (pa_cons pe_int pa_nil)))) ?k3
  case k3 => exact pa_cons pe_non (pa_cons (pe_tup (pa_cons (pv 6) (pa_cons (pv 7) (pa_cons (pv 9) (pa_cons (pv 9) pa_nil))))) pa_nil)
  case t9 => exact ps_if (pw_and (pt_cmpR op_eq (pe_fn cD hr (pa_cons (pv 0) (pa_cons (pv 5) pa_nil))) pe_int (nomark _)) (pw_and1 (pt_cmpR op_eq (pe_fn cD hr (pa_cons (pv 0) (pa_cons pe_int pa_nil))) pe_int (nomark _)))).pt (pss_one (ps_ret (pe_ix ix_list (pv 10) (pe_fn cD hr (pa_cons (pv 0) (pa_cons pe_int pa_nil))) (fun _ _ => rfl)))) pss_nil
  case t10 => exact ps_ret (pe_tup (pa_cons (pv 6) (pa_cons (pv 7) (pa_cons (pv 9) pa_nil))))
  case' kk => skip
  have lyp := Paired.length pc
  have lyh := Paired.length th
  rw [List.length_map] at lyh
  have lyt := Paired.length tt
  rw [List.length_map] at lyt
  obtain ⟨xs0, hl0⟩ := st.some
  have dll : dl ≠ l := ne_of hd hl0 (by intro z; cases z)
  refine seqG (fun σ H' => σ = [some (.ref l), some (.ref lh), some (.ref lt), some (.ref lp), some (.ref dl), some (.int rare), some (.str "nobody"), none, none, none, none] /\ H = H') ?later (fun N hN => hN _ _ ⟨rfl, rfl⟩)
  case later =>
  rintro _ _ ⟨rfl, rfl⟩
  refine seqG (fun σ H' => ∃ x : Str, σ = [some (.ref l), some (.ref lh), some (.ref lt), some (.ref lp), some (.ref dl), some (.int rare), some (.str x), none, none, none, none] /\ But l H H' /\ stt H' l) ?later ?now
  case now =>
   intro N hN
   refine ⟨_, rfl, by show 0 <= sizeLine; decide, fun le1 hle1 => ?_⟩
   have s5 := Same.new (o := .lst []) hle1
   have e5 : upd H le1 (.lst []) le1 = some (.lst []) := upd_same
   generalize upd H le1 (.lst []) = H5 at s5 e5 ⊢
   have b5 : But l H H5 := But.of s5
   have st5 := st.same s5
   refine ⟨lp, le1, yp, rfl, rfl, .of (b5 _ _ hlp lpl), .of e5, _, rfl, ?_⟩
   refine ite2 (fun c => ?_) (fun c => ?_)
   rotate_left 1
   ·exact iteF (hN _ _ ⟨_, rfl, b5, st5⟩)
   have y0 : 0 < yp.length := by
    cases yp with
    | nil => simp at c
    | cons _ _ => simp
   refine ⟨_, rfl, _, rfl, l, rare, rfl, by omega, by omega, st5, fun r H6 r0 r1 b6 st6 => ?_⟩
   have bb6 := b5.trans b6
   refine ⟨_, _, rfl, rfl, _, rfl, ?_⟩
   refine ite2 (fun c => ?_) (fun c => ?_)
   rotate_left 1
   ·exact hN _ _ ⟨_, rfl, bb6, st6⟩
   refine ⟨_, rfl, _, rfl, _, rfl, lp, _, rfl, .inl (.of (bb6 _ _ hlp lpl)), l, (yp.length : Int), rfl, by omega, by omega, st6, fun r2 H7 q0 q1 b7 st7 => ?_⟩
   have bb7 := bb6.trans b7
   obtain ⟨r2, rfl⟩ := Int.eq_ofNat_of_zero_le q0
   have hrl : r2 < yp.length := by omega
   have hyr : yp[r2]? = some (yp[r2]'hrl) := List.getElem?_eq_getElem hrl
   obtain ⟨q, hq, t, v, et, ht, wy⟩ := paired_at pc hyr
   refine ⟨lp, _, _, .ref t, rfl, rfl, .of (bb7 _ _ hlp lpl), by rw [atI_nat (by omega) (by omega), Int.toNat_natCast, hyr, et], t, _, 0, _, rfl, rfl, .of (bb7 _ _ ht (ne_of ht hl0 (by intro z; cases z))), rfl, ?_⟩
   exact hN _ _ ⟨q.1, rfl, bb7, st7⟩
  case later =>
  rintro _ H5 ⟨x, rfl, b5, st5⟩
  refine ⟨_, rfl, _, rfl, _, rfl, lh, _, rfl, .inl (.of (b5 _ _ hlh lhl)), l, (yh.length : Int), rfl, by omega, by omega, st5, fun r H6 r0 r1 b6 st6 => ?_⟩
  have bb6 := b5.trans b6
  obtain ⟨r, rfl⟩ := Int.eq_ofNat_of_zero_le r0
  have hrl : r < yh.length := by omega
  have hyr : yh[r]? = some (yh[r]'hrl) := List.getElem?_eq_getElem hrl
  obtain ⟨h, hh, a, ea, ha⟩ := paired_map th hyr
  have al : a ≠ l := ne_of ha hl0 (by intro z; cases z)
  refine ⟨lh, _, _, .ref a, rfl, rfl, .of (bb6 _ _ hlh lhl), by rw [atI_nat (by omega) (by omega), Int.toNat_natCast, hyr, ea], a, _, 0, _, rfl, rfl, .of (hpH (bb6 _ _ ha al)), rfl, ?_⟩
  refine setG ?_
  dsimp only
  refine seqG (fun σ H' => ∃ y : Str, σ = [some (.ref l), some (.ref lh), some (.ref lt), some (.ref lp), some (.ref dl), some (.int rare), some (.str x), some (.str y), none, none, none] /\ But l H H' /\ stt H' l) ?later ?now
  case now =>
   intro N hN
   refine ⟨_, rfl, _, rfl, l, rare, rfl, by omega, by omega, st6, fun r3 H7 r0 r1 b7 st7 => ?_⟩
   have bb7 := bb6.trans b7
   refine ⟨_, _, rfl, rfl, _, rfl, ?_⟩
   refine ite2 (fun c => ?_) (fun c => ?_)
   rotate_left 1
   ·exact hN _ _ ⟨_, rfl, bb7, st7⟩
   have hd7 := bb7 _ _ hd dll
   refine ⟨_, rfl, dl, rfl, .inl ⟨_, .inl hd7⟩, _, rfl, _, rfl, _, .k (k := Sum.inr x) hd7, ?_⟩
   by_cases z : x ∈ ps.map (·.1)
   ·rw [mKV_get z]
    exact hN _ _ ⟨f x, rfl, bb7, st7⟩
   ·have e : valV (stF (ps.map (·.1)) f) (Sum.inr x) = none := valV_none_of (by
     rw [mKV_keys]
     intro m
     obtain ⟨y, hy, e⟩ := List.mem_map.mp m
     exact z (Sum.inr.inj e ▸ hy))
    rw [e]
    exact hN _ _ ⟨h.1, rfl, bb7, st7⟩
  case later =>
  rintro _ H7 ⟨y, rfl, b7, st7⟩
  clear b5 st5 b6 st6 bb6
  have hlt7 := b7 _ _ hlt ltl
  have tt7 := tups_keep tt b7 hl0
  refine ⟨_, rfl, lt, rfl, ⟨_, .of hlt7⟩, fun D hD => ?_⟩
  have Dl : D ≠ l := by
   obtain ⟨xs, e⟩ := st7.some
   exact (ne_of_none e hD).symm
  refine comp_list (own := 1) (fv := [some (.str y)]) (xs := yt) rfl gok1 (fun j out H' => ∃ os : List Str, Same H7 H' /\ H' D = some (.lst (os.map V.str)) /\ os.length <= j) ⟨[], Same.new hD, upd_same, Nat.le_refl _⟩ (fun j out H' _ ⟨_, sm, _⟩ => .of (sm _ _ hlt7)) (fun out H8 ⟨os, s8, hD8, lo⟩ => ?_) (fun j w out H' hy ⟨os, sm, hD', lo⟩ => ?_)
  rotate_left 1
  ·obtain ⟨t, ht, a, rfl, ha⟩ := paired_map tt7 hy
   have hj : j < yt.length := (List.getElem?_eq_some_iff.mp hy).1
   have ha2 := hpT (sm _ _ ha)
   refine ⟨_, rfl, rfl, fun Nx hN => ?_⟩
   refine ⟨_, rfl, _, rfl, a, _, rfl, .inr (.of ha2), rfl, rfl, _, rfl, ?_⟩
   refine ite2 (fun c => ?_) (fun c => ?_)
   ·have c : inV (.str y) [.str t.1, .str t.2] = true := c
    have cy : y = t.1 ∨ y = t.2 := by
     have c : (t.1 == y || (t.2 == y || false)) = true := c
     simp at c
     exact c.imp Eq.symm Eq.symm
    refine ⟨_, rfl, _, rfl, ⟨a, _, rfl, ha2⟩, _, rfl, a, t.1, t.2, y, rfl, rfl, ha2, cy, _, _, rfl, rfl, ?_⟩
    by_cases z : t.1 = y
    ·rw [if_pos z]
     refine ⟨a, _, _, .str t.2, rfl, rfl, .of ha2, rfl, _, hD', by rw [List.length_map]; omega, hN [] _ ⟨os ++ [t.2], same_but sm hD, ?_, by rw [List.length_append]; simp; omega⟩⟩
     rw [upd_same, List.map_append]
     rfl
    ·rw [if_neg z]
     refine ⟨a, _, _, .str t.1, rfl, rfl, .of ha2, rfl, _, hD', by rw [List.length_map]; omega, hN [] _ ⟨os ++ [t.1], same_but sm hD, ?_, by rw [List.length_append]; simp; omega⟩⟩
     rw [upd_same, List.map_append]
     rfl
   ·exact hN [] _ ⟨os, sm, hD', by omega⟩
  have b8 := b7.trans (But.of s8)
  have st8 := st7.same s8
  refine ⟨_, rfl, _, rfl, _, rfl, lh, _, rfl, .inl (.of (b8 _ _ hlh lhl)), l, (yh.length : Int), rfl, by omega, by omega, st8, fun r4 H9 r0 r1 b9 st9 => ?_⟩
  have bb9 := b8.trans b9
  have hD9 := b9 _ _ hD8 Dl
  obtain ⟨r4, rfl⟩ := Int.eq_ofNat_of_zero_le r0
  have hr4 : r4 < yh.length := by omega
  have hy4 : yh[r4]? = some (yh[r4]'hr4) := List.getElem?_eq_getElem hr4
  obtain ⟨h4, hh4, a4, ea4, ha4⟩ := paired_map th hy4
  have al4 : a4 ≠ l := ne_of ha4 hl0 (by intro z; cases z)
  refine ⟨lh, _, _, .ref a4, rfl, rfl, .of (bb9 _ _ hlh lhl), by rw [atI_nat (by omega) (by omega), Int.toNat_natCast, hy4, ea4], a4, _, 0, _, rfl, rfl, .of (hpH (bb9 _ _ ha4 al4)), rfl, ?_⟩
  refine setG ?_
  dsimp only
  refine seqG (fun σ H' => ∃ z : Str, σ = [some (.ref l), some (.ref lh), some (.ref lt), some (.ref lp), some (.ref dl), some (.int rare), some (.str x), some (.str y), some (.ref D), some (.str z), none] /\ But l H H' /\ stt H' l) ?later ?now
  case now =>
   intro N hN
   refine ⟨_, rfl, by show 0 <= sizeLine; decide, fun le1 hle1 => ?_⟩
   have s10 := Same.new (o := .lst []) hle1
   have e10 : upd H9 le1 (.lst []) le1 = some (.lst []) := upd_same
   generalize upd H9 le1 (.lst []) = H10 at s10 e10 ⊢
   have b10 := bb9.trans (But.of s10)
   have st10 := st9.same s10
   have hD10 := s10 _ _ hD9
   refine ⟨D, le1, _, rfl, rfl, .of hD10, .of e10, _, rfl, ?_⟩
   refine ite2 (fun c => ?_) (fun c => ?_)
   rotate_left 1
   ·exact iteF (hN _ _ ⟨_, rfl, b10, st10⟩)
   have o0 : 0 < os.length := by
    cases os with
    | nil => simp at c
    | cons _ _ => simp
   refine ⟨_, rfl, _, rfl, l, rare, rfl, by omega, by omega, st10, fun r H11 r0 r1 b11 st11 => ?_⟩
   have bb11 := b10.trans b11
   have hD11 := b11 _ _ hD10 Dl
   refine ⟨_, _, rfl, rfl, _, rfl, ?_⟩
   refine ite2 (fun c => ?_) (fun c => ?_)
   rotate_left 1
   ·exact hN _ _ ⟨_, rfl, bb11, st11⟩
   refine ⟨_, rfl, _, rfl, _, rfl, D, _, rfl, .inl (.of hD11), l, (((os.map V.str).length : Nat) : Int), rfl, by rw [List.length_map]; omega, by rw [List.length_map]; omega, st11, fun r2 H12 q0 q1 b12 st12 => ?_⟩
   rw [List.length_map] at q1
   obtain ⟨r2, rfl⟩ := Int.eq_ofNat_of_zero_le q0
   have hr2 : r2 < os.length := by omega
   have hor : os[r2]? = some (os[r2]'hr2) := List.getElem?_eq_getElem hr2
   refine ⟨D, _, _, .str (os[r2]'hr2), rfl, rfl, .of (b12 _ _ hD11 Dl), by rw [atI_nat (by omega) (by rw [List.length_map]; omega), Int.toNat_natCast, List.getElem?_map, hor]; rfl, ?_⟩
   exact hN _ _ ⟨_, rfl, bb11.trans b12, st12⟩
  case later =>
  rintro _ H10 ⟨z, rfl, b10, st10⟩
  clear b7 st7 b8 st8 b9 st9 bb9 hD9 hD8 s8
  have free : ∀ {H' : Hp} {a : Addr}, But l H H' -> stt H' l -> H' a = none -> H a = none /\ a ≠ l := fun {H' a} b st e => by
   obtain ⟨xs, el⟩ := st.some
   have n : a ≠ l := (ne_of_none el e).symm
   cases q : H a with
   | none => exact ⟨rfl, n⟩
   | some o => rw [b _ _ q n] at e; cases e
  refine ⟨_, rfl, _, rfl, _, rfl, by show 3 <= sizeLine; decide, fun a1 g1 => ?_⟩
  have z1 := Same.new (o := .lst [.str x, .str y, .str z]) g1
  have e1 : upd H10 a1 (.lst [.str x, .str y, .str z]) a1 = some (.lst [.str x, .str y, .str z]) := upd_same
  generalize upd H10 a1 (.lst [.str x, .str y, .str z]) = I1 at z1 e1 ⊢
  refine ⟨_, rfl, _, rfl, by show 2 <= sizeLine; decide, fun a2 g2 => ?_⟩
  have z2 := Same.new (o := .tup [.str x, .str y]) g2
  have e2 : upd I1 a2 (.tup [.str x, .str y]) a2 = some (.tup [.str x, .str y]) := upd_same
  generalize upd I1 a2 (.tup [.str x, .str y]) = I2 at z2 e2 ⊢
  refine ⟨_, rfl, _, rfl, by show 3 <= sizeLine; decide, fun a3 g3 => ?_⟩
  have z3 := Same.new (o := .tup [.str x, .str y, .int 5]) g3
  have e3 : upd I2 a3 (.tup [.str x, .str y, .int 5]) a3 = some (.tup [.str x, .str y, .int 5]) := upd_same
  generalize upd I2 a3 (.tup [.str x, .str y, .int 5]) = I3 at z3 e3 ⊢
  refine ⟨_, rfl, _, rfl, _, rfl, _, rfl, by show 4 <= sizeLine; decide, fun a5 g5 => ?_⟩
  have z5 := Same.new (o := .tup [.str x, .str y, .str z, .str z]) g5
  have e5 : upd I3 a5 (.tup [.str x, .str y, .str z, .str z]) a5 = some (.tup [.str x, .str y, .str z, .str z]) := upd_same
  generalize upd I3 a5 (.tup [.str x, .str y, .str z, .str z]) = I5 at z5 e5 ⊢
  have z35 := z3.trans z5
  have z25 := z2.trans z35
  have z15 := z1.trans z25
  have fr1 := free b10 st10 g1
  have fr2 := free (b10.trans (But.of z1)) (st10.same z1) g2
  have fr3 := free (b10.trans (But.of (z1.trans z2))) (st10.same (z1.trans z2)) g3
  have fr5 := free (b10.trans (But.of ((z1.trans z2).trans z3))) (st10.same ((z1.trans z2).trans z3)) g5
  have bI5 := b10.trans (But.of z15)
  have stI5 := st10.same z15
  have all : ∀ v ∈ [V.ref a1, .ref a2, .ref a3, .non, .ref a5], ∀ (I : Hp), But l I5 I -> ThAt I v none /\ MvS K I v /\ ∀ a, v = .ref a -> H a = none := by
   intro v hv I bI
   simp only [List.mem_cons, List.mem_nil_iff, or_false] at hv
   rcases hv with rfl | rfl | rfl | rfl | rfl
   ·have e := bI _ _ (z25 _ _ e1) fr1.2
    exact ⟨.inr (.inr (.inr (.inl ⟨a1, _, rfl, e⟩))), .inr (.inl ⟨a1, _, rfl, e⟩), fun a e => by cases e; exact fr1.1⟩
   ·have e := bI _ _ (z35 _ _ e2) fr2.2
    exact ⟨.inr (.inr (.inr (.inr ⟨a2, _, rfl, e, .inl (by show (2 : Int) ≠ 3; decide)⟩))), .inr (.inr (.inl ⟨a2, _, rfl, e, by show (2 : Int) ≠ 3; decide⟩)), fun a e => by cases e; exact fr2.1⟩
   ·have e := bI _ _ (z5 _ _ e3) fr3.2
    exact ⟨.inr (.inr (.inr (.inr ⟨a3, _, rfl, e, .inr ⟨rfl, by intro x hx; simp at hx; rcases hx with rfl | rfl | rfl <;> rfl, rfl⟩⟩))), .inr (.inr (.inr ⟨a3, x, y, _, rfl, e, .inr rfl⟩)), fun a e => by cases e; exact fr3.1⟩
   ·exact ⟨.inl rfl, .inl rfl, fun a e => by cases e⟩
   ·have e := bI _ _ e5 fr5.2
    exact ⟨.inr (.inr (.inr (.inr ⟨a5, _, rfl, e, .inl (by show (4 : Int) ≠ 3; decide)⟩))), .inr (.inr (.inl ⟨a5, _, rfl, e, by show (4 : Int) ≠ 3; decide⟩)), fun a e => by cases e; exact fr5.1⟩
  refine ⟨by show 5 <= sizeLine; decide, fun a6 g6 => ?_⟩
  generalize ey : [V.ref a1, .ref a2, .ref a3, .non, .ref a5] = us at all g6 ⊢
  have l5 : us.length = 5 := by rw [<- ey]; rfl
  have z6 := Same.new (o := .lst us) g6
  have e6 : upd I5 a6 (.lst us) a6 = some (.lst us) := upd_same
  have n6 : a6 ≠ l := (free bI5 stI5 g6).2
  refine setG ?_
  dsimp only
  generalize upd I5 a6 (.lst us) = I6 at z6 e6 ⊢
  have bI6 := bI5.trans (But.of z6)
  have stI6 := stI5.same z6
  refine seqG (fun σ H' => σ = [some (.ref l), some (.ref lh), some (.ref lt), some (.ref lp), some (.ref dl), some (.int rare), some (.str x), some (.str y), some (.ref D), some (.str z), some (.ref a6)] /\ But l H H' /\ stt H' l) ?later ?now
  case later =>
   rintro _ H11 ⟨rfl, b11, st11⟩
   refine ⟨_, rfl, _, rfl, _, rfl, by show 3 <= sizeLine; decide, fun t ht => ?_⟩
   have s12 := Same.new (o := .tup [.str x, .str y, .str z]) ht
   have e12 : upd H11 t (.tup [.str x, .str y, .str z]) t = some (.tup [.str x, .str y, .str z]) := upd_same
   exact k (.ref t) (some (x, y, z)) _ (b11.trans (But.of s12)) (st11.same s12) ⟨t, rfl, e12⟩ (.inr (.inr (.inr ⟨t, x, y, _, rfl, e12, .inl ⟨z, rfl⟩⟩))) fun a e => by cases e; exact (free b11 st11 ht).1
  case now =>
   intro N hN
   refine ⟨_, rfl, _, rfl, l, rare, rfl, by omega, by omega, stI6, fun r H11 r0 r1 b11 st11 => ?_⟩
   have bb11 := bI6.trans b11
   refine ⟨rfl, _, rfl, ?_⟩
   refine ite2 (fun c => ?_) (fun c => ?_)
   rotate_left 1
   ·exact iteF (hN _ _ ⟨rfl, bb11, st11⟩)
   refine ⟨_, rfl, l, 4, rfl, by decide, by decide, st11, fun r5 H12 r0 r1 b12 st12 => ?_⟩
   refine ⟨rfl, _, rfl, ?_⟩
   refine ite2 (fun c => ?_) (fun c => ?_)
   rotate_left 1
   ·exact hN _ _ ⟨rfl, bb11.trans b12, st12⟩
   refine ⟨_, rfl, _, rfl, l, 5, rfl, by decide, by decide, st12, fun r6 H13 r0 r6l b13 st13 => ?_⟩
   have hr6 : r6.toNat < us.length := by omega
   have hy6 : us[r6.toNat]? = some (us[r6.toNat]'hr6) := List.getElem?_eq_getElem hr6
   have b6 := b11.trans (b12.trans b13)
   obtain ⟨t1, t2, t3⟩ := all _ (List.getElem_mem hr6) H13 ((But.of z6).trans b6)
   refine ⟨a6, _, _, us[r6.toNat]'hr6, rfl, rfl, .of (b6 _ _ e6 n6), by rw [atI_nat r0 (by omega), hy6], ?_⟩
   exact k _ none H13 (bI6.trans b6) st13 t1 t2 t3
end
end Ev
set_option Elab.async false
set_option linter.all false
set_option maxRecDepth 100000
namespace L2
open PySem PySem.Spec PyProof.Rows
section
variable {X : Cx}
def rIsiT (K : PySem.W.Frag) : List V -> Hp -> VK -> Prop := fun xs H Q => ∃ (a tp C : Addr) (cs : List V) (cvs : List Value) (b : Bool), xs = [.ref a, .ref tp] /\ H tp = some (.tup cs) /\ cs.map clsV = cvs.map some /\ H a = some (exo a (.ref C)) /\ ExcK K C /\ PySem.W.kitAny K (.ref C) cvs = some b /\ Q (.bl b) H
end
section
variable {X : Cx} {k : Nat} {ps : List Str} {x : Str} {p pos : Pos} {e : Expr} {es : List Expr} {tn : TE} {t : TA}
def tCallV (P : Program) (w : World) (K : PySem.W.Frag) (mg : Str -> Option Value) (base : Heap) (k : Nat) (ps : List Str) (tn : TE) (t : TA) (ES : XS) : TE := fun σ H Q => tn σ H fun x H1 => ∃ f fd sp, x = .ref f /\ FnOk P w K mg base (CX1 P w) k f fd ps sp /\ PySem.W.keepIn K (.ref f) = true /\ Binds K fd ps [] /\ t σ H1 fun vs H2 => sp vs H2 Q (fun cls _ H' => ES σ cls H')
end
end L2
set_option Elab.async false
set_option linter.all false
set_option maxRecDepth 100000
namespace Ev
open PySem L2
abbrev tSuiteM (K : PySem.W.Frag) : TS := tAsg (tTup (tCons (tC (.str "bad")) (tCons (tXGet K (tVar 4) "k") (tCons (tXGet K (tVar 4) "reason") tNil)))) (gName 3)
theorem len5 {α : Type} : ∀ {l : List α}, l.length = 5 -> ∃ a b c d e, l = [a, b, c, d, e]
 | [a, b, c, d, e], _ => ⟨a, b, c, d, e, rfl⟩
section
variable {P : Program} {w : World} {K : PySem.W.Frag} {mg : Str -> Option Value} {base : Heap}
theorem scLMoved : FnScope ["_law_goods", "_law_stand_here", "_law_row", "_law_found", "e"] ["_law_goods", "_law_stand_here", "_law_row"] (defScope sLMoved) := ⟨rfl, rfl, rfl, by decide +kernel, rfl, by decide +kernel, by decide +kernel⟩
set_option maxHeartbeats 800000 in
theorem ok_lmoved {f CG CW CN CE fi : Addr} {fd : FuncData} (F : Fun K "_law_moved" "_law_moved" sLMoved f fd) (M : NMv K mg CN CE fi) (kn : PySem.W.exmOne K (.ref CN) (.ref CN) = some true) (cM : CalG P w K mg base 6 "moved" ["goods", "stand", "moves"] (spMoved K CG CW CN)) : FnOk P w K mg base CX0 7 f fd ["_law_goods", "_law_stand_here", "_law_row"] (spJudged K CG CW) := by
 refine F.ok scLMoved (fun vs H Q E h => ?_) (fun cdv A outer s H vs Q E hr h => ?_)
 ·obtain ⟨g, p, d, lm, hs, ts, ps, qs, fp, ns, f, ys, ms, rfl, _⟩ := h
  rfl
 ·refine' ⟨_, ?r0, ?kk⟩
  case' r0 => refine' pss_cons ?s1 ?r1
  case' r1 => refine' pss_cons ?s2 ?s3
  case s1 => exact ps_set (i := 3) scLMoved.nd rfl (Or.inl rfl) pe_non
  case' s2 => refine' ps_try2 (i := 4) (C := CN) (ts := tSuiteM K) scLMoved.nd rfl rfl rfl rfl (by rfl) M.mN kn (fun E W pn hp => ?hb) (fun a => ?hs)
  case hb => exact pss_one (ps_set (i := 3) scLMoved.nd rfl (Or.inl rfl) (pe_tup (pa_cons pe_str (pa_cons (pe_fg cM hr hp (pa_cons (pv 0) (pa_cons (pv 1) (pa_cons (pv 2) pa_nil)))) pa_nil))))
  case hs => exact pss_one (ps_set (i := 3) scLMoved.nd rfl (Or.inl rfl) (pe_tup (pa_cons pe_str (pa_cons (pe_xget (pv 4) rfl) (pa_cons (pe_xget (pv 4) rfl) pa_nil)))))
  case s3 => exact pss_one (ps_ret (pv 3))
  case' kk => skip
  obtain ⟨g, p, d, lm, hs, ts, ps, qs, fp, ns, f, ys, ms, rfl, D0, R0, k⟩ := h
  refine ⟨_, rfl, _, rfl, _, rfl, g, p, d, lm, hs, ts, ps, qs, fp, ns, f, ys, ms, rfl, D0, R0, ?_⟩
  cases ej : jgG hs ts qs 0 f ms with
  | inl kr =>
   obtain ⟨kk, r⟩ := kr
   intro d' H1 s1 hd0 hd1
   refine ⟨rfl, fun σ a hl ha => ?_⟩
   obtain ⟨v0, v1, v2, v3, v4, rfl⟩ := len5 hl
   have s2 := Same.new (o := exq a CN (some d')) ha
   have ea : upd H1 a (exq a CN (some d')) a = some (exq a CN (some d')) := upd_same
   have hd2 := s2 _ _ hd1
   generalize upd H1 a (exq a CN (some d')) = H2 at s2 ea hd2 ⊢
   refine ⟨_, rfl, a, CN, d', _, _, rfl, ea, hd2, M.O.kx, M.hd, M.Fk.fd, xfs_k _ _, _, rfl, a, CN, d', _, _, rfl, ea, hd2, M.O.kx, M.hd, M.Fr.fd, xfs_r _ _, by show 3 <= sizeLine; decide, fun t ht => ?_⟩
   have s3 := Same.new (o := .tup [.str "bad", .int kk, .str r]) ht
   refine ⟨_, rfl, k t _ ((s1.trans s2).trans s3) ((s1.trans s2).free ht) ?_⟩
   rw [ej]
   exact upd_same
  | inr f' =>
   intro d' H1 s1 hd0 hd1
   refine ⟨by show 2 <= sizeLine; decide, fun t ht => ⟨_, rfl, k t _ (s1.trans (Same.new ht)) (s1.free ht) ?_⟩⟩
   rw [ej]
   exact ⟨d', hd0, upd_same, (Same.new ht) _ _ hd1⟩
end
end Ev
set_option Elab.async false
set_option linter.all false
set_option maxRecDepth 100000
namespace Ev
open PySem L2
theorem RowG.same {H H' : Hp} {lm : Addr} {ys : List V} {ms : List (Option Mv)} (R : RowG H lm ys ms) (s : Same H H') : RowG H' lm ys ms := ⟨s _ _ R.hl, Paired.mapP R.tu fun _ _ q => q.same s⟩
theorem say_one {ps qs : List Pc} (Q : Qs ps qs) (f : Str -> Str) : SayOne (qs.map (·.1)) (ps.map (·.1)) f f := by
 refine ⟨?_, fun m hm => ?_, fun _ _ => rfl⟩
 ·rw [Q.nms]
  exact (sortS_perm _).length_eq
 ·rw [Q.nms] at hm
  exact (sortS_perm _).mem_iff.mp hm
theorem MvS.butL {K : PySem.W.Frag} {H H' : Hp} {l : Addr} {v : V} (h : MvS K H v) (b : But l H H') (ne : ∀ a, v = .ref a -> a ≠ l) : MvS K H' v := by
 rcases h with h | ⟨a, xs, e, h⟩ | ⟨a, xs, e, h, q⟩ | ⟨a, x, y, z, e, h, q⟩
 ·exact .inl h
 ·exact .inr (.inl ⟨a, xs, e, b _ _ h (ne a e)⟩)
 ·exact .inr (.inr (.inl ⟨a, xs, e, b _ _ h (ne a e), q⟩))
 ·exact .inr (.inr (.inr ⟨a, x, y, z, e, b _ _ h (ne a e), q⟩))
theorem ans_ne2 {K : PySem.W.Frag} {H0 H1 H2 H3 : Hp} {ns ms : List Str} {t t2 : Addr} {j : (Nat × Str) ⊕ (Str -> Str)} {Q : VK} (a1 : AnsAt H0 H1 ns t j) (s12 : Same H1 H2) (s23 : Same H2 H3) (a2 : AnsAt H2 H3 ms t2 j) (so : ∀ f, SayOne ms ns f f) (q : Q (.bl false) H3) : rNeJ K (.ref t2) (.ref t) H3 Q := by
 have s := s12.trans s23
 refine ⟨t2, t, rfl, rfl, ?_, q⟩
 cases j with
 | inl kr =>
  obtain ⟨k, r⟩ := kr
  exact .inr ⟨"bad", r, k, .of a2, .of (s _ _ a1)⟩
 | inr f =>
  obtain ⟨d1, n1, h1, e1⟩ := a1
  obtain ⟨d2, n2, h2, e2⟩ := a2
  exact .inl ⟨"good", d2, d1, ms, ns, f, f, .of h2, .of (s _ _ h1), (ne_of_none (s12 _ _ e1) n2).symm, e2, s _ _ e1, so f⟩
section
variable {P : Program} {w : World} {K : PySem.W.Frag} {mg : Str -> Option Value} {base : Heap}
theorem scLaw : FnScope ["_law_script", "_law_hands", "_law_ties", "_law_pieces_here", "_law_goods", "_law_k", "_law_state", "_law_stand_here", "_law_later", "_law_rare", "_law_row", "_law_turn", "_law_move_here", "_law_due"] ["_law_script"] (defScope sLaw) := ⟨rfl, rfl, rfl, by decide +kernel, rfl, by decide +kernel, by decide +kernel⟩
def spLaw (K : PySem.W.Frag) : Sp := fun vs H Q _ => ∃ (a : Addr) (ns : List Int), vs = [.ref a] /\ SqL K H a (ns.map V.int) /\ ns.length <= 63 /\ ∀ H', Q (.bl true) H'
set_option maxHeartbeats 1600000 in
theorem ok_law {f CG CW : Addr} {fd : FuncData} (F : Fun K "law" "law" sLaw f fd) (B : Bi mg) (mMin : mg "min" = none) (cC : Cal P w K mg base 1 "_law_cell_at" ["_law_script", "_law_k"] (spCell K)) (cD : Cal P w K mg base 1 "_law_digit" ["_law_state", "_law_base"] spDigit) (cM : Cal P w K mg base 9 "_law_made" ["_law_script"] (spMade K CG CW)) (cS : Cal P w K mg base 2 "_law_stand" ["_law_state", "_law_pieces_here", "_law_hands"] (spStand K)) (cR : Cal P w K mg base 2 "_law_move" ["_law_state", "_law_hands", "_law_ties", "_law_pieces_here", "_law_later", "_law_rare"] (spMove K)) (cW : Cal P w K mg base 2 "_law_walked" ["_law_ties", "_law_pieces_here", "_law_stand_here", "_law_row"] (spWalked K)) (cT : Cal P w K mg base 7 "_law_moved" ["_law_goods", "_law_stand_here", "_law_row"] (spJudged K CG CW)) (cJ : Cal P w K mg base 5 "judged" ["goods", "stand", "moves"] (spJudged K CG CW)) : FnOk P w K mg base CX0 10 f fd ["_law_script"] (spLaw K) := by
 refine F.ok scLaw (fun vs H Q E h => ?_) (fun cdv A outer s H vs Q E hr h => ?_)
 ·obtain ⟨a, ns, rfl, _⟩ := h
  rfl
 ·obtain ⟨ls, ns, rfl, hls, h63, k⟩ := h
  have sz := sizeLine_eq
  have hu := hu_of hr
  have hr1 : Room 1 _ := hr.mono (by decide)
  have hr2 : Room 2 _ := hr.mono (by decide)
  have hr5 : Room 5 _ := hr.mono (by decide)
  have hr7 : Room 7 _ := hr.mono (by decide)
  refine' ⟨_, ?r0, ?kk⟩
  case' r0 => refine' pss_cons ?s1 ?r1
  case s1 => exact ps_asg (pe_fn cM hr (pa_cons (pv 0) pa_nil)) (pg_tup rfl (pgs_cons (pg_name (i := 1) scLaw.nd rfl (Or.inl rfl)) (pgs_cons (pg_name (i := 2) scLaw.nd rfl (Or.inl rfl)) (pgs_cons (pg_name (i := 3) scLaw.nd rfl (Or.inl rfl)) (pgs_cons (pg_name (i := 4) scLaw.nd rfl (Or.inl rfl)) pgs_nil)))))
  case' r1 => refine' pss_cons ?s2 ?r2
  case' s2 => refine' ps_for PassesOwn.never rfl ?i2 ?g2 ?b2
  case i2 => exact pi_range2 (by rfl) B.range (pa_cons pe_int (pa_cons (pe_callB (call_max2 rfl) (by rfl) B.max PyProof.Rows.Boot.«max» (pa_cons pe_int (pa_cons (pe_callB (call_min2 rfl) (by rfl) mMin PyProof.Rows.Boot.«min» (pa_cons pe_int (pa_cons (pe_callB call_len_seq (by rfl) B.len PySem.boot_len (pa_cons (pv 0) pa_nil)) pa_nil))) pa_nil))) pa_nil))
  case g2 => exact pg_name (i := 5) scLaw.nd rfl (Or.inl rfl)
  case' b2 => refine' pss_cons ?t1 ?q1
  case t1 => exact ps_set (i := 6) scLaw.nd rfl (Or.inl rfl) (pe_lst (pa_cons (pe_op op_add (pe_fn cC hr1 (pa_cons (pv 0) (pa_cons (pv 5) pa_nil))) (pe_op op_mul pe_int (pv 5))) pa_nil))
  case' q1 => refine' pss_cons ?t2 ?q2
  case t2 => exact ps_set (i := 7) scLaw.nd rfl (Or.inl rfl) (pe_fn cS hr2 (pa_cons (pv 6) (pa_cons (pv 3) (pa_cons (pv 1) pa_nil))))
  case' q2 => refine' pss_cons ?t3 ?q3
  case t3 => exact ps_set (i := 8) scLaw.nd rfl (Or.inl rfl) (pe_callTy call_dictD (by rfl) B.dict PyProof.Rows.Boot.«dict» (pa_cons (pv 7) pa_nil))
  case' q3 => refine' pss_cons ?t4 ?q4
  case t4 => exact ps_set (i := 9) scLaw.nd rfl (Or.inl rfl) (pe_ix ix_list (pe_lst (pa_cons pe_int (pa_cons pe_int (pa_cons pe_int (pa_cons pe_int pa_nil))))) (pe_fn cD hr1 (pa_cons (pv 6) (pa_cons pe_int pa_nil))) (fun _ _ => rfl))
  case' q4 => refine' pss_cons ?t5 ?q5
  case t5 => exact ps_set (i := 10) scLaw.nd rfl (Or.inl rfl) (pe_lst pa_nil)
  case' q5 => refine' pss_cons ?t6 ?q6
  case' t6 => refine' ps_for PassesOwn.never rfl ?i6 (pg_name (i := 11) scLaw.nd rfl (Or.inl rfl)) ?b6
  case i6 => exact pi_range1 (by rfl) B.range (pa_cons (pe_fn cD hr1 (pa_cons (pv 6) (pa_cons (pe_ix ix_list (pe_lst (pa_cons pe_int (pa_cons pe_int pa_nil))) (pe_callTy call_int1 (by rfl) B.int PyProof.Rows.Boot.«int» (pa_cons (pe_cmpR op_gt (pv 9) pe_int (nomark _)) pa_nil)) (fun _ _ => rfl)) pa_nil))) pa_nil)
  case' b6 => refine' pss_cons ?u1 (pss_cons ?u2 (pss_one ?u3))
  case u1 => exact ps_set (i := 12) scLaw.nd rfl (Or.inl rfl) (pe_fn cR hr2 (pa_cons (pv 6) (pa_cons (pv 1) (pa_cons (pv 2) (pa_cons (pv 3) (pa_cons (pv 8) (pa_cons (pv 9) pa_nil)))))))
  case u2 => exact ps_expr (pe_bm PySem.F.plainAttrs_list PySem.F.slot_list_append PySem.F.type_list_append mt_append (pv 10) (pa_cons (pv 12) pa_nil))
  case' u3 => refine' ps_if (PW.pt (pw_and ?c1 (pw_and ?c2 (pw_and1 ?c3)))) (pss_one ?d3) pss_nil
  case c1 => exact pt_val (pe_callB call_isi (by rfl) B.isi PyProof.Rows.Boot.«isinstance» (pa_cons (pv 12) (pa_cons (pe_bltn (v := .ty "tuple") (by rfl) B.tuple PyProof.Rows.Boot.«tuple» rfl) pa_nil)))
  case c2 => exact pt_cmpR op_eq (pe_callB call_len_seq (by rfl) B.len PySem.boot_len (pa_cons (pv 12) pa_nil)) pe_int (nomark _)
  case c3 => exact pt_cmp (pc_din hu (pe_ix ix_tup (pv 12) pe_int (fun _ _ => rfl)) (pv 8))
  case d3 => exact ps_dput hu (pv 8) (pe_ix ix_tup (pv 12) pe_int (fun _ _ => rfl)) (pe_ix ix_list (pe_lst (pa_cons (pe_ix ix_tup (pv 12) pe_int (fun _ _ => rfl)) (pa_cons (pe_ix ix_tup (pv 12) pe_int (fun _ _ => rfl)) pa_nil))) (pe_callTy call_int1 (by rfl) B.int PyProof.Rows.Boot.«int» (pa_cons (pe_cmpR op_eq (pe_ix ix_tup (pv 12) pe_int (fun _ _ => rfl)) pe_int (nomark _)) pa_nil)) (fun _ _ => rfl)) rfl
  case' q6 => refine' pss_cons ?t7 (pss_one ?t8)
  case t7 => exact ps_set (i := 13) scLaw.nd rfl (Or.inl rfl) (pe_fn cW hr2 (pa_cons (pv 2) (pa_cons (pv 3) (pa_cons (pv 7) (pa_cons (pv 10) pa_nil)))))
  case' t8 => refine' ps_if (PW.pt (pw_or ?x1 (pw_or ?x2 (pw_or1 ?x3)))) pss_never pss_nil
  case x1 => exact pt_cmpR (op_neJ (roomU hr 0)) (pe_fn cJ hr5 (pa_cons (pv 4) (pa_cons (pv 7) (pa_cons (pv 10) pa_nil)))) (pv 13) (nomark _)
  case x2 => exact pt_cmpR (op_neJ (roomU hr 0)) (pe_fn cT hr7 (pa_cons (pv 4) (pa_cons (pv 7) (pa_cons (pv 10) pa_nil)))) (pv 13) (nomark _)
  case x3 => exact pt_cmpR (op_neJ (roomU hr 0)) (pe_fn cJ hr5 (pa_cons (pv 4) (pa_cons (pv 7) (pa_cons (pv 10) pa_nil)))) (pv 13) (nomark _)
  case r2 => exact pss_one (ps_ret pe_bl)
  case' kk => skip
  refine ⟨_, rfl, ls, ns, rfl, hls, fun t0 lh lt lp g p yh yt yp hs ts ps qs fp0 Hb sb ht0 L0 S ends => ?_⟩
  refine ⟨t0, _, rfl, .of ht0, rfl, _, _, rfl, _, _, rfl, _, _, rfl, _, _, rfl, rfl, ?_⟩
  obtain ⟨fp, G', has⟩ := L0.G.slim
  have L : Lay K CG CW Hb lh lt lp g p yh yt yp hs ts ps qs fp := ⟨L0.hh, L0.th, L0.ht, L0.tt, L0.hp, L0.pc, G'⟩
  clear L0 G' ht0
  have hls := sb.seq hls
  have hln : (ns.map V.int).length <= 63 := by rw [List.length_map]; exact h63
  have h1 := S.Gd.h1
  have h8 := S.Gd.h8
  have h30 := S.h30
  have lq : qs.length <= 30 := by rw [S.Q.len]; exact h30
  have pm : (ps.map (·.1)).Perm (qs.map (·.1)) := by
   rw [S.Q.nms]
   exact (sortS_perm _).symm
  have freshB : ∀ {d}, Hb d = none -> d ∉ fp := fun {d} hd m => by
   obtain ⟨o, e⟩ := has d m
   rw [e] at hd
   cases hd
  have mkStd : ∀ {H' dd nn ff}, Same Hb H' -> Hb dd = none -> H' dd = some (.dK (stF nn ff)) -> nn.Perm (qs.map (·.1)) -> (∀ n ∈ nn, ff n ∈ hs.map (·.1)) -> Std K CG CW H' g p dd hs ts ps qs fp nn ff := fun {H' dd nn ff} s0 h0 hd pp at_ => ⟨(L.same s0).G, S, freshB h0, hd, ⟨pp, at_⟩, fun b hb => by
   obtain ⟨o, e⟩ := has b hb
   exact ⟨o, s0 _ _ e⟩⟩
  dsimp only
  refine seqG (fun σ H' => True) (fun σ H' _ => k H') ?now
  case now =>
  intro N hN
  refine ⟨_, rfl, ls, _, rfl, .inl hls, _, _, rfl, _, _, rfl, _, _, rfl, ?_, ?_⟩
  ·refine ⟨by decide, by decide, ?_, ?_⟩
   ·split
    ·split <;> omega
    ·decide
   ·split
    ·split <;> omega
    ·decide
  refine for_range (lo := 2) (fun i σ H' => ∃ (v5 v6 v7 v8 v9 v10 v11 v12 v13 : Option V), σ = [some (.ref ls), some (.ref lh), some (.ref lt), some (.ref lp), some (.ref g), v5, v6, v7, v8, v9, v10, v11, v12, v13] /\ Same Hb H') ⟨none, none, none, none, none, none, none, none, none, rfl, Same.refl Hb⟩ ?_ ?_
  rotate_left 1
  ·rintro σ H1 ⟨v5, v6, v7, v8, v9, v10, v11, v12, v13, rfl, s1⟩
   exact hN _ _ trivial
  rintro i σ Hi hi ⟨v5, v6, v7, v8, v9, v10, v11, v12, v13, rfl, si⟩
  have Li := L.same si
  refine ⟨_, rfl, _, rfl, ls, ns, 2 + (i : Int), rfl, by omega, si.seq hls, fun n => ?_⟩
  refine ⟨_, rfl, _, _, rfl, rfl, .inl ⟨by decide, by decide⟩, _, _, rfl, rfl, ?_⟩
  dsimp only
  generalize n + 11 * (2 + (i : Int)) = n'
  refine ⟨by show 1 <= sizeLine; decide, fun l hl => ?_⟩
  have sl := Same.new (o := .lst [.int n']) hl
  have st : stt (upd Hi l (.lst [.int n'])) l := .inl ⟨n', upd_same⟩
  generalize upd Hi l (.lst [.int n']) = H1 at sl st ⊢
  have L1 := Li.same sl
  have nl : ∀ {b o}, Hi b = some o -> b ≠ l := fun e => ne_of_none e hl
  refine ⟨_, rfl, _, rfl, _, rfl, l, lp, lh, yp, yh, ps, hs, rfl, st, L1.hp, nl Li.hp, L1.pc, L1.hh, nl Li.hh, L1.th, by omega, h8, h30, S.nd, fun d f H2 b2 st2 hd0 e0 fm => ?_⟩
  refine setG ?_
  dsimp only
  have s2 : Same Hi H2 := fun b o e => b2 _ _ (sl _ _ e) (nl e)
  have hdi : Hi d = none := sl.free hd0
  have hdb : Hb d = none := si.free hdi
  have dl' : d ≠ l := by
   obtain ⟨xs, e⟩ := st.some
   exact (ne_of_none e hd0).symm
  obtain ⟨xsl, hl2⟩ := st2.some
  refine ⟨_, rfl, d, _, rfl, .inl e0, fun dl hdl => ?_⟩
  have s3 := Same.new (o := .dK (stF (ps.map (·.1)) f)) hdl
  have e3 : upd H2 dl (.dK (stF (ps.map (·.1)) f)) dl = some (.dK (stF (ps.map (·.1)) f)) := upd_same
  refine setG ?_
  dsimp only
  generalize upd H2 dl (.dK (stF (ps.map (·.1)) f)) = H3 at s3 e3 ⊢
  have dll : dl ≠ l := (ne_of_none hl2 hdl).symm
  have ddl : d ≠ dl := ne_of_none e0 hdl
  refine ⟨by show 4 <= sizeLine; decide, fun lr hlr => ?_⟩
  have s4 := Same.new (o := .lst [.int 3, .int 12, .int 60, .int 400]) hlr
  have e4 : upd H3 lr (.lst [.int 3, .int 12, .int 60, .int 400]) lr = some (.lst [.int 3, .int 12, .int 60, .int 400]) := upd_same
  generalize upd H3 lr (.lst [.int 3, .int 12, .int 60, .int 400]) = H4 at s4 e4 ⊢
  have lrl : lr ≠ l := (ne_of_none (s3 _ _ hl2) hlr).symm
  refine ⟨_, rfl, l, 4, rfl, by decide, by decide, (st2.same s3).same s4, fun r H5 r0 r4 b5 st5 => ?_⟩
  obtain ⟨rare, er, ra0, ra1⟩ : ∃ rare : Int, atI [V.int 3, .int 12, .int 60, .int 400] r = some (.int rare) /\ 0 < rare /\ rare <= 1000 := by
   rcases (by omega : r = 0 ∨ r = 1 ∨ r = 2 ∨ r = 3) with rfl | rfl | rfl | rfl
   ·exact ⟨3, rfl, by decide, by decide⟩
   ·exact ⟨12, rfl, by decide, by decide⟩
   ·exact ⟨60, rfl, by decide, by decide⟩
   ·exact ⟨400, rfl, by decide, by decide⟩
  refine ⟨lr, _, _, _, rfl, rfl, .of (b5 _ _ e4 lrl), er, ?_⟩
  refine setG ?_
  dsimp only
  have b25 : But l H2 H5 := (But.of (s3.trans s4)).trans b5
  have e5 := b5 _ _ (s4 _ _ e3) dll
  refine ⟨by show 0 <= sizeLine; decide, fun lf hlf5 => ?_⟩
  have s6 := Same.new (o := .lst []) hlf5
  have e6 : upd H5 lf (.lst []) lf = some (.lst []) := upd_same
  refine setG ?_
  dsimp only
  generalize upd H5 lf (.lst []) = H6 at s6 e6 ⊢
  obtain ⟨xs5, hl5⟩ := st5.some
  have lfl : lf ≠ l := (ne_of_none hl5 hlf5).symm
  have hlf : H2 lf = none := by
   cases q : H2 lf with
   | none => rfl
   | some o => rw [b25 _ _ q lfl] at hlf5; cases hlf5
  have T6 : RIt H2 H6 l lf dl (ps.map (·.1)) f [] [] := ⟨b25.trans (But.of s6), st5.same s6, s6 _ _ e5, e6, .nil, fun a ha => by cases ha⟩
  clear s6 e6 b25 e5 b5 st5 s4 e4 s3 e3 hlf5 hl5 L1 b2 sl
  have sam : ∀ {H' f' ys ms}, RIt H2 H' l lf dl (ps.map (·.1)) f' ys ms -> Same Hi H' := fun T b o e => T.bt _ _ (s2 _ _ e) (nl e)
  refine seqG (fun σ H' => ∃ (w11 w12 : Option V) (f' : Str -> Str) (ys : List V) (ms : List (Option Mv)), σ = [some (.ref ls), some (.ref lh), some (.ref lt), some (.ref lp), some (.ref g), some (.int (2 + (i : Int))), some (.ref l), some (.ref d), some (.ref dl), some (.int rare), some (.ref lf), w11, w12, v13] /\ RIt H2 H' l lf dl (ps.map (·.1)) f' ys ms /\ ys.length <= 101) ?later ?now
  case now =>
   intro N hN
   refine ⟨_, rfl, by show 2 <= sizeLine; decide, fun l7 hl7 => ?_⟩
   have s7 := Same.new (o := .lst [.int 6, .int 101]) hl7
   have e7 : upd H6 l7 (.lst [.int 6, .int 101]) l7 = some (.lst [.int 6, .int 101]) := upd_same
   generalize upd H6 l7 (.lst [.int 6, .int 101]) = H7 at s7 e7 ⊢
   have T7 := T6.same s7
   refine ⟨_, rfl, _, _, rfl, rfl, .inr ⟨_, rfl, ?_⟩⟩
   obtain ⟨bb, eb, bb0, bb1⟩ : ∃ bb : Int, atI [V.int 6, .int 101] (if decide ((12 : Int) < rare) = true then 1 else 0) = some (.int bb) /\ 0 < bb /\ bb <= 101 := by
    by_cases z : (12 : Int) < rare
    ·exact ⟨101, by rw [decide_eq_true z]; rfl, by decide, by decide⟩
    ·exact ⟨6, by rw [decide_eq_false z]; rfl, by decide, by decide⟩
   refine ⟨l7, _, _, _, rfl, rfl, .of e7, eb, l, bb, rfl, by omega, by omega, T7.st, fun nn H8 n0 n1 b8 st8 => ⟨_, rfl, by omega, by omega, ?_⟩⟩
   have T8 := T7.but b8 st8 lfl dll
   obtain ⟨n, rfl⟩ := Int.eq_ofNat_of_zero_le n0
   refine for_range (lo := 0) (fun j σ H' => ∃ (w11 w12 : Option V) (f' : Str -> Str) (ys : List V) (ms : List (Option Mv)), σ = [some (.ref ls), some (.ref lh), some (.ref lt), some (.ref lp), some (.ref g), some (.int (2 + (i : Int))), some (.ref l), some (.ref d), some (.ref dl), some (.int rare), some (.ref lf), w11, w12, v13] /\ RIt H2 H' l lf dl (ps.map (·.1)) f' ys ms /\ ys.length <= j) ⟨_, _, f, [], [], rfl, T8, Nat.le_refl _⟩ ?_ ?_
   rotate_left 1
   ·rintro σ H9 ⟨w11, w12, f', ys, ms, rfl, T9, le⟩
    exact hN _ _ ⟨w11, w12, f', ys, ms, rfl, T9, by omega⟩
   rintro j σ H9 hj ⟨w11, w12, f', ys, ms, rfl, T9, le⟩
   have L9 := Li.same (sam T9)
   obtain ⟨xs9, hl9⟩ := T9.st.some
   refine ⟨_, rfl, _, rfl, _, rfl, _, rfl, _, rfl, _, rfl, l, lh, lt, lp, dl, rare, yh, yt, yp, hs, ts, ps, f', rfl, ra0, ra1, T9.st, L9.hh, nl Li.hh, L9.th, L9.ht, nl Li.ht, L9.tt, S.Gd.t64, L9.hp, nl Li.hp, L9.pc, T9.hd, h30, by omega, h8, fun v m H10 b10 st10 th10 mv10 fr10 => ?_⟩
   refine setG ?_
   dsimp only
   have T10 := T9.but b10 st10 lfl dll
   have ne10 : ∀ a, v = .ref a -> a ≠ l /\ a ≠ lf := fun a e => ⟨(ne_of_none hl9 (fr10 a e)).symm, (ne_of_none T9.hl (fr10 a e)).symm⟩
   refine ⟨_, rfl, .inl ⟨rfl, _, .of T10.hl⟩, _, rfl, lf, ys, _, rfl, rfl, T10.hl, by omega, ?_⟩
   have T11 := T10.app (v := v) (m := m) hlf lfl th10 ne10
   have mv11 : MvS K (upd H10 lf (.lst (ys ++ [v]))) v := mv10.butL But.upd fun a e => (ne10 a e).2
   dsimp only
   show tIfS _ _ _ _ _ (upd H10 lf (.lst (ys ++ [v])))
   generalize upd H10 lf (.lst (ys ++ [v])) = H11 at T11 mv11 ⊢
   have le11 : (ys ++ [v]).length <= j + 1 := by rw [List.length_append, List.length_singleton]; omega
   have fin : ∀ {H' f''}, RIt H2 H' l lf dl (ps.map (·.1)) f'' (ys ++ [v]) (ms ++ [m]) -> ∃ (w11 w12 : Option V) (f' : Str -> Str) (ys : List V) (ms : List (Option Mv)), [some (.ref ls), some (.ref lh), some (.ref lt), some (.ref lp), some (.ref g), some (.int (2 + (i : Int))), some (.ref l), some (.ref d), some (.ref dl), some (.int rare), some (.ref lf), some (.int (0 + (j : Int))), some v, v13] = [some (.ref ls), some (.ref lh), some (.ref lt), some (.ref lp), some (.ref g), some (.int (2 + (i : Int))), some (.ref l), some (.ref d), some (.ref dl), some (.int rare), some (.ref lf), w11, w12, v13] /\ RIt H2 H' l lf dl (ps.map (·.1)) f' ys ms /\ ys.length <= j + 1 := fun T => ⟨_, _, _, _, _, rfl, T, le11⟩
   rcases mv11 with rfl | ⟨a, xs, rfl, h⟩ | ⟨a, xs, rfl, h, h3⟩ | ⟨a, x, y, z, rfl, h, hz⟩
   ·exact ⟨_, rfl, _, _, _, _, rfl, .non, rfl, _, rfl, iteF (iteF (fin T11))⟩
   ·exact ⟨_, rfl, _, _, _, _, rfl, .lst h, rfl, _, rfl, iteF (iteF (fin T11))⟩
   ·refine ⟨_, rfl, _, _, _, _, rfl, .tup h, rfl, _, rfl, iteT ?_⟩
    refine ⟨_, rfl, a, _, rfl, .inr (.of h), rfl, _, rfl, ?_⟩
    have : decide (V.int (xs.length : Int) = V.int 3) = false := decide_eq_false fun z => h3 (V.int.inj z)
    rw [this]
    exact iteF (iteF (fin T11))
   ·refine ⟨_, rfl, _, _, _, _, rfl, .tup h, rfl, _, rfl, iteT ?_⟩
    refine ⟨_, rfl, a, _, rfl, .inr (.of h), rfl, _, rfl, iteT ?_⟩
    refine ⟨_, rfl, a, _, 0, _, rfl, rfl, .of h, rfl, _, rfl, dl, _, rfl, .k (k := Sum.inr x) T11.hd, _, rfl, ?_⟩
    by_cases zz : x ∈ ps.map (·.1)
    rotate_left 1
    ·have e : valV (stF (ps.map (·.1)) f') (Sum.inr x) = none := valV_none_of (by
      rw [mKV_keys]
      intro m
      obtain ⟨y, hy, e⟩ := List.mem_map.mp m
      exact zz (Sum.inr.inj e ▸ hy))
     rw [e]
     exact iteF (fin T11)
    rw [mKV_get zz]
    refine iteT ?_
    refine ⟨_, rfl, a, _, 2, _, rfl, rfl, .of h, rfl, _, rfl, a, _, 1, _, rfl, rfl, .of h, rfl, by show 2 <= sizeLine; decide, fun l12 hl12 => ?_⟩
    have s12 := Same.new (o := .lst [z, .str y]) hl12
    have e12 : upd H11 l12 (.lst [z, .str y]) l12 = some (.lst [z, .str y]) := upd_same
    generalize upd H11 l12 (.lst [z, .str y]) = H12 at s12 e12 ⊢
    have T12 := T11.same s12
    have h12 := s12 _ _ h
    have hq : ∃ q : Str, scal z (.int 5) = true /\ atI [z, .str y] (if decide (z = V.int 5) = true then 1 else 0) = some (.str q) := by
     rcases hz with ⟨q, rfl⟩ | rfl
     ·exact ⟨q, rfl, by rw [decide_eq_false (by intro e; cases e)]; rfl⟩
     ·exact ⟨y, rfl, by rw [decide_eq_true rfl]; rfl⟩
    obtain ⟨q, sc, eq⟩ := hq
    refine ⟨_, rfl, a, _, 2, _, rfl, rfl, .of h12, rfl, sc, .inr ⟨_, rfl, ?_⟩⟩
    refine ⟨l12, _, _, _, rfl, rfl, .of e12, eq, _, rfl, _, rfl, a, _, 0, _, rfl, rfl, .of h12, rfl, dl, _, rfl, .k (k := Sum.inr x) T12.hd (by rw [mKV_len, List.length_map]; omega), ?_⟩
    rw [put_mKV (m := (x, y, q)) zz]
    exact fin (T12.put (by
     cases q : H2 dl with
     | none => rfl
     | some o => exact absurd q (by rw [hdl]; intro e; cases e)) dll)
  case later =>
  rintro _ H7 ⟨w11, w12, f', ys, ms, rfl, T7, le7⟩
  have s7 := sam T7
  have L7 := Li.same s7
  have hd7 := T7.bt _ _ e0 dl'
  have R7 : RowG H7 lf ys ms := ⟨T7.hl, T7.tu⟩
  have sb7 := si.trans s7
  refine ⟨_, rfl, _, rfl, _, rfl, _, rfl, lt, lp, d, lf, yt, yp, ys, ts, ps, f, ms, rfl, L7.ht, L7.tt, L7.hp, L7.pc, S.nd, h30, hd7, R7, by omega, fun t H8 s8 ht8 a8 => ?_⟩
  refine setG ?_
  dsimp only
  rw [<- jgG_all S] at a8
  have so : ∀ f, SayOne (qs.map (·.1)) (ps.map (·.1)) f f := fun f => say_one S.Q f
  refine ⟨_, rfl, _, rfl, _, rfl, g, p, d, lf, hs, ts, ps, qs, fp, _, f, ys, ms, rfl, mkStd (sb7.trans s8) hdb (s8 _ _ hd7) pm fm, R7.same s8, fun t9 H9 s9 ht9 a9 => ⟨_, rfl, ?_⟩⟩
  refine ans_ne2 a8 (Same.refl _) s9 a9 so ⟨_, rfl, iteF ?_⟩
  have s79 := s8.trans s9
  refine ⟨_, rfl, _, rfl, _, rfl, g, p, d, lf, hs, ts, ps, qs, fp, _, f, ys, ms, rfl, mkStd (sb7.trans s79) hdb (s79 _ _ hd7) pm fm, R7.same s79, fun t10 H10 s10 ht10 a10 => ⟨_, rfl, ?_⟩⟩
  refine ans_ne2 a8 s9 s10 a10 so ⟨_, rfl, iteF ?_⟩
  have s710 := s79.trans s10
  refine ⟨_, rfl, _, rfl, _, rfl, g, p, d, lf, hs, ts, ps, qs, fp, _, f, ys, ms, rfl, mkStd (sb7.trans s710) hdb (s710 _ _ hd7) pm fm, R7.same s710, fun t11 H11 s11 ht11 a11 => ⟨_, rfl, ?_⟩⟩
  refine ans_ne2 a8 (s9.trans s10) s11 a11 so ⟨_, rfl, iteF ?_⟩
  exact ⟨_, _, _, _, _, _, _, _, _, rfl, sb7.trans (s710.trans s11)⟩
end
end Ev
set_option Elab.async false
set_option linter.all false
set_option maxRecDepth 100000
namespace Ev
open PySem L2
structure Fd (K : PySem.W.Frag) (mg : Str -> Option Value) (x : Str) (st : Stmt) : Prop where
 ex : ∃ f fd, Fun K x x st f fd /\ mg x = some (.ref f) /\ PySem.W.keepIn K (.ref f) = true
theorem fd_mk {K : PySem.W.Frag} {h : Heap} {mg : Str -> Option Value} {x : Str} {st : Stmt} (X : K.In h) (G : h.Ns mainGlobals mg) {f : Addr} {oc : Value} {od an : Option Addr} {osl : Array (Option Value)} {kV doc pm cdv ct : Value} (a : PySem.W.nsIn K mainGlobals x = some (some (.ref f)))
  (l : K.lookup f = some ⟨oc, od, .func (PySem.W.fnOf x x (defArgs st) (defBody st) (defScope st) .none kV doc pm an cdv ct), osl⟩) (c : PySem.W.codeIn K cdv x = true) (k : PySem.W.keepIn K (.ref f) = true) : Fd K mg x st := ⟨_, _, fun_mk l c k, PySem.W.mg_of X G a, k⟩
structure Md (K : PySem.W.Frag) (C : Addr) (m qual : Str) (st : Stmt) : Prop where
 ex : ∃ f fd, Fun K m qual st f fd /\ Meth K C m f
theorem md_mk {K : PySem.W.Frag} {C : Addr} {m qual : Str} {st : Stmt} {f : Addr} {oc : Value} {od an : Option Addr} {osl : Array (Option Value)} {kV doc pm cdv ct : Value} (a : PySem.W.findIn K (.ref C) m = some (some (.ref f))) (i : PySem.W.isFn K (.ref f) = true)
  (l : K.lookup f = some ⟨oc, od, .func (PySem.W.fnOf m qual (defArgs st) (defBody st) (defScope st) .none kV doc pm an cdv ct), osl⟩) (c : PySem.W.codeIn K cdv qual = true) (k : PySem.W.keepIn K (.ref f) = true) : Md K C m qual st := ⟨_, _, fun_mk l c k, a, i, k⟩
theorem cal {P : Program} {w : World} {K : PySem.W.Frag} {mg : Str -> Option Value} {base : Heap} {x : Str} {st : Stmt} {k : Nat} {ps : List Str} {sp : Sp} (d : Fd K mg x st) (ok : ∀ f fd, Fun K x x st f fd -> FnOk P w K mg base CX0 k f fd ps sp)
  (h : ∀ (kV doc pm : Value) (an : Option Addr) (cdv ct : Value) (us : List Value), us.length = ps.length -> bindArgs (PySem.W.fnOf x x (defArgs st) (defBody st) (defScope st) .none kV doc pm an cdv ct) ⟨us, []⟩ = pure (ps.zip us)) : Cal P w K mg base k x ps sp := by
 obtain ⟨f, fd, F, m, kp⟩ := d.ex
 exact ⟨f, fd, ok f fd F, m, kp, F.binds h⟩
theorem calM {P : Program} {w : World} {K : PySem.W.Frag} {mg : Str -> Option Value} {base : Heap} {C : Addr} {m qual : Str} {st : Stmt} {k : Nat} {ps : List Str} {sp : Sp} (d : Md K C m qual st) (ok : ∀ f fd, Fun K m qual st f fd -> FnOk P w K mg base CX0 k f fd ps sp)
  (h : ∀ (kV doc pm : Value) (an : Option Addr) (cdv ct : Value) (us : List Value), us.length = ps.length -> bindArgs (PySem.W.fnOf m qual (defArgs st) (defBody st) (defScope st) .none kV doc pm an cdv ct) ⟨us, []⟩ = pure (ps.zip us)) : CalM P w K mg base C k m ps sp := by
 obtain ⟨f, fd, F, m⟩ := d.ex
 exact ⟨f, fd, ok f fd F, m, F.binds h⟩
theorem calX {P : Program} {w : World} {K : PySem.W.Frag} {mg : Str -> Option Value} {base : Heap} {C : Addr} {m qual : Str} {st : Stmt} {k : Nat} {ps : List Str} {sp : Sp} (d : Md K C m qual st) (ok : ∀ f fd, Fun K m qual st f fd -> FnOk P w K mg base (CX1 P w) k f fd ps sp)
  (h : ∀ (kV doc pm : Value) (an : Option Addr) (cdv ct : Value) (us : List Value), us.length = ps.length -> bindArgs (PySem.W.fnOf m qual (defArgs st) (defBody st) (defScope st) .none kV doc pm an cdv ct) ⟨us, []⟩ = pure (ps.zip us)) : CalX P w K mg base C k m ps sp := by
 obtain ⟨f, fd, F, m⟩ := d.ex
 exact ⟨f, fd, ok f fd F, m, F.binds h⟩
theorem calC {P : Program} {w : World} {K : PySem.W.Frag} {mg : Str -> Option Value} {base : Heap} {C : Addr} {x qual : Str} {st : Stmt} {k : Nat} {ps : List Str} {sp : Sp} (d : Md K C "__init__" qual st) (hx : mg x = some (.ref C)) (mk : PySem.W.makesIn K C = true) (kc : PySem.W.keepIn K (.ref C) = true) (ok : ∀ f fd, Fun K "__init__" qual st f fd -> FnOk P w K mg base CX0 k f fd ps sp)
  (h : ∀ (kV doc pm : Value) (an : Option Addr) (cdv ct : Value) (us : List Value), us.length = ps.length -> bindArgs (PySem.W.fnOf "__init__" qual (defArgs st) (defBody st) (defScope st) .none kV doc pm an cdv ct) ⟨us, []⟩ = pure (ps.zip us)) : CalC P w K mg base C k x ps sp := by
 obtain ⟨f, fd, F, m⟩ := d.ex
 exact ⟨f, fd, ok f fd F, ⟨mk, m.1, m.2, kc⟩, hx, F.binds h⟩
theorem calG {P : Program} {w : World} {K : PySem.W.Frag} {mg : Str -> Option Value} {base : Heap} {x : Str} {st : Stmt} {k : Nat} {ps : List Str} {sp : Sp} (d : Fd K mg x st) (ok : ∀ f fd, Fun K x x st f fd -> FnOk P w K mg base (CX2 P w) k f fd ps sp)
  (h : ∀ (kV doc pm : Value) (an : Option Addr) (cdv ct : Value) (us : List Value), us.length = ps.length -> bindArgs (PySem.W.fnOf x x (defArgs st) (defBody st) (defScope st) .none kV doc pm an cdv ct) ⟨us, []⟩ = pure (ps.zip us)) : CalG P w K mg base k x ps sp := by
 obtain ⟨f, fd, F, m, kp⟩ := d.ex
 exact ⟨f, fd, ok f fd F, m, kp, F.binds h⟩
set_option maxHeartbeats 1600000 in
theorem all_mk {l : PySem.W.OpenLaw} {w : World} {K : PySem.W.Frag} {h : Heap} {mg : Str -> Option Value} {fa CW CG CP CN CE fi fl : Addr} (X : K.In h) (G : h.Ns mainGlobals mg) (hfa : mg "law" = some (.ref fa))
  (f0 : Fd K mg "is_whole" sIsW)
  (f1 : Fd K mg "is_whole_within" sWhole)
  (f2 : Fd K mg "is_name" sName)
  (f3 : Fd K mg "lesser_first" sLesser)
  (f4 : Fd K mg "is_pair_of_names" sPair)
  (f5 : Fd K mg "sorted_ties" sSorted)
  (f6 : Fd K mg "checked_stand" sCStand)
  (f7 : Fd K mg "is_of_three_texts" sThree)
  (f8 : Fd K mg "fault_of" sFault)
  (f9 : Fd K mg "bad" sBad)
  (f10 : Fd K mg "judged" sJudged)
  (f11 : Fd K mg "moved" sMoved)
  (f12 : Fd K mg "is_hand_with_strength" sHand)
  (f13 : Fd K mg "checked_strengths" sStr)
  (f14 : Fd K mg "checked_ties" sTies)
  (f15 : Fd K mg "neighbours_of_all" sNear)
  (f16 : Fd K mg "checked_ways" sCWays)
  (f17 : Fd K mg "checked_piece" sCPiece)
  (f18 : Fd K mg "checked_pieces" sCPieces)
  (f19 : Fd K mg "_law_cell_at" sCell)
  (f20 : Fd K mg "_law_digit" sDigit)
  (f21 : Fd K mg "_law_names" sNames)
  (f22 : Fd K mg "_law_web" sLWeb)
  (f23 : Fd K mg "_law_ways" sWays)
  (f24 : Fd K mg "_law_pieces" sPieces)
  (f25 : Fd K mg "_law_stand" sStand)
  (f26 : Fd K mg "_law_made" sMade)
  (f27 : Fd K mg "_law_reason" sReason)
  (f28 : Fd K mg "_law_walked" sWalked)
  (f29 : Fd K mg "_law_move" sMove)
  (f30 : Fd K mg "_law_moved" sLMoved)
  (m0 : Md K CW "__init__" "Web.__init__" sInit)
  (m1 : Md K CW "has_hand" "Web.has_hand" sHas)
  (m2 : Md K CW "are_tied" "Web.are_tied" sTied)
  (m3 : Md K CG "__init__" "Goods.__init__" sGInit)
  (m4 : Md K CG "has_piece" "Goods.has_piece" sGHas)
  (m5 : Md K CG "names" "Goods.names" sGNames)
  (m6 : Md K CG "may_go" "Goods.may_go" sGMay)
  {ocl kVl dcl pml cdl ctl : Value} {odl anl : Option Addr} {sll : Array (Option Value)} {ocn kVn dcn pmn cdn ctn : Value} {odn ann : Option Addr} {sln : Array (Option Value)} {t8 t9 t10 t11 : Tok}
  (al : PySem.W.nsIn K mainGlobals "law" = some (some (.ref fl))) (ll : K.lookup fl = some ⟨ocl, odl, .func (PySem.W.fnOf "law" "law" (defArgs sLaw) (defBody sLaw) (defScope sLaw) .none kVl dcl pml anl cdl ctl), sll⟩) (cl : PySem.W.codeIn K cdl "law" = true) (kl : PySem.W.keepIn K (.ref fl) = true)
  (aW : PySem.W.nsIn K mainGlobals "Web" = some (some (.ref CW))) (aG : PySem.W.nsIn K mainGlobals "Goods" = some (some (.ref CG))) (aCP : PySem.W.nsIn K mainGlobals "NoPiece" = some (some (.ref CP))) (aCN : PySem.W.nsIn K mainGlobals "NoMove" = some (some (.ref CN))) (aCE : PySem.W.nsIn K mainGlobals "EvenError" = some (some (.ref CE)))
  (c8 : PySem.W.nsIn K mainGlobals "MOST_LETTERS" = some (some (.int 8 t8))) (c9 : PySem.W.nsIn K mainGlobals "MOST_HANDS" = some (some (.int 8 t9))) (c10 : PySem.W.nsIn K mainGlobals "MOST_STRENGTH" = some (some (.int 1000 t10))) (c11 : PySem.W.nsIn K mainGlobals "MOST_WEIGHT" = some (some (.int 1000000000 t11)))
  (wpg : PySem.W.plainGet K CW Str.empty = true) (whd : PySem.W.hasDictIn K CW = true) (wpo : PySem.W.plainOver K CW = true) (wsa : PySem.W.findIn K (.ref CW) "__setattr__" = some (some (.builtin "object.__setattr__"))) (wmk : PySem.W.makesIn K CW = true) (wkc : PySem.W.keepIn K (.ref CW) = true)
  (gpg : PySem.W.plainGet K CG Str.empty = true) (ghd : PySem.W.hasDictIn K CG = true) (gpo : PySem.W.plainOver K CG = true) (gsa : PySem.W.findIn K (.ref CG) "__setattr__" = some (some (.builtin "object.__setattr__"))) (gmk : PySem.W.makesIn K CG = true) (gkc : PySem.W.keepIn K (.ref CG) = true)
  (nS : PySem.W.findIn K (.ref CW) "strength_by_hand" = some none) (nP : PySem.W.findIn K (.ref CW) "sorted_pairs" = some none) (nN : PySem.W.findIn K (.ref CW) "neighbours_by_hand" = some none)
  (nW : PySem.W.findIn K (.ref CG) "web" = some none) (nG : PySem.W.findIn K (.ref CG) "weight_by_name" = some none) (nY : PySem.W.findIn K (.ref CG) "ways_by_name" = some none)
  (iha : PySem.W.findIn K (.ref CW) "__class__" = some (some (.builtin "object.__class__"))) (ihn : PySem.W.specialIn K (.builtin "object.__class__") "__get__" = some (some (.builtin "getset_descriptor.__get__"))) (itk : PySem.W.takesIn K (.builtin "object.__class__") = some true) (imo : PySem.W.mroIn K CW (.type "object") = some true)
  (na : PySem.W.findIn K (.ref CN) "__init__" = some (some (.ref fi))) (nf : PySem.W.typeIn K (.ref fi) = some (.type "function")) (nl : K.lookup fi = some ⟨ocn, odn, .func (PySem.W.fnOf "__init__" "NoMove.__init__" (defArgs sNMI) (defBody sNMI) (defScope sNMI) .none kVn dcn pmn ann cdn ctn), sln⟩) (nc : PySem.W.codeIn K cdn "NoMove.__init__" = true) (nk : PySem.W.keepIn K (.ref fi) = true)
  (ecl : (PySem.W.clsIn K CN).isSome = true) (ega : PySem.W.findIn K (.ref CN) "__getattribute__" = some (some (.builtin "BaseException.__getattribute__"))) (eha : PySem.W.findIn K (.ref CN) "__getattr__" = some none) (eca : PySem.W.findIn K (.ref CN) "__class__" = some (some (.builtin "object.__class__"))) (emo : PySem.W.mroIn K CN (.type "object") = some true) (emb : PySem.W.mroIn K CN (.type "BaseException") = some true)
  (nex : excInO K CN bmV "ValueError.__new__" = true) (nes : PySem.W.findIn K (.ref CN) "__setattr__" = some (some (.builtin "object.__setattr__"))) (ncl : clsO K CN CE = true)
  (ktk : PySem.W.takerIn K CN "k" = some none) (kfd : PySem.W.findIn K (.ref CN) "k" = some none) (rtk : PySem.W.takerIn K CN "reason" = some none) (rfd : PySem.W.findIn K (.ref CN) "reason" = some none)
  (bsp : PySem.W.specialIn K (.ref CE) "__getattribute__" = some (some (.builtin "type.__getattribute__"))) (brd : PySem.W.readsIn K CE (.type "type") = true) (bfc : PySem.W.findCls K (.ref CE) (.type "type") "__init__" = some (.val (.builtin "ValueError.__init__")))
  (nkp : PySem.W.keepIn K (.ref CN) = true) (nhd : PySem.W.hasDictIn K CN = true)
  (kn : PySem.W.exmOne K (.ref CN) (.ref CN) = some true)
  (pex : PySem.W.excIn K CP [.type "ValueError", .type "Exception", .type "BaseException", .type "object"] "ValueError.__new__" = true)
  (z0 : PySem.W.nsIn K mainGlobals "isinstance" = some none) (z1 : PySem.W.nsIn K mainGlobals "int" = some none) (z2 : PySem.W.nsIn K mainGlobals "bool" = some none) (z3 : PySem.W.nsIn K mainGlobals "str" = some none) (z4 : PySem.W.nsIn K mainGlobals "tuple" = some none) (z5 : PySem.W.nsIn K mainGlobals "list" = some none) (z6 : PySem.W.nsIn K mainGlobals "dict" = some none) (z7 : PySem.W.nsIn K mainGlobals "len" = some none) (z8 : PySem.W.nsIn K mainGlobals "all" = some none) (z9 : PySem.W.nsIn K mainGlobals "sorted" = some none) (z10 : PySem.W.nsIn K mainGlobals "max" = some none) (z11 : PySem.W.nsIn K mainGlobals "range" = some none) (z12 : PySem.W.nsIn K mainGlobals "any" = some none) (z13 : PySem.W.nsIn K mainGlobals "enumerate" = some none) (z14 : PySem.W.nsIn K mainGlobals "min" = some none) :
  ∃ fd : FuncData, (∀ (s : Shared) (v : Value), BindsTo s fd ⟨[v], []⟩ [("_law_script", v)]) /\ ∀ base : Heap, K.In base -> base.Ns mainGlobals mg -> FnOk l.prog w K mg base CX0 10 fa fd ["_law_script"] (spLaw K) := by
 have e := hfa.symm.trans (PySem.W.mg_of X G al)
 cases e
 have B : Bi mg := ⟨PySem.W.mg_none_of X G z0, PySem.W.mg_none_of X G z1, PySem.W.mg_none_of X G z2, PySem.W.mg_none_of X G z3, PySem.W.mg_none_of X G z4, PySem.W.mg_none_of X G z5, PySem.W.mg_none_of X G z6, PySem.W.mg_none_of X G z7, PySem.W.mg_none_of X G z8, PySem.W.mg_none_of X G z9, PySem.W.mg_none_of X G z10, PySem.W.mg_none_of X G z11, PySem.W.mg_none_of X G z12, PySem.W.mg_none_of X G z13⟩
 have TW : Txt K mg CW := ⟨⟨wpg, whd, wpo, wsa⟩, nS, nP, nN⟩
 have T : TxtG K CG := ⟨⟨gpg, ghd, gpo, gsa⟩, nW, nG, nY⟩
 have IW : InsK K CW := ⟨iha, ihn, itk, imo⟩
 have R : Ref K mg "NoPiece" CP := ⟨PySem.W.mg_of X G aCP, pex⟩
 have FL := fun_mk (st := sLaw) ll cl kl
 have FN := fun_mk (st := sNMI) nl nc nk
 have M : NMv K mg CN CE fi := ⟨⟨⟨ecl, ega, eha, eca, ihn, itk, emo, emb⟩, nex, nes, ncl⟩, ⟨ktk, kfd⟩, ⟨rtk, rfd⟩, ⟨bsp, brd, bfc⟩, PySem.W.mg_of X G aCN, PySem.W.mg_of X G aCE, na, nf, nkp, nhd⟩
 refine ⟨PySem.W.fnOf "law" "law" (defArgs sLaw) (defBody sLaw) (defScope sLaw) .none kVl dcl pml anl cdl ctl, fun s v => .of_eq rfl, fun base _ _ => ?_⟩
 have cIsW : Cal l.prog w K mg base 1 "is_whole" ["thing"] spIsW := cal f0 (fun _ _ F => ok_isW F B) (fun _ _ _ _ _ _ us hl => match us, hl with | [_], _ => rfl)
 have cWhole : Cal l.prog w K mg base 2 "is_whole_within" ["thing", "least", "most"] spWhole := cal f1 (fun _ _ F => ok_whole F cIsW) (fun _ _ _ _ _ _ us hl => match us, hl with | [_, _, _], _ => rfl)
 have cName : Cal l.prog w K mg base 1 "is_name" ["thing"] spName := cal f2 (fun _ _ F => ok_name F B (PySem.W.mg_of X G c8)) (fun _ _ _ _ _ _ us hl => match us, hl with | [_], _ => rfl)
 have cLess : Cal l.prog w K mg base 1 "lesser_first" ["one", "other"] spLesser := cal f3 (fun _ _ F => ok_lesser F) (fun _ _ _ _ _ _ us hl => match us, hl with | [_, _], _ => rfl)
 have cPair : Cal l.prog w K mg base 2 "is_pair_of_names" ["thing"] spPair := cal f4 (fun _ _ F => ok_pair F B cName) (fun _ _ _ _ _ _ us hl => match us, hl with | [_], _ => rfl)
 have cSort : Cal l.prog w K mg base 3 "sorted_ties" ["ties"] (spSorted K) := cal f5 (fun _ _ F => ok_sorted F B cPair cLess) (fun _ _ _ _ _ _ us hl => match us, hl with | [_], _ => rfl)
 have cHand : Cal l.prog w K mg base 3 "is_hand_with_strength" ["thing"] spHand := cal f12 (fun _ _ F => ok_hand F B cName cWhole (PySem.W.mg_of X G c10)) (fun _ _ _ _ _ _ us hl => match us, hl with | [_], _ => rfl)
 have cStr : Cal l.prog w K mg base 4 "checked_strengths" ["hands"] (spStr K) := cal f13 (fun _ _ F => ok_str F B cHand (PySem.W.mg_of X G c9)) (fun _ _ _ _ _ _ us hl => match us, hl with | [_], _ => rfl)
 have cTies : Cal l.prog w K mg base 4 "checked_ties" ["ties", "strengths"] (spTies K) := cal f14 (fun _ _ F => ok_ties F B cSort) (fun _ _ _ _ _ _ us hl => match us, hl with | [_, _], _ => rfl)
 have cNear : Cal l.prog w K mg base 2 "neighbours_of_all" ["names", "ties"] (spNear K) := cal f15 (fun _ _ F => ok_near F cLess) (fun _ _ _ _ _ _ us hl => match us, hl with | [_, _], _ => rfl)
 have cWeb : CalC l.prog w K mg base CW 5 "Web" ["self", "hands", "ties"] (spInit K CW) := calC m0 (PySem.W.mg_of X G aW) wmk wkc (fun _ _ F => ok_init F TW B cStr cTies cNear) (fun _ _ _ _ _ _ us hl => match us, hl with | [_, _, _], _ => rfl)
 have mHasA : CalM l.prog w K mg base CW 1 "has_hand" ["self", "thing"] (spHasA K CW) := calM m1 (fun _ _ F => ok_hasA F TW B) (fun _ _ _ _ _ _ us hl => match us, hl with | [_, _], _ => rfl)
 have mHas : CalM l.prog w K mg base CW 1 "has_hand" ["self", "thing"] (spHas K CW) := calM m1 (fun _ _ F => ok_has F TW B) (fun _ _ _ _ _ _ us hl => match us, hl with | [_, _], _ => rfl)
 have mTied : CalM l.prog w K mg base CW 2 "are_tied" ["self", "one", "other"] (spTiedA K CW) := calM m2 (fun _ _ F => ok_tiedA F TW mHasA) (fun _ _ _ _ _ _ us hl => match us, hl with | [_, _, _], _ => rfl)
 have cCW : Cal l.prog w K mg base 4 "checked_ways" ["web", "ways"] (spCWays K CW) := cal f16 (fun _ _ F => ok_cways F TW cSort mTied) (fun _ _ _ _ _ _ us hl => match us, hl with | [_, _], _ => rfl)
 have cCP : Cal l.prog w K mg base 5 "checked_piece" ["web", "piece"] (spCPiece K CW) := cal f17 (fun _ _ F => ok_cpiece F B cName cWhole cCW (PySem.W.mg_of X G c11)) (fun _ _ _ _ _ _ us hl => match us, hl with | [_, _], _ => rfl)
 have cCPs : Cal l.prog w K mg base 6 "checked_pieces" ["web", "pieces"] (spCPieces K CW) := cal f18 (fun _ _ F => ok_cpieces F B cCP) (fun _ _ _ _ _ _ us hl => match us, hl with | [_, _], _ => rfl)
 have cGoods : CalC l.prog w K mg base CG 7 "Goods" ["self", "web", "pieces"] (spGInit K CG CW) := calC m3 (PySem.W.mg_of X G aG) gmk gkc (fun _ _ F => ok_ginit F T TW IW B (PySem.W.mg_of X G aW) cCPs) (fun _ _ _ _ _ _ us hl => match us, hl with | [_, _, _], _ => rfl)
 have gHas : CalM l.prog w K mg base CG 1 "has_piece" ["self", "thing"] (spGHas K CG CW) := calM m4 (fun _ _ F => ok_ghas F T B) (fun _ _ _ _ _ _ us hl => match us, hl with | [_, _], _ => rfl)
 have gNames : CalM l.prog w K mg base CG 1 "names" ["self"] (spGNames K CG CW) := calM m5 (fun _ _ F => ok_gnames F T B) (fun _ _ _ _ _ _ us hl => match us, hl with | [_], _ => rfl)
 have gMay : CalX l.prog w K mg base CG 3 "may_go" ["self", "piece", "one", "other"] (spGMay K CG CW CP) := calX m6 (fun _ _ F => ok_gmay F T TW R gHas mTied cLess) (fun _ _ _ _ _ _ us hl => match us, hl with | [_, _, _, _], _ => rfl)
 have cCS : Cal l.prog w K mg base 2 "checked_stand" ["goods", "stand"] (spCStand K CG CW) := cal f6 (fun _ _ F => ok_cstand F B T TW gHas mHas gNames) (fun _ _ _ _ _ _ us hl => match us, hl with | [_, _], _ => rfl)
 have cTh : Cal l.prog w K mg base 1 "is_of_three_texts" ["thing"] spThree := cal f7 (fun _ _ F => ok_three F B) (fun _ _ _ _ _ _ us hl => match us, hl with | [_], _ => rfl)
 have cFa : Cal l.prog w K mg base 4 "fault_of" ["goods", "placed", "move"] (spFault K CG CW) := cal f8 (fun _ _ F => ok_fault F T TW cTh gHas mTied gMay) (fun _ _ _ _ _ _ us hl => match us, hl with | [_, _, _], _ => rfl)
 have cBa : Cal l.prog w K mg base 1 "bad" ["k", "reason"] spBad := cal f9 (fun _ _ F => ok_bad F) (fun _ _ _ _ _ _ us hl => match us, hl with | [_, _], _ => rfl)
 have cJu : Cal l.prog w K mg base 5 "judged" ["goods", "stand", "moves"] (spJudged K CG CW) := cal f10 (fun _ _ F => ok_judged F B B.enum cCS cFa cBa) (fun _ _ _ _ _ _ us hl => match us, hl with | [_, _, _], _ => rfl)
 have Fi := ok_nmi (P := l.prog) (w := w) (mg := mg) (base := base) FN M
 have hb := FN.binds (ps := ["self", "k", "reason"]) (fun _ _ _ _ _ _ us hl => match us, hl with | [_, _, _], _ => rfl)
 have cV : CalG l.prog w K mg base 6 "moved" ["goods", "stand", "moves"] (spMoved K CG CW CN) := calG f11 (fun _ _ F => ok_moved F M Fi hb cJu) (fun _ _ _ _ _ _ us hl => match us, hl with | [_, _, _], _ => rfl)
 have cCell : Cal l.prog w K mg base 1 "_law_cell_at" ["_law_script", "_law_k"] (spCell K) := cal f19 (fun _ _ F => ok_cell F B) (fun _ _ _ _ _ _ us hl => match us, hl with | [_, _], _ => rfl)
 have cDig : Cal l.prog w K mg base 1 "_law_digit" ["_law_state", "_law_base"] spDigit := cal f20 (fun _ _ F => ok_digit F B) (fun _ _ _ _ _ _ us hl => match us, hl with | [_, _], _ => rfl)
 have cNms : Cal l.prog w K mg base 2 "_law_names" ["_law_state", "_law_many"] spNames := cal f21 (fun _ _ F => ok_names F B cDig) (fun _ _ _ _ _ _ us hl => match us, hl with | [_, _], _ => rfl)
 have cLW : Cal l.prog w K mg base 3 "_law_web" ["_law_state", "_law_most"] (spLWeb K) := cal f22 (fun _ _ F => ok_lweb F B cDig cNms) (fun _ _ _ _ _ _ us hl => match us, hl with | [_, _], _ => rfl)
 have cLY : Cal l.prog w K mg base 2 "_law_ways" ["_law_state", "_law_ties"] (spWays K) := cal f23 (fun _ _ F => ok_ways F B cDig) (fun _ _ _ _ _ _ us hl => match us, hl with | [_, _], _ => rfl)
 have cLP : Cal l.prog w K mg base 3 "_law_pieces" ["_law_state", "_law_ties", "_law_most"] (spPieces K) := cal f24 (fun _ _ F => ok_pieces F B cDig cNms cLY) (fun _ _ _ _ _ _ us hl => match us, hl with | [_, _, _], _ => rfl)
 have cSt : Cal l.prog w K mg base 2 "_law_stand" ["_law_state", "_law_pieces_here", "_law_hands"] (spStand K) := cal f25 (fun _ _ F => ok_stand F B cDig) (fun _ _ _ _ _ _ us hl => match us, hl with | [_, _, _], _ => rfl)
 have cMd : Cal l.prog w K mg base 9 "_law_made" ["_law_script"] (spMade K CG CW) := cal f26 (fun _ _ F => ok_made F cCell cLW cLP cWeb cGoods) (fun _ _ _ _ _ _ us hl => match us, hl with | [_], _ => rfl)
 have cRe : Cal l.prog w K mg base 1 "_law_reason" ["_law_ties", "_law_ways_here", "_law_later", "_law_move_here"] (spReason K) := cal f27 (fun _ _ F => ok_reason F B) (fun _ _ _ _ _ _ us hl => match us, hl with | [_, _, _, _], _ => rfl)
 have cWk : Cal l.prog w K mg base 2 "_law_walked" ["_law_ties", "_law_pieces_here", "_law_stand_here", "_law_row"] (spWalked K) := cal f28 (fun _ _ F => ok_walked F B cRe) (fun _ _ _ _ _ _ us hl => match us, hl with | [_, _, _, _], _ => rfl)
 have cMv : Cal l.prog w K mg base 2 "_law_move" ["_law_state", "_law_hands", "_law_ties", "_law_pieces_here", "_law_later", "_law_rare"] (spMove K) := cal f29 (fun _ _ F => ok_move F B cDig) (fun _ _ _ _ _ _ us hl => match us, hl with | [_, _, _, _, _, _], _ => rfl)
 have cLM : Cal l.prog w K mg base 7 "_law_moved" ["_law_goods", "_law_stand_here", "_law_row"] (spJudged K CG CW) := cal f30 (fun _ _ F => ok_lmoved F M kn cV) (fun _ _ _ _ _ _ us hl => match us, hl with | [_, _, _], _ => rfl)
 exact ok_law FL B (PySem.W.mg_none_of X G z14) cCell cDig cMd cSt cMv cWk cLM cJu
theorem walk {l : PySem.W.OpenLaw} {q : Program} {loose : List Str} {XP : (Str -> Option Value) -> Heap -> Prop} {YP : World -> Heap -> Prop} {d : DefRec} {K : Params -> PySem.W.Frag} (hn : l.most = some 63) (hdf : d.params.defaults = [])
  (hY : ∀ (w : World) (h : Heap), YP w h -> (K w.params).In h)
  (F : ∀ (w : World) (mg : Str -> Option Value) (fa : Addr) (h : Heap), (K w.params).In h -> h.Ns mainGlobals mg -> mg d.name = some (.ref fa) ->
   ∃ fd : FuncData, (∀ (s : Shared) (u : Value), BindsTo s fd ⟨[u], []⟩ [("_law_script", u)]) /\ ∀ base : Heap, (K w.params).In base -> base.Ns mainGlobals mg -> FnOk l.prog w (K w.params) mg base CX0 10 fa fd ["_law_script"] (spLaw (K w.params))) :
  PySem.W.WalkO q loose XP YP l.row.toRowW d [] (fun f vs => PySem.call f vs) :=
 L2.walk_of (n := 63) (k := 10) (x := "_law_script") (CX := fun _ => CX0) (sp := fun w => spLaw (K w.params)) hn (by decide) hdf ⟨rfl, by decide, by decide⟩ hY F (fun _ _ a ns hl _ hS => ⟨a, ns, rfl, hS, hl, fun _ => rfl⟩) fun _ _ _ _ _ z => z
end Ev
set_option Elab.async false
set_option linter.all false
namespace PySem.W.Fast
def tw7514992923004845344 : Unit := ()
def tw5251471243762739618 : Unit := ()
def tw14540269564701076994 : Unit := ()
def tw1161044896519777186 : Unit := ()
def tw7424549627891722883 : Unit := ()
def tw5938148955174304164 : Unit := ()
def tw7638979126824426757 : Unit := ()
def tw2817576545253970086 : Unit := ()
def tw4161339539173753895 : Unit := ()
def tw4619480961526097127 : Unit := ()
def tw13089731972869536743 : Unit := ()
def tw15596139251437345321 : Unit := ()
def tw5451396655114822891 : Unit := ()
def tw8426108855653611819 : Unit := ()
def tw864258911641612780 : Unit := ()
def tw4377280813193386508 : Unit := ()
def tw2822822017253195532 : Unit := ()
def tw14882949542510462605 : Unit := ()
def tw17397157425099139214 : Unit := ()
def tw15388837334711771279 : Unit := ()
def tw18437271419198747983 : Unit := ()
def tw10993217625405242866 : Unit := ()
def tw8615415158780329651 : Unit := ()
def tw4120287528723885365 : Unit := ()
def tw5265836613162235126 : Unit := ()
def tw4273429111513722422 : Unit := ()
def tw17313883294208303064 : Unit := ()
def tw8297267508968851417 : Unit := ()
def tw9226775728028323610 : Unit := ()
def tw13542748868494893435 : Unit := ()
def tw3803404638963879644 : Unit := ()
def tw17334489071854174366 : Unit := ()
def tw453737896019595102 : Unit := ()
end PySem.W.Fast
open PySem PySem.W PyProof.Rows
set_option maxRecDepth 100000 in
set_option maxHeartbeats 0 in
theorem PySem.Challenge.cw_evenpieces_k98_whole_rows_of_moves_walke_holds : PySem.Challenge.rw_evenpieces_k98_whole_rows_of_moves_walke.Holds := by
 w_on; o_law; k_head; (case hw => w_witness2)
 k_fill
 refine Ev.walk (l := PySem.Challenge.rw_evenpieces_k98_whole_rows_of_moves_walke) rfl rfl (fun w h Y => PySem.W.kIn_of Y) ?F
 case F =>
  intro w mg fa h KX G hmg
  refine' Ev.all_mk KX G hmg (Ev.fd_mk KX G ?f0a ?f0l ?f0c ?f0k) (Ev.fd_mk KX G ?f1a ?f1l ?f1c ?f1k) (Ev.fd_mk KX G ?f2a ?f2l ?f2c ?f2k) (Ev.fd_mk KX G ?f3a ?f3l ?f3c ?f3k) (Ev.fd_mk KX G ?f4a ?f4l ?f4c ?f4k) (Ev.fd_mk KX G ?f5a ?f5l ?f5c ?f5k) (Ev.fd_mk KX G ?f6a ?f6l ?f6c ?f6k) (Ev.fd_mk KX G ?f7a ?f7l ?f7c ?f7k) (Ev.fd_mk KX G ?f8a ?f8l ?f8c ?f8k) (Ev.fd_mk KX G ?f9a ?f9l ?f9c ?f9k) (Ev.fd_mk KX G ?f10a ?f10l ?f10c ?f10k) (Ev.fd_mk KX G ?f11a ?f11l ?f11c ?f11k) (Ev.fd_mk KX G ?f12a ?f12l ?f12c ?f12k) (Ev.fd_mk KX G ?f13a ?f13l ?f13c ?f13k) (Ev.fd_mk KX G ?f14a ?f14l ?f14c ?f14k) (Ev.fd_mk KX G ?f15a ?f15l ?f15c ?f15k) (Ev.fd_mk KX G ?f16a ?f16l ?f16c ?f16k) (Ev.fd_mk KX G ?f17a ?f17l ?f17c ?f17k) (Ev.fd_mk KX G ?f18a ?f18l ?f18c ?f18k) (Ev.fd_mk KX G ?f19a ?f19l ?f19c ?f19k) (Ev.fd_mk KX G ?f20a ?f20l ?f20c ?f20k) (Ev.fd_mk KX G ?f21a ?f21l ?f21c ?f21k) (Ev.fd_mk KX G ?f22a ?f22l ?f22c ?f22k) (Ev.fd_mk KX G ?f23a ?f23l ?f23c ?f23k) (Ev.fd_mk KX G ?f24a ?f24l ?f24c ?f24k) (Ev.fd_mk KX G ?f25a ?f25l ?f25c ?f25k) (Ev.fd_mk KX G ?f26a ?f26l ?f26c ?f26k) (Ev.fd_mk KX G ?f27a ?f27l ?f27c ?f27k) (Ev.fd_mk KX G ?f28a ?f28l ?f28c ?f28k) (Ev.fd_mk KX G ?f29a ?f29l ?f29c ?f29k) (Ev.fd_mk KX G ?f30a ?f30l ?f30c ?f30k) (Ev.md_mk ?m0a ?m0i ?m0l ?m0c ?m0k) (Ev.md_mk ?m1a ?m1i ?m1l ?m1c ?m1k) (Ev.md_mk ?m2a ?m2i ?m2l ?m2c ?m2k) (Ev.md_mk ?m3a ?m3i ?m3l ?m3c ?m3k) (Ev.md_mk ?m4a ?m4i ?m4l ?m4c ?m4k) (Ev.md_mk ?m5a ?m5i ?m5l ?m5c ?m5k) (Ev.md_mk ?m6a ?m6i ?m6l ?m6c ?m6k) ?al ?ll ?cl ?kl ?aW ?aG ?aCP ?aCN ?aCE ?c8 ?c9 ?c10 ?c11 ?wpg ?whd ?wpo ?wsa ?wmk ?wkc ?gpg ?ghd ?gpo ?gsa ?gmk ?gkc ?nS ?nP ?nN ?nW ?nG ?nY ?iha ?ihn ?itk ?imo ?na ?nf ?nl ?nc ?nk ?ecl ?ega ?eha ?eca ?emo ?emb ?nex ?nes ?ncl ?ktk ?kfd ?rtk ?rfd ?bsp ?brd ?bfc ?nkp ?nhd ?kn ?pex ?z0 ?z1 ?z2 ?z3 ?z4 ?z5 ?z6 ?z7 ?z8 ?z9 ?z10 ?z11 ?z12 ?z13 ?z14
  (case aW => k_is); (case aG => k_is); (case aCP => k_is); (case aCN => k_is); (case aCE => k_is)
  (case f0a => k_is); (case f0l => k_is); (case f0c => k_is); (case f0k => k_is)
  (case f1a => k_is); (case f1l => k_is); (case f1c => k_is); (case f1k => k_is)
  (case f2a => k_is); (case f2l => k_is); (case f2c => k_is); (case f2k => k_is)
  (case f3a => k_is); (case f3l => k_is); (case f3c => k_is); (case f3k => k_is)
  (case f4a => k_is); (case f4l => k_is); (case f4c => k_is); (case f4k => k_is)
  (case f5a => k_is); (case f5l => k_is); (case f5c => k_is); (case f5k => k_is)
  (case f6a => k_is); (case f6l => k_is); (case f6c => k_is); (case f6k => k_is)
  (case f7a => k_is); (case f7l => k_is); (case f7c => k_is); (case f7k => k_is)
  (case f8a => k_is); (case f8l => k_is); (case f8c => k_is); (case f8k => k_is)
  (case f9a => k_is); (case f9l => k_is); (case f9c => k_is); (case f9k => k_is)
  (case f10a => k_is); (case f10l => k_is); (case f10c => k_is); (case f10k => k_is)
  (case f11a => k_is); (case f11l => k_is); (case f11c => k_is); (case f11k => k_is)
  (case f12a => k_is); (case f12l => k_is); (case f12c => k_is); (case f12k => k_is)
  (case f13a => k_is); (case f13l => k_is); (case f13c => k_is); (case f13k => k_is)
  (case f14a => k_is); (case f14l => k_is); (case f14c => k_is); (case f14k => k_is)
  (case f15a => k_is); (case f15l => k_is); (case f15c => k_is); (case f15k => k_is)
  (case f16a => k_is); (case f16l => k_is); (case f16c => k_is); (case f16k => k_is)
  (case f17a => k_is); (case f17l => k_is); (case f17c => k_is); (case f17k => k_is)
  (case f18a => k_is); (case f18l => k_is); (case f18c => k_is); (case f18k => k_is)
  (case f19a => k_is); (case f19l => k_is); (case f19c => k_is); (case f19k => k_is)
  (case f20a => k_is); (case f20l => k_is); (case f20c => k_is); (case f20k => k_is)
  (case f21a => k_is); (case f21l => k_is); (case f21c => k_is); (case f21k => k_is)
  (case f22a => k_is); (case f22l => k_is); (case f22c => k_is); (case f22k => k_is)
  (case f23a => k_is); (case f23l => k_is); (case f23c => k_is); (case f23k => k_is)
  (case f24a => k_is); (case f24l => k_is); (case f24c => k_is); (case f24k => k_is)
  (case f25a => k_is); (case f25l => k_is); (case f25c => k_is); (case f25k => k_is)
  (case f26a => k_is); (case f26l => k_is); (case f26c => k_is); (case f26k => k_is)
  (case f27a => k_is); (case f27l => k_is); (case f27c => k_is); (case f27k => k_is)
  (case f28a => k_is); (case f28l => k_is); (case f28c => k_is); (case f28k => k_is)
  (case f29a => k_is); (case f29l => k_is); (case f29c => k_is); (case f29k => k_is)
  (case f30a => k_is); (case f30l => k_is); (case f30c => k_is); (case f30k => k_is)
  (case m0a => k_is); (case m0i => k_is); (case m0l => k_is); (case m0c => k_is); (case m0k => k_is)
  (case m1a => k_is); (case m1i => k_is); (case m1l => k_is); (case m1c => k_is); (case m1k => k_is)
  (case m2a => k_is); (case m2i => k_is); (case m2l => k_is); (case m2c => k_is); (case m2k => k_is)
  (case m3a => k_is); (case m3i => k_is); (case m3l => k_is); (case m3c => k_is); (case m3k => k_is)
  (case m4a => k_is); (case m4i => k_is); (case m4l => k_is); (case m4c => k_is); (case m4k => k_is)
  (case m5a => k_is); (case m5i => k_is); (case m5l => k_is); (case m5c => k_is); (case m5k => k_is)
  (case m6a => k_is); (case m6i => k_is); (case m6l => k_is); (case m6c => k_is); (case m6k => k_is)
  (case al => k_is); (case ll => k_is); (case cl => k_is); (case kl => k_is); (case c8 => k_is); (case c9 => k_is); (case c10 => k_is); (case c11 => k_is); (case wpg => k_is); (case whd => k_is); (case wpo => k_is); (case wsa => k_is); (case wmk => k_is); (case wkc => k_is); (case gpg => k_is); (case ghd => k_is); (case gpo => k_is); (case gsa => k_is); (case gmk => k_is); (case gkc => k_is); (case nS => k_is); (case nP => k_is); (case nN => k_is); (case nW => k_is); (case nG => k_is); (case nY => k_is); (case iha => k_is); (case ihn => k_is); (case itk => k_is); (case imo => k_is); (case na => k_is); (case nf => k_is); (case nl => k_is); (case nc => k_is); (case nk => k_is); (case ecl => kernel_rfl); (case ega => k_is); (case eha => k_is); (case eca => k_is); (case emo => k_is); (case emb => k_is); (case nex => kernel_rfl); (case nes => k_is); (case ncl => kernel_rfl); (case ktk => kernel_rfl); (case kfd => k_is); (case rtk => kernel_rfl); (case rfd => k_is); (case bsp => kernel_rfl); (case brd => kernel_rfl); (case bfc => kernel_rfl); (case nkp => k_is); (case nhd => k_is); (case kn => kernel_rfl); (case pex => k_exc); (case z0 => k_is); (case z1 => k_is); (case z2 => k_is); (case z3 => k_is); (case z4 => k_is); (case z5 => k_is); (case z6 => k_is); (case z7 => k_is); (case z8 => k_is); (case z9 => k_is); (case z10 => k_is); (case z11 => k_is); (case z12 => k_is); (case z13 => k_is); (case z14 => k_is)

import PyProof.Rows.All
import Wide.All
import OpenK.AllK
import Wide.FinOn
import Lean
import PyProof.EqAt
import PyProof.EqKinds
import PyProof.TupleCall
import KE.KLam
import PySem.Challenge.RW_evenpieces_k03_what_is_no_web
set_option Elab.async false
set_option linter.all false
set_option maxRecDepth 100000
namespace L2
open PySem PySem.Spec PyProof.Rows
abbrev Key := Sum Int Str
def keyIs : Key -> Value -> Bool
  | .inl k, v => Value.isInt k v
  | .inr x, v => Value.isStrOf x v
def keyH (w : World) : Key -> Int
  | .inl k => hashInt k
  | .inr x => hashStr w x
theorem keyIs_shape : ∀ {k : Key} {v : Value}, keyIs k v = true -> (∃ i t, k = Sum.inl i /\ v = Value.int i t) ∨ (∃ x t, k = Sum.inr x /\ v = Value.str x t)
  | .inl i, v, h => by
    obtain ⟨t, e⟩ := Value.isInt_shape (k := i) (v := v) h
    exact .inl ⟨i, t, rfl, e⟩
  | .inr x, v, h => by
    obtain ⟨t, e⟩ := Value.isStrOf_shape (x := x) (v := v) h
    exact .inr ⟨x, t, rfl, e⟩
theorem keyIs_int (i : Int) (t : Tok) : keyIs (.inl i) (.int i t) = true := by simp [keyIs, Value.isInt]
theorem keyIs_str (x : Str) (t : Tok) : keyIs (.inr x) (.str x t) = true := by simp [keyIs, Value.isStrOf]
theorem key_ll (a b : Int) : decide ((Sum.inl a : Key) = Sum.inl b) = (a == b) := by
  by_cases e : a = b
  · subst e; simp
  · have h : ¬ (Sum.inl a : Key) = Sum.inl b := fun q => e (Sum.inl.inj q)
    rw [decide_eq_false h]
    exact (beq_eq_false_iff_ne.mpr e).symm
theorem key_rr (a b : Str) : decide ((Sum.inr a : Key) = Sum.inr b) = decide (a = b) := by
  by_cases e : a = b
  · subst e; simp
  · have h : ¬ (Sum.inr a : Key) = Sum.inr b := fun q => e (Sum.inr.inj q)
    rw [decide_eq_false h, decide_eq_false e]
theorem key_lr (a : Int) (b : Str) : decide ((Sum.inl a : Key) = Sum.inr b) = false := decide_eq_false (fun q => nomatch q)
theorem key_rl (a : Str) (b : Int) : decide ((Sum.inr a : Key) = Sum.inl b) = false := decide_eq_false (fun q => nomatch q)
def mixKind (prog : Program) (w : World) : PySem.KeyKind prog w Key where
  is := keyIs
  hash := keyH w
  inj := fun v a b ha hb => by
    rcases keyIs_shape ha with ⟨i, t, rfl, rfl⟩ | ⟨x, t, rfl, rfl⟩
    · rcases keyIs_shape hb with ⟨j, u, rfl, e⟩ | ⟨y, u, rfl, e⟩
      · injection e with e1 _; rw [e1]
      · exact nomatch e
    · rcases keyIs_shape hb with ⟨j, u, rfl, e⟩ | ⟨y, u, rfl, e⟩
      · exact nomatch e
      · injection e with e1 _; rw [e1]
  byValue := fun k v h => by
    rcases keyIs_shape h with ⟨i, t, rfl, rfl⟩ | ⟨x, t, rfl, rfl⟩ <;> rfl
  pyHash := fun hv h => by
    rcases keyIs_shape hv with ⟨i, t, rfl, rfl⟩ | ⟨x, t, rfl, rfl⟩
    · exact wpAny_pyHash_int h
    · exact wpAny_pyHash_str h
  eqBool := fun hu hv h => by
    rcases keyIs_shape hu with ⟨i, t, rfl, rfl⟩ | ⟨x, t, rfl, rfl⟩
    · rcases keyIs_shape hv with ⟨j, u, rfl, rfl⟩ | ⟨y, u, rfl, rfl⟩
      · rw [key_ll] at h; exact wpAny_eqBool_int h
      · rw [key_lr] at h; exact SeqAt.EqAt.int_str i t y u _ _ _ _ h
    · rcases keyIs_shape hv with ⟨j, u, rfl, rfl⟩ | ⟨y, u, rfl, rfl⟩
      · rw [key_rl] at h; exact SeqAt.EqAt.str_int x t j u _ _ _ _ h
      · rw [key_rr] at h; exact wpAny_eqBool_str h
  «strs» := fun k x t v h => by
    rcases keyIs_shape h with ⟨i, u, rfl, e⟩ | ⟨y, u, rfl, e⟩
    · exact nomatch e
    · injection e with e1 _
      subst e1
      cases v <;> rfl
theorem mixKind_int (prog : Program) (w : World) (i : Int) (t : Tok) : (mixKind prog w).is (.inl i) (.int i t) = true := keyIs_int i t
theorem mixKind_str (prog : Program) (w : World) (x : Str) (t : Tok) : (mixKind prog w).is (.inr x) (.str x t) = true := keyIs_str x t
end L2
namespace L2
open PySem PySem.Spec PyProof.Rows
inductive V where
  | non | bl (b : Bool) | int (i : Int) | str (x : Str) | byt (b : Array UInt8) | flt (b : UInt64) | ref (a : Addr) | ty (n : String)
  deriving DecidableEq
def RelV : V -> Value -> Prop
  | .non, u => u = Value.none
  | .bl b, u => u = Value.bool b
  | .int i, u => ∃ t, u = Value.int i t
  | .str x, u => ∃ t, u = Value.str x t
  | .byt b, u => ∃ t, u = Value.bytes b t
  | .flt b, u => ∃ t, u = Value.float b t
  | .ref a, u => u = Value.ref a
  | .ty n, u => u = Value.type n
abbrev Vals : List V -> List Value -> Prop := Paired RelV
theorem Vals.length {xs : List V} {us : List Value} (r : Vals xs us) : xs.length = us.length := Paired.length r
theorem Vals.get : ∀ {xs : List V} {us : List Value} {i : Nat} {x : V}, Vals xs us -> xs[i]? = some x -> ∃ u, us[i]? = some u /\ RelV x u
  | _, _, _, _, .nil, e => by simp at e
  | _, _, 0, _, .cons r _, e => by simp at e; subst e; exact ⟨_, rfl, r⟩
  | _, _, i + 1, x, .cons _ t, e => by
    obtain ⟨u, h1, h2⟩ := Vals.get (i := i) (x := x) t (by simpa using e)
    exact ⟨u, by simpa using h1, h2⟩
theorem Vals.set {x : V} {u : Value} (r : RelV x u) : ∀ {xs : List V} {us : List Value} (i : Nat), Vals xs us -> Vals (xs.set i x) (us.set i u)
  | _, _, _, .nil => .nil
  | _, _, 0, .cons _ t => .cons r t
  | _, _, i + 1, .cons q t => .cons q (Vals.set r i t)
theorem Vals.append : ∀ {xs ys : List V} {us ws : List Value}, Vals xs us -> Vals ys ws -> Vals (xs ++ ys) (us ++ ws)
  | _, _, _, _, .nil, s => s
  | _, _, _, _, .cons r t, s => .cons r (Vals.append t s)
theorem Vals.take : ∀ {xs : List V} {us : List Value} (n : Nat), Vals xs us -> Vals (xs.take n) (us.take n)
  | _, _, 0, _ => .nil
  | _, _, _ + 1, .nil => .nil
  | _, _, n + 1, .cons r t => .cons r (Vals.take n t)
theorem Vals.drop : ∀ {xs : List V} {us : List Value} (n : Nat), Vals xs us -> Vals (xs.drop n) (us.drop n)
  | _, _, 0, r => r
  | _, _, _ + 1, .nil => .nil
  | _, _, n + 1, .cons _ t => Vals.drop n t
def RelO : Option V -> Option Value -> Prop
  | some v, some u => RelV v u
  | none, none => True
  | _, _ => False
def KV {κ : Type} : List (κ × V) -> List (κ × Value) -> Prop := Paired fun (p : κ × V) (q : κ × Value) => p.1 = q.1 /\ RelV p.2 q.2
def kV : Key -> V
  | .inl i => .int i
  | .inr x => .str x
inductive HO where
    | lst (xs : List V)
    | tup (xs : List V)
    | dK (kvs : List (Key × V)) | dT (kvs : List (List Key × V))
    | set (S : Int -> Bool) (n : Nat)
    | ins (C dx : Addr) (fs : List (Str × V))
    | own (x : Addr)
    | xd (fs : List (Str × V))
    | met (f x : Addr)
    | rng (lo hi : Int)
    | frz (o : Obj) (u : HO)
    | tbl (ps : Array Value)
    | ext (φ : Heap -> Prop)
abbrev Hp := Addr -> Option HO
def upd (H : Hp) (a : Addr) (o : HO) : Hp := fun b => if b = a then some o else H b
theorem upd_same {H : Hp} {a : Addr} {o : HO} : upd H a o a = some o := by unfold upd; rw [if_pos rfl]
theorem upd_ne {H : Hp} {a b : Addr} {o : HO} (h : b ≠ a) : upd H a o b = H b := by unfold upd; rw [if_neg h]
theorem upd_upd {H : Hp} {a : Addr} {o u : HO} : upd (upd H a o) a u = upd H a u := by
  funext b; unfold upd; split <;> rfl
theorem ne_of {H : Hp} {a b : Addr} {o u : HO} (h : H a = some o) (h' : H b = some u) (d : o ≠ u) : a ≠ b := by
  intro e; subst e; rw [h] at h'; exact d (Option.some.inj h')
theorem ne_of_none {H : Hp} {a b : Addr} {o : HO} (h : H a = some o) (h' : H b = none) : a ≠ b := by
  intro e; subst e; rw [h] at h'; cases h'
section
variable (P : Program) (w : World)
def ObjOk (H : Hp) (h : Heap) (a : Addr) : HO -> Prop
  | .lst xs => xs.length <= sizeLine /\ ∃ (its : List Value) (n : Nat), Vals xs its /\ h.get? a = some { cls := .type "list", data := .seq its.toArray n }
  | .tup xs => xs.length <= sizeLine /\ ∃ its : List Value, Vals xs its /\ IsTup h a its.toArray /\ ∃ o, h.get? a = some o /\ o.dict = none
  | .dK kvs => kvs.length <= sizeLine /\ (a == sysModules) = false /\ ∃ vs, KV kvs vs /\ h.DictOf (mixKind P w) a vs
  | .dT kvs => kvs.length <= sizeLine /\ (a == sysModules) = false /\ ∃ xs : List (List Key × Addr × Value),
      Paired (fun (p : List Key × V) (q : List Key × Addr × Value) => p.1 = q.1 /\ H q.2.1 = some (.tup (p.1.map kV)) /\ RelV p.2 q.2.2) kvs xs /\
      ∃ o es ep, h.get? a = some o /\ o.ExactDict /\ o.data = .dict es ep /\ es.toList = xs.map (entryOfKey (tupleKind (mixKind P w))) /\ (xs.map (·.1)).Nodup
  | .set S n => h.SetOf (intKind P w) a S n
  | .ins C dx fs => H dx = some (.own a) /\ fs.length <= 1000 /\ dx ≠ a /\ h.get? a = some (PySem.W.instObj C dx) /\
      ∃ mA, h.Ns1 dx mA /\ (∀ f, RelO (fs.lookup f) (mA f)) /\ PySem.Within mA (fs.map (·.1))
  | .own _ => ∃ o, h.get? a = some o
  | .xd fs => ∃ mA, h.Ns1 a mA /\ ∀ f, RelO (fs.lookup f) (mA f)
  | .rng lo hi => ∃ t u v, h.get? a = some { cls := .type "range", data := .fields #[.int lo t, .int hi u, .int 1 v] }
  | .frz o u => h.get? a = some o /\ ObjOk H h a u
  | .tbl ps => h.get? a = some { cls := .none, data := .fields ps }
  | .met f x => h.get? a = some (PySem.W.methodObj (.ref f) (.ref x))
  | .ext φ => φ h /\ (∃ o, h.get? a = some o) /\ ∀ h1 h2 : Heap, φ h1 -> (∀ o, h1.get? a = some o -> h2.get? a = some o) -> φ h2
def HOk (H : Hp) (h : Heap) : Prop := ∀ a o, H a = some o -> ObjOk P w H h a o
end
section
variable {P : Program} {w : World} {H H' : Hp} {h h' : Heap} {a : Addr} {o : HO}
theorem ObjOk.lt (x : ObjOk P w H h a o) : a < h.objs.size := by
  cases o with
  | lst xs => obtain ⟨_, _, _, _, e⟩ := x; exact Heap.lt_size e
  | tup xs => obtain ⟨_, _, _, p, _⟩ := x; exact p.lt
  | dK kvs => obtain ⟨_, _, _, _, o, _, _, e, _⟩ := x; exact Heap.lt_size e
  | dT kvs => obtain ⟨_, _, _, _, o, _, _, e, _⟩ := x; exact Heap.lt_size e
  | set S n => obtain ⟨o, _, _, _, e, _⟩ := x; exact Heap.lt_size e
  | ins C dx fs => obtain ⟨_, _, _, e, _⟩ := x; exact Heap.lt_size e
  | own y => obtain ⟨_, e⟩ := x; exact Heap.lt_size e
  | xd fs => obtain ⟨_, ⟨_, _, _, e, _⟩, _⟩ := x; exact Heap.lt_size e
  | rng lo hi => obtain ⟨_, _, _, e⟩ := x; exact Heap.lt_size e
  | frz ob u => obtain ⟨e, _⟩ := x; exact Heap.lt_size e
  | tbl ps => exact Heap.lt_size (show h.get? a = some _ from x)
  | met f y => exact Heap.lt_size (show h.get? a = some _ from x)
  | ext φ => obtain ⟨_, ⟨_, e⟩, _⟩ := x; exact Heap.lt_size e
theorem Paired.mapP {α β : Type} {F G : α -> β -> Prop} : ∀ {l₁ : List α} {l₂ : List β}, Paired F l₁ l₂ -> (∀ a b, F a b -> G a b) -> Paired G l₁ l₂
  | _, _, .nil, _ => .nil
  | _, _, .cons r t, f => .cons (f _ _ r) (Paired.mapP t f)
theorem ObjOk.stay (x : ObjOk P w H h a o) (k : ∀ b u, (b = a ∨ H b = some (.own a)) -> h.get? b = some u -> h'.get? b = some u)
    (ho : ∀ b, H b = some (.own a) -> H' b = some (.own a)) (ht : ∀ b xs, H b = some (.tup xs) -> H' b = some (.tup xs)) : ObjOk P w H' h' a o := by
  induction o with
  | lst xs => obtain ⟨z, its, n, r, e⟩ := x; exact ⟨z, its, n, r, k _ _ (.inl rfl) e⟩
  | tup xs => obtain ⟨z, its, r, ⟨ob, e, c⟩, o2, e2, c2⟩ := x; exact ⟨z, its, r, ⟨ob, k _ _ (.inl rfl) e, c⟩, o2, k _ _ (.inl rfl) e2, c2⟩
  | dK kvs => obtain ⟨z, y, vs, r, ob, es, ep, e, c⟩ := x; exact ⟨z, y, vs, r, ob, es, ep, k _ _ (.inl rfl) e, c⟩
  | dT kvs =>
    obtain ⟨z, y, xs, r, ob, es, ep, e, c⟩ := x
    exact ⟨z, y, xs, Paired.mapP r fun p q z => ⟨z.1, ht _ _ z.2.1, z.2.2⟩, ob, es, ep, k _ _ (.inl rfl) e, c⟩
  | set S n => obtain ⟨ob, es, ep, t, e, c⟩ := x; exact ⟨ob, es, ep, t, k _ _ (.inl rfl) e, c⟩
  | ins C dx fs =>
    obtain ⟨d, z, ne, e, mA, ⟨od, es, ep, e2, c⟩, r⟩ := x
    exact ⟨ho _ d, z, ne, k _ _ (.inl rfl) e, mA, ⟨od, es, ep, k _ _ (.inr d) e2, c⟩, r⟩
  | own y => obtain ⟨ob, e⟩ := x; exact ⟨ob, k _ _ (.inl rfl) e⟩
  | xd fs => obtain ⟨mA, ⟨od, es, ep, e, c⟩, r⟩ := x; exact ⟨mA, ⟨od, es, ep, k _ _ (.inl rfl) e, c⟩, r⟩
  | rng lo hi => obtain ⟨t, u, v, e⟩ := x; exact ⟨t, u, v, k _ _ (.inl rfl) e⟩
  | frz ob u ih => obtain ⟨e, q⟩ := x; exact ⟨k _ _ (.inl rfl) e, ih q⟩
  | tbl ps =>
    have e : h.get? a = some { cls := .none, data := .fields ps } := x
    show h'.get? a = some { cls := .none, data := .fields ps }
    exact k a _ (.inl rfl) e
  | met f y =>
    have e : h.get? a = some (PySem.W.methodObj (.ref f) (.ref y)) := x
    show h'.get? a = some (PySem.W.methodObj (.ref f) (.ref y))
    exact k a _ (.inl rfl) e
  | ext φ => obtain ⟨p, ⟨o, e⟩, st⟩ := x; exact ⟨st _ _ p fun o q => k _ _ (.inl rfl) q, ⟨o, k _ _ (.inl rfl) e⟩, st⟩
theorem HOk.lt (x : HOk P w H h) (e : H a = some o) : a < h.objs.size := (x a o e).lt
theorem HOk.fresh (x : HOk P w H h) (e : h.objs.size <= a) : H a = none := by
  cases q : H a with
  | none => rfl
  | some u => exact absurd (Nat.lt_of_lt_of_le (x.lt q) e) (Nat.lt_irrefl _)
theorem HOk.kept (x : HOk P w H h) (k : ∀ b u, h.get? b = some u -> h'.get? b = some u) : HOk P w H h' := fun a o e =>
  (x a o e).stay (fun b u _ q => k b u q) (fun _ q => q) fun _ _ q => q
theorem HOk.laid (x : HOk P w H h) (k : ∀ b u, h.get? b = some u -> h'.get? b = some u) (hp : h.objs.size <= a) (new : ObjOk P w (upd H a o) h' a o) : HOk P w (upd H a o) h' := fun b u e => by
  have hn := x.fresh hp
  by_cases hb : b = a
  · subst hb; rw [upd_same] at e; cases e; exact new
  · rw [upd_ne hb] at e
    exact (x b u e).stay (fun c v _ q => k c v q) (fun c q => by rw [upd_ne (ne_of_none q hn)]; exact q) fun c xs q => by rw [upd_ne (ne_of_none q hn)]; exact q
end
def Rd (H : Hp) (a : Addr) (u : HO) : Prop := H a = some u ∨ ∃ o, H a = some (.frz o u)
theorem Rd.ok {P : Program} {w : World} {H : Hp} {h : Heap} {a : Addr} {u : HO} (r : Rd H a u) (x : HOk P w H h) : ObjOk P w H h a u := by
  rcases r with r | ⟨o, r⟩
  · exact x a u r
  · obtain ⟨_, q⟩ := x a _ r
    exact q
def Mut : Option HO -> Prop
  | some (.lst _) => True
  | some (.dK _) => True
  | some (.dT _) => True
  | some (.set _ _) => True
  | some (.ins _ _ _) => True
  | some (.ext _) => True
  | _ => False
section
variable {P : Program} {w : World} {H : Hp} {h h' : Heap} {x e : Addr} {o' : HO}
theorem HOk.write (ok : HOk P w H h) (mu : Mut (H x)) (he : e = x ∨ H e = some (.own x)) (k : ∀ b u, b ≠ e -> h.get? b = some u -> h'.get? b = some u) (heo : ∃ u, h'.get? e = some u)
    (new : ObjOk P w (upd H x o') h' x o') : HOk P w (upd H x o') h' := fun b u q => by
  have nown : ∀ c y, H c = some (.own y) -> c ≠ x := fun c y r z => by subst z; rw [r] at mu; exact mu
  have ntup : ∀ c xs, H c = some (.tup xs) -> c ≠ x := fun c xs r z => by subst z; rw [r] at mu; exact mu
  by_cases hb : b = x
  · subst hb; rw [upd_same] at q; cases q; exact new
  · rw [upd_ne hb] at q
    by_cases hbe : b = e
    · have q' : H b = some (.own x) := by
        rcases he with z | z
        · exact absurd (hbe.trans z) hb
        · rw [hbe]; exact z
      rw [q] at q'; cases q'
      obtain ⟨v, hv⟩ := heo
      exact ⟨v, by rw [hbe]; exact hv⟩
    · refine (ok b u q).stay (fun c v hc r => k c v ?_ r) (fun c r => by rw [upd_ne (nown c b r)]; exact r) fun c xs r => by rw [upd_ne (ntup c xs r)]; exact r
      rcases hc with rfl | hc
      · exact hbe
      · rintro rfl
        rcases he with z | z
        · exact nown c b hc z
        · rw [hc] at z; cases z; exact hb rfl
end
structure Un (fs ex : List Addr) (H H' : Hp) (h h' : Heap) : Prop where
  keep : ∀ b o, h.get? b = some o -> H b = none -> b ∉ fs -> b ∉ ex -> h'.get? b = some o
  slot : ∀ b o, h.get? b = some o -> H b = none -> b ∈ fs -> b ∉ ex -> ∃ sl, h'.get? b = some { o with slots := sl }
  free : ∀ b o, h.get? b = some o -> H b = none -> b ∉ ex -> H' b = none
  there : ∀ b o, h.get? b = some o -> b ∉ ex -> ∃ o', h'.get? b = some o'
  tups : ∀ b xs, H b = some (.tup xs) -> H' b = some (.tup xs)
  frzs : ∀ b o u, H b = some (.frz o u) -> H' b = some (.frz o u)
  tbls : ∀ b ps, H b = some (.tbl ps) -> ∃ more, H' b = some (.tbl (ps ++ more))
section
variable {fs fs' ex ex' : List Addr} {H H1 H2 : Hp} {h h1 h2 h' : Heap} {a x e : Addr} {o : HO}
theorem Un.any (u : Un fs ex H H1 h h1) {b : Addr} {ob : Obj} (q : h.get? b = some ob) (n : H b = none) (hx : b ∉ ex) : ∃ sl, h1.get? b = some { ob with slots := sl } := by
  by_cases hb : b ∈ fs
  · exact u.slot b ob q n hb hx
  · exact ⟨ob.slots, u.keep b ob q n hb hx⟩
theorem Un.kept (k : ∀ b u, h.get? b = some u -> h'.get? b = some u) : Un fs ex H H h h' :=
  ⟨fun b ob q _ _ _ => k b ob q, fun b ob q _ _ _ => ⟨ob.slots, k b ob q⟩, fun _ _ _ n _ => n, fun b ob q _ => ⟨ob, k b ob q⟩, fun _ _ q => q, fun _ _ _ q => q, fun _ ps q => ⟨#[], by rw [q]; simp⟩⟩
theorem Un.refl : Un fs ex H H h h := Un.kept fun _ _ q => q
theorem Un.laid (k : ∀ b u, h.get? b = some u -> h'.get? b = some u) (hp : h.objs.size <= a) (hn : H a = none) : Un fs ex H (upd H a o) h h' where
  keep := fun b u q _ _ _ => k b u q
  slot := fun b u q _ _ _ => ⟨u.slots, k b u q⟩
  free := fun b u q n _ => by rw [upd_ne (Nat.ne_of_lt (Nat.lt_of_lt_of_le (Heap.lt_size q) hp))]; exact n
  there := fun b u q _ => ⟨u, k b u q⟩
  tups := fun b xs q => by rw [upd_ne (ne_of_none q hn)]; exact q
  frzs := fun b u xs q => by rw [upd_ne (ne_of_none q hn)]; exact q
  tbls := fun b ps q => ⟨#[], by rw [upd_ne (ne_of_none q hn), q]; simp⟩
theorem Un.write (mu : Mut (H x)) (he : e = x ∨ H e = some (.own x)) (k : ∀ b u, b ≠ e -> h.get? b = some u -> h'.get? b = some u) (heo : ∃ u, h'.get? e = some u) : Un fs ex H (upd H x o) h h' := by
  have hx : ∀ b, H b = none -> b ≠ x := fun b n z => by subst z; rw [n] at mu; exact mu
  have hb : ∀ b, H b = none -> b ≠ e := fun b n z => by
    subst z
    rcases he with r | r
    · exact hx b n r
    · rw [n] at r; cases r
  have hm : ∀ b u, H b = some u -> ¬ Mut (some u) -> b ≠ x := fun b u q nm z => by subst z; rw [q] at mu; exact nm mu
  refine ⟨fun b u q n _ _ => k b u (hb b n) q, fun b u q n _ _ => ⟨u.slots, k b u (hb b n) q⟩, fun b u q n _ => by rw [upd_ne (hx b n)]; exact n, fun b u q _ => ?_,
    fun b xs q => by rw [upd_ne (hm b _ q fun z => z)]; exact q, fun b u xs q => by rw [upd_ne (hm b _ q fun z => z)]; exact q, fun b ps q => ⟨#[], by rw [upd_ne (hm b _ q fun z => z), q]; simp⟩⟩
  by_cases hbe : b = e
  · subst hbe; exact heo
  · exact ⟨u, k b u hbe q⟩
end
def trk (h : Heap) (H : Hp) : List Addr := (List.range h.objs.size).filter fun a => (H a).isSome
def hidT (h : Heap) (H : Hp) : Heap := PySem.W.hideAll h (trk h H)
theorem hidT_size (h : Heap) (H : Hp) : (hidT h H).objs.size = h.objs.size := PySem.W.hideAll_size _ _
theorem hidT_get {h : Heap} {H : Hp} {b : Addr} {o : Obj} (e : h.get? b = some o) (n : H b = none) : (hidT h H).get? b = some o :=
  PySem.W.hideAll_get _ e fun hm => by
    have q : (H b).isSome = true := (List.mem_filter.mp hm).2
    rw [n] at q; simp at q
theorem of_hidT {h : Heap} {H : Hp} {b : Addr} {o : Obj} (e : (hidT h H).get? b = some o) : h.get? b = some o /\ H b = none := by
  have e' : h.get? b = some o := PySem.W.of_hideAll (trk h H) e
  refine ⟨e', ?_⟩
  cases q : H b with
  | none => rfl
  | some x =>
    have hm : b ∈ trk h H := List.mem_filter.mpr ⟨List.mem_range.mpr (Heap.lt_size e'), by simp [q]⟩
    have z : (hidT h H).get? b = none := PySem.W.hideAll_none (trk h H) hm
    rw [z] at e; cases e
end L2
namespace L2
open PySem PySem.Spec PyProof.Rows
structure Mod (K : PySem.W.Frag) (mg : Str -> Option Value) (base : Heap) : Prop where
  kin : K.In base
  glob : base.Ns mainGlobals mg
  blt : ∃ mb, base.Ns builtinsNs mb /\ ∀ x : Str, x ≠ "__name__" -> mb x = bootBuiltins x
  nolimit : base.NoLimit
structure Cx where
  prog : Program
  w : World
  K : PySem.W.Frag
  mg : Str -> Option Value
  base : Heap
  A : Around
  N : List Str
  s₀ : Shared
  H₀ : Hp
  env : Env
  outer : List Env
  stack : List Env
  ex : List Addr
  fn : Str -> Bool
  calm : Bool
  pn : List (Addr × Obj)
  xe : Value -> Shared -> Prop
def frs (l : List Env) : List Addr := l.filterMap (·.frame)
abbrev Cx.fs (X : Cx) : List Addr := frs X.outer
def Vis (sc : Scope) (x : Str) : Prop := sc.names.lookup x = some .local ∨ sc.names.lookup x = some .cell ∨ sc.names.lookup x = some .free
def Loc (sc : Scope) (x : Str) : Prop := sc.names.lookup x = some .local ∨ sc.names.lookup x = some .cell
def Look (env : Env) (h : Heap) (m : Str -> Option Value) (x : Str) (u : Value) : Prop :=
  (env.kindOf x = some .local /\ m x = some u) ∨ ((env.kindOf x = some .cell ∨ env.kindOf x = some .free) /\ ∃ c, env.cells.lookup x = some c /\ h.IsCell c (some u))
structure Cx.Ok (X : Cx) : Prop where
  mod : Mod X.K X.mg X.base
  kind : X.env.scope.kind = .function
  glob : X.env.globals = mainGlobals
  blt : X.env.builtins = builtinsNs
  above : X.s₀.heap.objs.size <= X.env.locals
  inj : ∀ x y c, X.env.cells.lookup x = some c -> X.env.cells.lookup y = some c -> x = y
  has : ∀ x, (X.env.kindOf x = some .cell ∨ X.env.kindOf x = some .free) -> ∃ c, X.env.cells.lookup x = some c
  cab : ∀ x c, X.fn x = true -> X.env.cells.lookup x = some c -> X.s₀.heap.objs.size <= c
  hd : X.calm = true -> X.A.handled = none
  frames : X.A.frames = some X.stack
  stk : X.stack = X.outer ∨ (X.stack = X.env :: X.outer /\ X.env.frame = some X.env.locals)
  exf : ∀ b ∈ X.ex, b ≠ X.env.locals /\ ∀ x c, X.env.cells.lookup x = some c -> c ≠ b
  bs : ∀ b o, X.base.get? b = some o -> X.s₀.heap.get? b = some o /\ X.H₀ b = none
  bsz : X.base.objs.size <= X.s₀.heap.objs.size
  noex : ∀ b o, X.base.get? b = some o -> b ∉ X.ex
  exfs : ∀ b ∈ X.ex, b ∉ X.fs
  funs : X.s₀.heap.FunFrames X.base X.outer
  frf : ∀ b ∈ X.fs, X.H₀ b = none
structure Inv (X : Cx) (pins : List (Addr × Obj)) (σ : List (Option V)) (H : Hp) (s : Shared) : Prop where
  ok : X.Ok
  os : s.os = X.s₀.os
  bare : AllBare s.gens
  base : Un X.fs X.ex X.H₀ H X.s₀.heap s.heap
  loc : ∃ m, s.heap.Ns X.env.locals m /\ ∀ (i : Nat) (x : Str) (v : V), X.N[i]? = some x -> σ[i]? = some (some v) -> Vis X.env.scope x -> ∃ u, RelV v u /\ Look X.env s.heap m x u
  cell : ∀ x c, X.env.cells.lookup x = some c -> ∃ v, s.heap.IsCell c v
  free : H X.env.locals = none
  freeC : ∀ x c, X.env.cells.lookup x = some c -> H c = none
  pin : ∀ p ∈ X.pn ++ pins, s.heap.get? p.1 = some p.2 /\ H p.1 = none /\ p.1 ≠ X.env.locals /\ p.1 ∉ X.fs /\ ∀ v, p.2.data ≠ .cell v
  hok : HOk X.prog X.w H s.heap
  len : σ.length = X.N.length
section
variable {X : Cx} {pins : List (Addr × Obj)} {σ : List (Option V)} {H H' : Hp} {s : Shared} {h' : Heap}
theorem Cx.Ok.nofr (ok : X.Ok) {b : Addr} {o : Obj} (e : X.base.get? b = some o) : b ∉ X.fs := fun hb => by
  have := (ok.funs.mem hb).1
  rw [e] at this; cases this
theorem Inv.bs (I : Inv X pins σ H s) : ∀ b o, X.base.get? b = some o -> s.heap.get? b = some o /\ H b = none := fun b o e =>
  ⟨I.base.keep b o (I.ok.bs b o e).1 (I.ok.bs b o e).2 (I.ok.nofr e) (I.ok.noex b o e), I.base.free b o (I.ok.bs b o e).1 (I.ok.bs b o e).2 (I.ok.noex b o e)⟩
theorem Inv.bk (I : Inv X pins σ H s) : ∀ b o, X.base.get? b = some o -> s.heap.get? b = some o := fun b o e => (I.bs b o e).1
theorem Inv.mod (I : Inv X pins σ H s) : Mod X.K X.mg X.base := I.ok.mod
theorem Inv.kIn (I : Inv X pins σ H s) : X.K.In s.heap := I.ok.mod.kin.keeps I.bk
theorem Inv.lt (I : Inv X pins σ H s) : X.env.locals < s.heap.objs.size := let ⟨_, hn, _⟩ := I.loc; hn.lt
theorem Inv.sz (I : Inv X pins σ H s) : X.s₀.heap.objs.size <= s.heap.objs.size := Nat.le_trans I.ok.above (Nat.le_of_lt I.lt)
theorem Inv.nofs (I : Inv X pins σ H s) {a : Addr} (h : s.heap.objs.size <= a) : a ∉ X.fs := fun hb => by
  obtain ⟨_, o, ho, _⟩ := I.ok.funs.mem hb
  exact absurd (Nat.lt_of_lt_of_le (Heap.lt_size ho) (Nat.le_trans I.sz h)) (Nat.lt_irrefl _)
theorem Inv.cne (I : Inv X pins σ H s) : ∀ x c, X.env.cells.lookup x = some c -> c ≠ X.env.locals := fun x c e z => by
  obtain ⟨v, o, ho, hd⟩ := I.cell x c e
  obtain ⟨m, ⟨o', es, ep, ho', hd', _⟩, _⟩ := I.loc
  rw [z, ho'] at ho; cases ho; rw [hd'] at hd; cases hd
theorem Inv.funs (I : Inv X pins σ H s) : s.heap.FunFrames X.base X.outer := by
  have all : ∀ (l : List Env), (∀ b ∈ frs l, b ∈ X.fs) -> X.s₀.heap.FunFrames X.base l -> s.heap.FunFrames X.base l := by
    intro l
    induction l with
    | nil => intro _ _; trivial
    | cons env r ih =>
      intro hs hl
      obtain ⟨hk, ⟨L, o, hf, hn, ho, hd⟩, hr⟩ := hl
      have hL : L ∈ X.fs := hs L (by unfold frs; rw [List.filterMap_cons, hf]; exact List.mem_cons_self)
      obtain ⟨sl, e⟩ := I.base.slot L o ho (I.ok.frf L hL) hL fun z => I.ok.exfs L z hL
      exact ⟨hk, ⟨L, _, hf, hn, e, hd⟩, ih (fun b hb => hs b (by unfold frs; rw [List.filterMap_cons, hf]; exact List.mem_cons_of_mem _ hb)) hr⟩
  exact all X.outer (fun _ hb => hb) I.ok.funs
theorem Inv.stack (I : Inv X pins σ H s) : s.heap.FunFrames X.base X.stack := by
  rcases I.ok.stk with e | ⟨e, hf⟩
  · rw [e]; exact I.funs
  · rw [e]
    obtain ⟨m, hn, _⟩ := I.loc
    refine .cons (by rw [I.ok.kind]; decide) hf hn ?_ I.funs
    exact Heap.get?_none_of_le (Nat.le_trans I.ok.bsz I.ok.above)
theorem Inv.stkSub (I : Inv X pins σ H s) : ∀ b ∈ frs X.stack, b ∈ X.env.locals :: X.fs := fun b hb => by
  rcases I.ok.stk with e | ⟨e, hf⟩
  · rw [e] at hb; exact List.mem_cons_of_mem _ hb
  · rw [e] at hb
    unfold frs at hb
    rw [List.filterMap_cons, hf] at hb
    exact hb
theorem Inv.stkFree (I : Inv X pins σ H s) : ∀ b ∈ frs X.stack, H b = none := fun b hb => by
  rcases List.mem_cons.mp (I.stkSub b hb) with e | hb
  · rw [e]; exact I.free
  · obtain ⟨_, o, ho, _⟩ := I.ok.funs.mem hb
    exact I.base.free b o ho (I.ok.frf b hb) fun z => I.ok.exfs b z hb
theorem Inv.step {g' : Array GenState} {t' : Nat} {d' : Drawn} {ch : List Addr} (I : Inv X pins σ H s)
    (hch : ∀ b ∈ ch, (b ∈ X.ex ∨ X.s₀.heap.objs.size <= b) /\ b ≠ X.env.locals /\ (∀ x c, X.env.cells.lookup x = some c -> c ≠ b) /\ ∀ p ∈ X.pn ++ pins, p.1 ≠ b)
    (keep : ∀ b o, b ≠ X.env.locals -> b ∉ X.fs -> b ∉ ch -> s.heap.get? b = some o -> H b = none -> h'.get? b = some o)
    (slot : ∀ b o, b ≠ X.env.locals -> b ∈ X.fs -> b ∉ ch -> s.heap.get? b = some o -> H b = none -> ∃ sl, h'.get? b = some { o with slots := sl }) (free : ∀ b o, b ∉ ch -> s.heap.get? b = some o -> H b = none -> H' b = none)
    (there : ∀ b o, b ∉ ch -> s.heap.get? b = some o -> ∃ o', h'.get? b = some o')
    (tups : ∀ b xs, H b = some (.tup xs) -> H' b = some (.tup xs)) (frzs : ∀ b o u, H b = some (.frz o u) -> H' b = some (.frz o u)) (tbls : ∀ b ps, H b = some (.tbl ps) -> ∃ more, H' b = some (.tbl (ps ++ more)))
    (ns : ∀ m, s.heap.Ns X.env.locals m -> h'.Ns X.env.locals m) (hok : HOk X.prog X.w H' h') (hg : AllBare g') :
    Inv X pins σ H' { s with heap := h', gens := g', drawn := d', toks := t' } := by
  have neL : ∀ b o, X.s₀.heap.get? b = some o -> b ≠ X.env.locals := fun b o e => Nat.ne_of_lt (Nat.lt_of_lt_of_le (Heap.lt_size e) I.ok.above)
  have neC : ∀ b o, X.s₀.heap.get? b = some o -> b ∉ X.ex -> b ∉ ch := fun b o e hx hb => by
    rcases (hch b hb).1 with z | z
    · exact hx z
    · exact absurd (Nat.lt_of_lt_of_le (Heap.lt_size e) z) (Nat.lt_irrefl _)
  have cellK : ∀ x c, X.env.cells.lookup x = some c -> ∀ v, s.heap.IsCell c v -> h'.IsCell c v := fun x c e v ⟨o, ho, hd⟩ => by
    have nch : c ∉ ch := fun z => (hch c z).2.2.1 x c e rfl
    by_cases hc : c ∈ X.fs
    · obtain ⟨sl, q⟩ := slot c o (I.cne x c e) hc nch ho (I.freeC x c e)
      exact ⟨_, q, hd⟩
    · exact ⟨o, keep c o (I.cne x c e) hc nch ho (I.freeC x c e), hd⟩
  refine ⟨I.ok, I.os, hg, ⟨fun b o e n hb hx => ?_, fun b o e n hb hx => ?_, fun b o e n hx => ?_, fun b o e hx => ?_, fun b xs e => tups b xs (I.base.tups b xs e), fun b o xs e => frzs b o xs (I.base.frzs b o xs e), fun b ps e => ?_⟩, ?_, fun x c e => ?_, ?_, fun x c e => ?_, fun p hp => ?_, hok, I.len⟩
  · exact keep b o (neL b o e) hb (neC b o e hx) (I.base.keep b o e n hb hx) (I.base.free b o e n hx)
  · obtain ⟨sl, e1⟩ := I.base.slot b o e n hb hx
    obtain ⟨sl', e2⟩ := slot b _ (neL b o e) hb (neC b o e hx) e1 (I.base.free b o e n hx)
    exact ⟨sl', e2⟩
  · obtain ⟨o', e1⟩ := I.base.there b o e hx
    exact free b o' (neC b o e hx) e1 (I.base.free b o e n hx)
  · obtain ⟨o', e1⟩ := I.base.there b o e hx
    exact there b o' (neC b o e hx) e1
  · obtain ⟨m1, e1⟩ := I.base.tbls b ps e
    obtain ⟨m2, e2⟩ := tbls b _ e1
    exact ⟨m1 ++ m2, by rw [e2, Array.append_assoc]⟩
  · obtain ⟨m, hn, hl⟩ := I.loc
    refine ⟨m, ns m hn, fun i x v e1 e2 e3 => ?_⟩
    obtain ⟨u, r, l⟩ := hl i x v e1 e2 e3
    refine ⟨u, r, ?_⟩
    rcases l with l | ⟨k, c, e, z⟩
    · exact .inl l
    · exact .inr ⟨k, c, e, cellK x c e _ z⟩
  · obtain ⟨v, z⟩ := I.cell x c e
    exact ⟨v, cellK x c e v z⟩
  · obtain ⟨m, ⟨o, _, _, ho, _⟩, _⟩ := I.loc
    exact free _ o (fun z => (hch _ z).2.1 rfl) ho I.free
  · obtain ⟨v, o, ho, hd⟩ := I.cell x c e
    exact free c o (fun z => (hch c z).2.2.1 x c e rfl) ho (I.freeC x c e)
  · obtain ⟨e, n, ne, nf, d⟩ := I.pin p hp
    have nch : p.1 ∉ ch := fun z => (hch p.1 z).2.2.2 p hp rfl
    exact ⟨keep p.1 p.2 ne nf nch e n, free p.1 p.2 nch e n, ne, nf, d⟩
theorem Inv.un {t' : Nat} (I : Inv X pins σ H s) (u : Un X.fs [] H H' s.heap h') (hok : HOk X.prog X.w H' h') : Inv X pins σ H' { s with heap := h', toks := t' } := by
  obtain ⟨m, ⟨o, es, ep, ho, r⟩, _⟩ := id I.loc
  obtain ⟨sl, hL⟩ := u.any ho I.free (by simp)
  exact I.step (g' := s.gens) (d' := s.drawn) (ch := []) (fun _ z => nomatch z) (fun b o _ hb _ e n => u.keep b o e n hb (by simp)) (fun b o _ hb _ e n => u.slot b o e n hb (by simp)) (fun b o _ e n => u.free b o e n (by simp)) (fun b o _ e => u.there b o e (by simp)) u.tups u.frzs u.tbls (fun m' hm => by
    obtain ⟨o', es', ep', ho', r'⟩ := hm
    rw [ho] at ho'; cases ho'
    exact ⟨_, es', ep', hL, r'⟩) hok I.bare
theorem Inv.call {g' : Array GenState} {t' : Nat} {d' : Drawn} {ch : List Addr} (I : Inv X pins σ H s) (u : Un (frs X.stack) ch H H' s.heap h') (hok : HOk X.prog X.w H' h') (hg : AllBare g')
    (hch : ∀ b ∈ ch, (b ∈ X.ex ∨ X.s₀.heap.objs.size <= b) /\ b ≠ X.env.locals /\ (∀ x c, X.env.cells.lookup x = some c -> c ≠ b) /\ ∀ p ∈ X.pn ++ pins, p.1 ≠ b) :
    Inv X pins σ H' { s with heap := h', gens := g', drawn := d', toks := t' } := by
  obtain ⟨m, ⟨o, es, ep, ho, r⟩, _⟩ := id I.loc
  obtain ⟨sl, hL⟩ := u.any ho I.free fun z => (hch _ z).2.1 rfl
  exact I.step (ch := ch) hch (fun b o hL hb hc e n => u.keep b o e n (fun z => (List.mem_cons.mp (I.stkSub b z)).elim hL hb) hc) (fun b o _ _ hc e n => u.any e n hc) (fun b o hc e n => u.free b o e n hc) (fun b o hc e => u.there b o e hc) u.tups u.frzs u.tbls (fun m' hm => by
    obtain ⟨o', es', ep', ho', r'⟩ := hm
    rw [ho] at ho'; cases ho'
    exact ⟨_, es', ep', hL, r'⟩) hok hg
theorem Inv.turned {t' : Nat} {it : Addr} (I : Inv X pins σ H s) (k : ∀ b o, b ≠ it -> s.heap.get? b = some o -> h'.get? b = some o) (hn : H it = none) (hL : it ≠ X.env.locals)
    (h1 : it ∈ X.ex ∨ X.s₀.heap.objs.size <= it) (h2 : ∀ x c, X.env.cells.lookup x = some c -> c ≠ it) (h3 : ∀ p ∈ X.pn ++ pins, p.1 ≠ it) : Inv X pins σ H { s with heap := h', toks := t' } := by
  have nit : ∀ b u, H b = some u -> b ≠ it := fun b u e z => by rw [z, hn] at e; cases e
  refine I.step (g' := s.gens) (d' := s.drawn) (ch := [it]) (fun b hb => ?_) (fun b o _ _ hc e _ => k b o (fun z => hc (by simp [z])) e) (fun b o _ _ hc e _ => ⟨o.slots, k b o (fun z => hc (by simp [z])) e⟩) (fun _ _ _ _ n => n)
    (fun b o hc e => ⟨o, k b o (fun z => hc (by simp [z])) e⟩) (fun _ _ e => e) (fun _ _ _ e => e) (fun b ps e => ⟨#[], by rw [e]; simp⟩) (fun m hm => ?_) (fun b u e => ?_) I.bare
  · have e : b = it := by simpa using hb
    subst e
    exact ⟨h1, hL, h2, h3⟩
  · obtain ⟨o, es, ep, ho, r⟩ := hm
    exact ⟨o, es, ep, k _ o (Ne.symm hL) ho, r⟩
  · refine (I.hok b u e).stay (fun c v hc q => k c v ?_ q) (fun _ q => q) fun _ _ q => q
    rcases hc with z | z
    · rw [z]; exact nit b u e
    · exact nit c _ z
theorem Inv.tok (I : Inv X pins σ H s) (t : Nat) : Inv X pins σ H { s with toks := t } := I.un (h' := s.heap) (t' := t) Un.refl I.hok
theorem Inv.kept {t' : Nat} (I : Inv X pins σ H s) (k : ∀ b u, s.heap.get? b = some u -> h'.get? b = some u) : Inv X pins σ H { s with heap := h', toks := t' } := I.un (Un.kept k) (I.hok.kept k)
theorem Inv.laid {a : Addr} {o : HO} {t' : Nat} (I : Inv X pins σ H s) (k : ∀ b u, s.heap.get? b = some u -> h'.get? b = some u) (hp : s.heap.objs.size <= a) (new : ObjOk X.prog X.w (upd H a o) h' a o) :
    Inv X pins σ (upd H a o) { s with heap := h', toks := t' } := I.un (Un.laid k hp (I.hok.fresh hp)) (I.hok.laid k hp new)
theorem Inv.write {x e : Addr} {o : HO} {t' : Nat} (I : Inv X pins σ H s) (mu : Mut (H x)) (he : e = x ∨ H e = some (.own x)) (k : ∀ b u, b ≠ e -> s.heap.get? b = some u -> h'.get? b = some u) (heo : ∃ u, h'.get? e = some u)
    (new : ObjOk X.prog X.w (upd H x o) h' x o) : Inv X pins σ (upd H x o) { s with heap := h', toks := t' } := I.un (Un.write mu he k heo) (I.hok.write mu he k heo new)
theorem Inv.pins_of {pins' : List (Addr × Obj)} (I : Inv X pins σ H s) (h : ∀ p ∈ pins', s.heap.get? p.1 = some p.2 /\ H p.1 = none /\ p.1 ≠ X.env.locals /\ p.1 ∉ X.fs /\ ∀ v, p.2.data ≠ .cell v) : Inv X pins' σ H s :=
  ⟨I.ok, I.os, I.bare, I.base, I.loc, I.cell, I.free, I.freeC, fun p hp => (List.mem_append.mp hp).elim (fun z => I.pin p (List.mem_append_left _ z)) (h p), I.hok, I.len⟩
theorem nodup_ix {N : List Str} (hN : N.Nodup) {i j : Nat} {x : Str} (a : N[i]? = some x) (b : N[j]? = some x) : i = j := by
  obtain ⟨h1, e1⟩ := List.getElem?_eq_some_iff.mp a
  obtain ⟨h2, e2⟩ := List.getElem?_eq_some_iff.mp b
  exact (List.getElem_inj hN).mp (e1.trans e2.symm)
theorem store_ok2 {M : Model} {A : Around} {E : Value -> Shared -> Prop} {i : Nat} {x : Str} {v : V} {u : Value} {Q : Unit -> Shared -> Prop} (I : Inv X pins σ H s) (hN : X.N.Nodup) (hi : X.N[i]? = some x) (hx : Loc X.env.scope x) (r : RelV v u)
    (h : ∀ s', Inv X pins (σ.set i (some v)) H s' -> (∃ a, Heap.SameBut a s.heap s'.heap /\ (a = X.env.locals ∨ X.env.cells.lookup x = some a)) -> Q () s') (hf : X.fn x = true ∨ X.env.scope.names.lookup x = some .local := by first | exact .inl rfl | exact .inr rfl | assumption) : wpAny M A (storeName X.env x u) Q E s := by
  obtain ⟨m, hn, hl⟩ := id I.loc
  have hcls : (X.env.scope.kind == .class || (X.env.scope.kind == .module && X.env.locals != X.env.globals)) = false := by rw [I.ok.kind]; rfl
  have hiσ : i < σ.length := by rw [I.len]; exact (List.getElem?_eq_some_iff.mp hi).1
  have cne := I.cne
  have tracked : ∀ {a : Addr} {h' : Heap}, (∃ o, s.heap.get? a = some o /\ H a = none) -> Heap.SameBut a s.heap h' -> HOk X.prog X.w H h' := fun {a h'} ha hs b ob e => by
    obtain ⟨_, _, hfree⟩ := ha
    refine (I.hok b ob e).stay (fun c w' hc q => (hs.2 c ?_).trans q) (fun _ q => q) fun _ _ q => q
    rintro rfl
    rcases hc with rfl | hc
    · rw [hfree] at e; cases e
    · rw [hfree] at hc; cases hc
  rcases hx with hk | hk
  · refine wpAny_storeName_local hk hn (fun h' hn' hs => ?_) hcls
    obtain ⟨oL, _, _, hoL, _⟩ := id hn
    refine h _ ⟨I.ok, I.os, I.bare, ⟨fun b o e n hb hx => ?_, fun b o e n hb hx => ?_, I.base.free, fun b o e hx => ?_, I.base.tups, I.base.frzs, I.base.tbls⟩, ⟨_, hn', fun j y v' e1 e2 e3 => ?_⟩, fun y c e => ?_, I.free, I.freeC, fun p hp => ?_, tracked ⟨oL, hoL, I.free⟩ hs, by simpa using I.len⟩ ⟨_, hs, .inl rfl⟩
    · exact (hs.2 b (Nat.ne_of_lt (Nat.lt_of_lt_of_le (Heap.lt_size e) I.ok.above))).trans (I.base.keep b o e n hb hx)
    · obtain ⟨sl, e1⟩ := I.base.slot b o e n hb hx
      exact ⟨sl, (hs.2 b (Nat.ne_of_lt (Nat.lt_of_lt_of_le (Heap.lt_size e) I.ok.above))).trans e1⟩
    · obtain ⟨o', e1⟩ := I.base.there b o e hx
      exact ⟨o', (hs.2 b (Nat.ne_of_lt (Nat.lt_of_lt_of_le (Heap.lt_size e) I.ok.above))).trans e1⟩
    · by_cases hj : j = i
      · subst hj
        rw [hi] at e1; cases e1
        rw [List.getElem?_set_self hiσ] at e2
        cases e2
        exact ⟨u, r, .inl ⟨hk, by simp⟩⟩
      · rw [List.getElem?_set_ne (Ne.symm hj)] at e2
        obtain ⟨u', r', q⟩ := hl j y v' e1 e2 e3
        refine ⟨u', r', ?_⟩
        rcases q with ⟨k, e⟩ | ⟨k, c, e, z⟩
        · refine .inl ⟨k, ?_⟩
          have : y ≠ x := fun e => hj (nodup_ix hN e1 (e ▸ hi))
          simp [this, e]
        · exact .inr ⟨k, c, e, z.sameBut hs (cne y c e)⟩
    · obtain ⟨w', z⟩ := I.cell y c e
      exact ⟨w', z.sameBut hs (cne y c e)⟩
    · obtain ⟨e, n, ne, nf, d⟩ := I.pin p hp
      exact ⟨(hs.2 p.1 ne).trans e, n, ne, nf, d⟩
  · have hfn : X.fn x = true := by
      rcases hf with z | z
      · exact z
      · rw [z] at hk; cases hk
    obtain ⟨c, hc⟩ := I.ok.has x (.inl hk)
    obtain ⟨w', z⟩ := I.cell x c hc
    refine wpAny_storeName_cell I.ok.kind hk hc z (fun h' hc' hs => ?_)
    obtain ⟨oc, hoc, hocd⟩ := id z
    refine h { s with heap := h' } ⟨I.ok, I.os, I.bare, ⟨fun b o e n hb hx => ?_, fun b o e n hb hx => ?_, I.base.free, fun b o e hx => ?_, I.base.tups, I.base.frzs, I.base.tbls⟩, ⟨m, hn.sameBut hs (Ne.symm (cne x c hc)), fun j y v' e1 e2 e3 => ?_⟩, fun y c' e => ?_, I.free, I.freeC, fun p hp => ?_, tracked ⟨oc, hoc, I.freeC x c hc⟩ hs, by simpa using I.len⟩ ⟨c, hs, .inr hc⟩
    · exact (hs.2 b (Nat.ne_of_lt (Nat.lt_of_lt_of_le (Heap.lt_size e) (I.ok.cab x c hfn hc)))).trans (I.base.keep b o e n hb hx)
    · obtain ⟨sl, e1⟩ := I.base.slot b o e n hb hx
      exact ⟨sl, (hs.2 b (Nat.ne_of_lt (Nat.lt_of_lt_of_le (Heap.lt_size e) (I.ok.cab x c hfn hc)))).trans e1⟩
    · obtain ⟨o', e1⟩ := I.base.there b o e hx
      exact ⟨o', (hs.2 b (Nat.ne_of_lt (Nat.lt_of_lt_of_le (Heap.lt_size e) (I.ok.cab x c hfn hc)))).trans e1⟩
    · by_cases hj : j = i
      · subst hj
        rw [hi] at e1; cases e1
        rw [List.getElem?_set_self hiσ] at e2
        cases e2
        exact ⟨u, r, .inr ⟨.inl hk, c, hc, hc'⟩⟩
      · rw [List.getElem?_set_ne (Ne.symm hj)] at e2
        obtain ⟨u', r', q⟩ := hl j y v' e1 e2 e3
        refine ⟨u', r', ?_⟩
        rcases q with q | ⟨k, c', e, z'⟩
        · exact .inl q
        · refine .inr ⟨k, c', e, z'.sameBut hs ?_⟩
          rintro rfl
          exact hj (nodup_ix hN e1 (I.ok.inj _ _ _ e hc ▸ hi))
    · by_cases hcc : c' = c
      · subst hcc; exact ⟨_, hc'⟩
      · obtain ⟨w2, z2⟩ := I.cell y c' e
        exact ⟨w2, z2.sameBut hs hcc⟩
    · obtain ⟨e, n, ne, nf, d⟩ := I.pin p hp
      refine ⟨(hs.2 p.1 ?_).trans e, n, ne, nf, d⟩
      intro q
      rw [q, hoc] at e
      have q' : oc = p.2 := Option.some.inj e
      exact d w' (by rw [<- q']; exact hocd)
theorem store_ok {M : Model} {A : Around} {E : Value -> Shared -> Prop} {i : Nat} {x : Str} {v : V} {u : Value} {Q : Unit -> Shared -> Prop} (I : Inv X pins σ H s) (hN : X.N.Nodup) (hi : X.N[i]? = some x) (hx : Loc X.env.scope x) (r : RelV v u)
    (h : ∀ s', Inv X pins (σ.set i (some v)) H s' -> Q () s') (hf : X.fn x = true ∨ X.env.scope.names.lookup x = some .local := by first | exact .inl rfl | exact .inr rfl | assumption) : wpAny M A (storeName X.env x u) Q E s :=
  store_ok2 I hN hi hx r (fun s' I' _ => h s' I') hf
theorem Inv.call' {s' : Shared} {ch : List Addr} (I : Inv X pins σ H s) (ho : s'.os = s.os) (u : Un (frs X.stack) ch H H' s.heap s'.heap) (hok : HOk X.prog X.w H' s'.heap) (hg : AllBare s'.gens)
    (hch : ∀ b ∈ ch, (b ∈ X.ex ∨ X.s₀.heap.objs.size <= b) /\ b ≠ X.env.locals /\ (∀ x c, X.env.cells.lookup x = some c -> c ≠ b) /\ ∀ p ∈ X.pn ++ pins, p.1 ≠ b) : Inv X pins σ H' s' := by
  obtain ⟨h', g', d', t', o'⟩ := s'
  have e : o' = s.os := ho
  subst e
  exact I.call (g' := g') (t' := t') (d' := d') u hok hg hch
end
abbrev XK := Value -> Option Addr -> Hp -> Prop
abbrev St := List (Option V)
abbrev VK := V -> Hp -> Prop
abbrev TE := St -> Hp -> VK -> Prop
abbrev TT := St -> Hp -> (Bool -> Hp -> Prop) -> Prop
abbrev TA := St -> Hp -> (List V -> Hp -> Prop) -> Prop
structure Ends where
  nx : St -> Hp -> Prop
  rt : VK
  bk : St -> Hp -> Prop := fun _ _ => False
  ct : St -> Hp -> Prop := fun _ _ => False
abbrev TS := Ends -> St -> Hp -> Prop
def EP (X : Cx) (pins : List (Addr × Obj)) (σ : St) (Q : VK) (u : Value) (s' : Shared) : Prop := ∃ v H', Inv X pins σ H' s' /\ RelV v u /\ Q v H'
def TP (X : Cx) (pins : List (Addr × Obj)) (σ : St) (Q : Bool -> Hp -> Prop) (b : Bool) (s' : Shared) : Prop := ∃ H', Inv X pins σ H' s' /\ Q b H'
def AP (X : Cx) (pins : List (Addr × Obj)) (σ : St) (Q : List V -> Hp -> Prop) (us : List Value) (s' : Shared) : Prop := ∃ vs H', Inv X pins σ H' s' /\ Vals vs us /\ Q vs H'
def SP (X : Cx) (pins : List (Addr × Obj)) (D : Ends) (f : Flow) (s' : Shared) : Prop :=
  match f with
  | .next => ∃ σ' H', Inv X pins σ' H' s' /\ D.nx σ' H'
  | .brk => ∃ σ' H', Inv X pins σ' H' s' /\ D.bk σ' H'
  | .cont => ∃ σ' H', Inv X pins σ' H' s' /\ D.ct σ' H'
  | .ret u => ∃ v σ' H', Inv X pins σ' H' s' /\ RelV v u /\ D.rt v H'
def PE (X : Cx) (e : Expr) (t : TE) : Prop :=
  ∀ (pins : List (Addr × Obj)) (s : Shared) (σ : St) (H : Hp) (Q : VK), Inv X pins σ H s -> t σ H Q -> wpAny (model X.prog X.w) X.A (eval e X.env) (EP X pins σ Q) X.xe s
def PT (X : Cx) (e : Expr) (t : TT) : Prop :=
  ∀ (pins : List (Addr × Obj)) (s : Shared) (σ : St) (H : Hp) (Q : Bool -> Hp -> Prop), Inv X pins σ H s -> t σ H Q -> wpAny (model X.prog X.w) X.A (isTrue e X.env (eval e X.env)) (TP X pins σ Q) X.xe s
def PW (X : Cx) (e : Expr) (t : TT) : Prop :=
  ∀ (whole : Sem Value) (pins : List (Addr × Obj)) (s : Shared) (σ : St) (H : Hp) (Q : Bool -> Hp -> Prop), Inv X pins σ H s -> t σ H Q -> wpAny (model X.prog X.w) X.A (isTrue e X.env whole) (TP X pins σ Q) X.xe s
theorem PW.pt {X : Cx} {e : Expr} {t : TT} (h : PW X e t) : PT X e t := h _
def PA (X : Cx) (es : List Expr) (t : TA) : Prop :=
  ∀ (pos : Pos) (pins : List (Addr × Obj)) (s : Shared) (σ : St) (H : Hp) (Q : List V -> Hp -> Prop), Inv X pins σ H s -> t σ H Q -> wpAny (model X.prog X.w) X.A (spliced (backTo pos (starEach es X.env))) (AP X pins σ Q) X.xe s
def PS (X : Cx) (st : Stmt) (t : TS) : Prop :=
  ∀ (pins : List (Addr × Obj)) (s : Shared) (σ : St) (H : Hp) (D : Ends), Inv X pins σ H s -> t D σ H -> wpAny (model X.prog X.w) X.A (exec st X.env) (SP X pins D) X.xe s
def PSs (X : Cx) (st : List Stmt) (t : TS) : Prop :=
  ∀ (pins : List (Addr × Obj)) (s : Shared) (σ : St) (H : Hp) (D : Ends), Inv X pins σ H s -> t D σ H -> wpAny (model X.prog X.w) X.A (execs st X.env) (SP X pins D) X.xe s
theorem thn {α : Type} {t : Sem α} {Q Q' : α -> Shared -> Prop} {M : Model} {A : Around} {E : Value -> Shared -> Prop} {s : Shared} (h : wpAny M A t Q E s) (hQ : ∀ a s, Q a s -> Q' a s) : wpAny M A t Q' E s := wpAny_mono h hQ fun _ _ x => x
end L2
namespace L2
open PySem PySem.Spec PyProof.Rows
section
variable {X : Cx}
def tVar (i : Nat) : TE := fun σ H Q => ∃ v, σ[i]? = some (some v) /\ Q v H
def tC (v : V) : TE := fun _ H Q => Q v H
theorem pe_var {i : Nat} {x : Str} {pos : Pos} (hN : X.N[i]? = some x) (hv : Vis X.env.scope x) (hd : (x == ("__debug__" : Str)) = false := by decide) (hcd : (x == ("__classdict__" : Str)) = false := by decide) : PE X (.Name x pos) (tVar i) := by
  intro pins s σ H Q I h
  obtain ⟨v, e, h⟩ := h
  obtain ⟨m, hn, hl⟩ := I.loc
  obtain ⟨u, r, l⟩ := hl i x v hN e hv
  have fin : EP X pins σ Q u s := ⟨v, H, I, r, h⟩
  rcases l with ⟨hk, hm⟩ | ⟨hk, c, hc, hcell⟩
  · exact wpAny_Name (wpAny_loadName_local I.ok.kind hk hn hm fin) hd
  · rcases hk with hk | hk
    · exact wpAny_Name (wpAny_loadName_cell I.ok.kind hk hc hcell fin) hd
    · exact wpAny_Name (wpAny_loadName_free I.ok.kind hk hc hcell fin hcd) hd
theorem pe_int {i j pos} : PE X (.Constant (.int i) j pos) (tC (.int i)) := fun _ _ _ H _ I h => wpAny_Constant_int ⟨.int i, H, I.tok _, ⟨_, rfl⟩, h⟩
theorem pe_bl {b j pos} : PE X (.Constant (.bool b) j pos) (tC (.bl b)) := fun _ _ _ H _ I h => Constant_bool ⟨.bl b, H, I, rfl, h⟩
theorem pe_non {j pos} : PE X (.Constant .none j pos) (tC .non) := fun _ _ _ H _ I h => Constant_none ⟨.non, H, I, rfl, h⟩
theorem pe_str {x j pos} : PE X (.Constant (.str x) j pos) (tC (.str x)) := fun _ _ _ H _ I h => Calls.Constant_str ⟨.str x, H, I.tok _, ⟨_, rfl⟩, h⟩
def Gl (X : Cx) (x : Str) : Prop := X.env.kindOf x = some .globalImplicit
theorem ld_glob {E : Value -> Shared -> Prop} {pins : List (Addr × Obj)} {s : Shared} {σ : St} {H : Hp} {x : Str} {u : Value} {pos : Pos} {Q : Value -> Shared -> Prop} (I : Inv X pins σ H s) (hg : Gl X x) (hm : X.mg x = some u) (h : Q u s)
    (hd : (x == ("__debug__" : Str)) = false := by decide) : wpAny (model X.prog X.w) X.A (eval (.Name x pos) X.env) Q E s :=
  Calls.Name_function_global I.ok.kind hg (Calls.loadGlobal_global (by rw [I.ok.glob]; exact I.mod.glob.keeps I.bk) hm h) hd
theorem ld_blt {E : Value -> Shared -> Prop} {pins : List (Addr × Obj)} {s : Shared} {σ : St} {H : Hp} {x : Str} {u : Value} {pos : Pos} {Q : Value -> Shared -> Prop} (I : Inv X pins σ H s) (hg : Gl X x) (hm : X.mg x = none) (hv : bootBuiltins x = some u) (h : Q u s)
    (hn : x ≠ "__name__" := by decide) (hd : (x == ("__debug__" : Str)) = false := by decide) : wpAny (model X.prog X.w) X.A (eval (.Name x pos) X.env) Q E s := by
  obtain ⟨mb, h1, h2⟩ := I.mod.blt
  exact Calls.Name_function_global I.ok.kind hg (Calls.loadGlobal_builtin (by rw [I.ok.glob]; exact I.mod.glob.keeps I.bk) hm (by rw [I.ok.blt]; exact h1.keeps I.bk) ((h2 x hn).trans hv) h) hd
theorem pe_glob {x : Str} {v : V} {u : Value} {pos : Pos} (hg : Gl X x) (hm : X.mg x = some u) (r : RelV v u) (hd : (x == ("__debug__" : Str)) = false := by decide) : PE X (.Name x pos) (tC v) :=
  fun _ _ _ H _ I h => ld_glob I hg hm ⟨v, H, I, r, h⟩ hd
theorem pe_bltn {x : Str} {v : V} {u : Value} {pos : Pos} (hg : Gl X x) (hm : X.mg x = none) (hv : bootBuiltins x = some u) (r : RelV v u) (hn : x ≠ "__name__" := by decide) (hd : (x == ("__debug__" : Str)) = false := by decide) : PE X (.Name x pos) (tC v) :=
  fun _ _ _ H _ I h => ld_blt I hg hm hv ⟨v, H, I, r, h⟩ hn hd
variable {a b : Expr} {ta tb : TE} {pos : Pos}
def PC (X : Cx) (op : CmpOp) (a b : Expr) (t : TE) : Prop :=
  ∀ (pins : List (Addr × Obj)) (s : Shared) (σ : St) (H : Hp) (Q : VK), Inv X pins σ H s -> t σ H Q ->
    wpAny (model X.prog X.w) X.A (eval a X.env) (fun v s₁ => wpAny (model X.prog X.w) X.A (eval b X.env) (fun u s₂ => wpAny (model X.prog X.w) X.A (compareOp op v u) (EP X pins σ Q) X.xe s₂) X.xe s₁) X.xe s
theorem nobehind (b : Expr) {op : CmpOp} (h : op ≠ .In) (h2 : op ≠ .NotIn) : behindInMarks op b = false := by
  have e1 : (op == CmpOp.In) = false := by cases op <;> first | rfl | exact absurd rfl h
  have e2 : (op == CmpOp.NotIn) = false := by cases op <;> first | rfl | exact absurd rfl h2
  cases b <;> simp [behindInMarks, e1, e2]
def tIsN (ta : TE) : TE := fun σ H Q => ta σ H fun x H1 => Q (.bl (decide (x = .non))) H1
theorem RelV.none_iff {x : V} {v : Value} (r : RelV x v) : (v == Value.none) = decide (x = .non) := by
  cases x with
  | non => cases r; rfl
  | bl _ => cases r; rfl
  | int _ => obtain ⟨t, rfl⟩ := r; rfl
  | str _ => obtain ⟨t, rfl⟩ := r; rfl
  | byt _ => obtain ⟨t, rfl⟩ := r; rfl
  | flt _ => obtain ⟨t, rfl⟩ := r; rfl
  | ref _ => cases r; rfl
  | ty _ => cases r; rfl
theorem pc_isN {j pos'} (ha : PE X a ta) : PC X .Is a (.Constant .none j pos') (tIsN ta) := by
  intro pins s σ H Q I h
  refine thn (ha pins s σ H _ I h) fun v s1 ⟨x, H1, I1, r1, q1⟩ => ?_
  exact Constant_none (is_none_gen ⟨.bl _, H1, I1, by rw [r1.none_iff]; rfl, q1⟩)
def tB (t : TE) : TT := fun σ H Q => t σ H fun x H1 => ∃ c, x = .bl c /\ Q c H1
theorem pe_cmp {op : CmpOp} {t : TE} (h : PC X op a b t) (h1 : behindInMarks op b = false := by first | exact nobehind _ (by decide) (by decide) | rfl) : PE X (.Compare a [op] [b] pos) t := fun pins s σ H Q I hw => wpAny_Compare1 (h pins s σ H Q I hw) h1
theorem pt_cmp {op : CmpOp} {t : TE} (h : PC X op a b t) (h1 : behindInMarks op b = false := by first | exact nobehind _ (by decide) (by decide) | rfl) : PT X (.Compare a [op] [b] pos) (tB t) := by
  intro pins s σ H Q I hw
  refine wpAny_isTrue_Compare1 (thn (h pins s σ H _ I hw) fun v s1 h1 => thn h1 fun u s2 h2 => thn h2 fun c s3 ⟨x, H1, I1, r1, q1⟩ => ?_) h1
  obtain ⟨d, rfl, q⟩ := q1
  cases r1
  exact wpAny_truthy_bool ⟨H1, I1, q⟩
theorem pt_val {e : Expr} {t : TE} (h : PE X e t) (he : ∀ whole, isTrue e X.env whole = (do let v <- whole; standAt e.pos; holding [v] (truthy v)) := by intro _; rfl) : PT X e (tB t) := by
  intro pins s σ H Q I hw
  refine isTrue_plain (thn (h pins s σ H _ I hw) fun v s1 ⟨x, H1, I1, r1, q1⟩ => ?_) (he _)
  obtain ⟨d, rfl, q⟩ := q1
  cases r1
  exact wpAny_truthy_bool ⟨H1, I1, q⟩
variable {tA tB' : TT} {rest : List Expr}
def tOr (t u : TT) : TT := fun σ H Q => t σ H fun c H1 => if c = true then Q true H1 else u σ H1 Q
def tNot (t : TT) : TT := fun σ H Q => t σ H fun c H1 => Q (!c) H1
theorem pw_or1 (ha : PT X a tA) : PW X (.BoolOp .Or [a] pos) tA := by
  intro wh pins s σ H Q I h
  refine isTrue_or (thn (ha pins s σ H Q I h) fun c s1 e => ?_)
  cases c with
  | false => exact isTrue_or_nil e
  | true => exact e
theorem pw_or (ha : PT X a tA) (hb : PW X (.BoolOp .Or (b :: rest) pos) tB') : PW X (.BoolOp .Or (a :: b :: rest) pos) (tOr tA tB') := by
  intro wh pins s σ H Q I h
  refine isTrue_or (thn (ha pins s σ H _ I h) fun c s1 ⟨H1, I1, q1⟩ => ?_)
  cases c with
  | true => exact ⟨H1, I1, q1⟩
  | false => exact hb wh pins s1 σ H1 Q I1 q1
theorem pt_not (ha : PT X a tA) : PT X (.UnaryOp .Not a pos) (tNot tA) := by
  intro pins s σ H Q I h
  exact isTrue_not (ha pins s σ H (fun c H1 => Q (!c) H1) I h)
def tAndV (ta tb : TE) : TE := fun σ H Q => ta σ H fun x H1 => ∃ c, x = .bl c /\ if c = true then tb σ H1 Q else Q (.bl false) H1
def tNotV (ta : TE) : TE := fun σ H Q => ta σ H fun x H1 => ∃ c, x = .bl c /\ Q (.bl (!c)) H1
theorem pe_one {op} {t : TE} (h : PE X a t) : PE X (.BoolOp op [a] pos) t := fun pins s σ H Q I hw => BoolOp_one (h pins s σ H Q I hw)
theorem pe_and (ha : PE X a ta) (hb : PE X (.BoolOp .And (b :: rest) pos) tb) : PE X (.BoolOp .And (a :: b :: rest) pos) (tAndV ta tb) := by
  intro pins s σ H Q I h
  refine BoolOp_and (thn (ha pins s σ H _ I h) fun v s1 ⟨x, H1, I1, r1, q1⟩ => ?_)
  obtain ⟨c, rfl, q1⟩ := q1
  cases r1
  refine wpAny_truthy_bool ?_
  cases c with
  | true => exact hb pins s1 σ H1 Q I1 q1
  | false => exact ⟨.bl false, H1, I1, rfl, q1⟩
theorem pe_not (ha : PE X a ta) : PE X (.UnaryOp .Not a pos) (tNotV ta) := by
  intro pins s σ H Q I h
  refine UnaryOp_ (thn (ha pins s σ H _ I h) fun v s1 ⟨x, H1, I1, r1, q1⟩ => ?_)
  obtain ⟨c, rfl, q1⟩ := q1
  cases r1
  exact not_of (wpAny_truthy_bool ⟨.bl (!c), H1, I1, rfl, q1⟩)
def tIf (t : TT) (ta tb : TE) : TE := fun σ H Q => t σ H fun c H1 => if c = true then ta σ H1 Q else tb σ H1 Q
theorem pe_ifExp {c : Expr} (hc : PT X c tA) (ha : PE X a ta) (hb : PE X b tb) : PE X (.IfExp c a b pos) (tIf tA ta tb) := by
  intro pins s σ H Q I h
  refine wpAny_IfExp (thn (hc pins s σ H _ I h) fun d s1 ⟨H1, I1, q1⟩ => ?_)
  cases d with
  | true => exact ha pins s1 σ H1 Q I1 q1
  | false => exact hb pins s1 σ H1 Q I1 q1
end
end L2
namespace L2
open PySem PySem.Spec PyProof.Rows
def SqL (K : PySem.W.Frag) (H : Hp) (a : Addr) (xs : List V) : Prop :=
  Rd H a (.lst xs) ∨
    ∃ (o : Obj) (its : Array Value) (n : Nat), K.lookup a = some o /\ o.cls = .type "list" /\ o.dict = none /\ o.data = .seq its n /\ its.size <= sizeLine /\ Vals xs its.toList
def SqT (K : PySem.W.Frag) (H : Hp) (a : Addr) (xs : List V) : Prop :=
  Rd H a (.tup xs) ∨
    ∃ (o : Obj) (its : Array Value) (n : Nat), K.lookup a = some o /\ o.cls = .type "tuple" /\ o.data = .seq its n /\ its.size <= sizeLine /\ Vals xs its.toList
def absV : Value -> Option V
  | .none => some .non
  | .bool b => some (.bl b)
  | .int i _ => some (.int i)
  | .str x _ => some (.str x)
  | .bytes b _ => some (.byt b)
  | .float b _ => some (.flt b)
  | .ref a => some (.ref a)
  | .type n => some (.ty n)
  | _ => none
theorem RelV.abs {x : V} {u : Value} (r : RelV x u) : absV u = some x := by
  cases x with
  | non => cases r; rfl
  | bl _ => cases r; rfl
  | int _ => obtain ⟨t, rfl⟩ := r; rfl
  | str _ => obtain ⟨t, rfl⟩ := r; rfl
  | byt _ => obtain ⟨t, rfl⟩ := r; rfl
  | flt _ => obtain ⟨t, rfl⟩ := r; rfl
  | ref _ => cases r; rfl
  | ty _ => cases r; rfl
theorem RelV.inj {x y : V} {u : Value} (r : RelV x u) (q : RelV y u) : x = y := Option.some.inj (r.abs.symm.trans q.abs)
theorem Vals.inj : ∀ {xs ys : List V} {us : List Value}, Vals xs us -> Vals ys us -> xs = ys
  | _, _, _, .nil, .nil => rfl
  | _, _, _, .cons r t, .cons r' t' => by rw [r.inj r', Vals.inj t t']
section
variable {X : Cx} {pins : List (Addr × Obj)} {σ : St} {H : Hp} {s : Shared} {a : Addr} {xs ys : List V}
theorem SqL.of {K : PySem.W.Frag} (h : H a = some (.lst xs)) : SqL K H a xs := .inl (.inl h)
theorem SqT.of {K : PySem.W.Frag} (h : H a = some (.tup xs)) : SqT K H a xs := .inl (.inl h)
theorem Inv.list (I : Inv X pins σ H s) (h : SqL X.K H a xs) : ∃ its : List Value, Vals xs its /\ PlainL s.heap a its.toArray /\ xs.length <= sizeLine := by
  rcases h with h | ⟨o, its, n, hk, hc, hd, hs, hz, r⟩
  · obtain ⟨z, its, n, r, e⟩ := h.ok I.hok
    exact ⟨its, r, ⟨_, n, e, rfl, rfl, rfl⟩, z⟩
  · refine ⟨its.toList, r, ⟨o, n, I.kIn a o hk, hc, hd, by simpa using hs⟩, ?_⟩
    have e := r.length
    simp only [Array.length_toList] at e
    omega
theorem Inv.tuple (I : Inv X pins σ H s) (h : SqT X.K H a xs) : ∃ its : List Value, Vals xs its /\ IsTup s.heap a its.toArray /\ xs.length <= sizeLine := by
  rcases h with h | ⟨o, its, n, hk, hc, hs, hz, r⟩
  · obtain ⟨z, its, r, p, _⟩ := h.ok I.hok
    exact ⟨its, r, p, z⟩
  · refine ⟨its.toList, r, ⟨o, I.kIn a o hk, hc, n, by simpa using hs⟩, ?_⟩
    have e := r.length
    simp only [Array.length_toList] at e
    omega
theorem Inv.list_inj (I : Inv X pins σ H s) (h : SqL X.K H a xs) (h' : SqL X.K H a ys) : xs = ys := by
  obtain ⟨its, r, ⟨o, n, e, _, _, d⟩, _⟩ := I.list h
  obtain ⟨its', r', ⟨o', n', e', _, _, d'⟩, _⟩ := I.list h'
  rw [e] at e'; cases e'
  rw [d] at d'
  injection d' with d1 _
  have : its = its' := by simpa using congrArg Array.toList d1
  subst this
  exact r.inj r'
theorem Inv.tuple_inj (I : Inv X pins σ H s) (h : SqT X.K H a xs) (h' : SqT X.K H a ys) : xs = ys := by
  obtain ⟨its, r, ⟨o, e, _, n, d⟩, _⟩ := I.tuple h
  obtain ⟨its', r', ⟨o', e', _, n', d'⟩, _⟩ := I.tuple h'
  rw [e] at e'; cases e'
  rw [d] at d'
  injection d' with d1 _
  have : its = its' := by simpa using congrArg Array.toList d1
  subst this
  exact r.inj r'
end
abbrev Cx.wish (X : Cx) (E : Value -> Shared -> Prop) : Cx := { X with xe := E }
abbrev Cx.nox (X : Cx) : Cx := X.wish fun _ _ => False
theorem Cx.Ok.wish {X : Cx} (ok : X.Ok) (E : Value -> Shared -> Prop) : (X.wish E).Ok :=
  ⟨ok.mod, ok.kind, ok.glob, ok.blt, ok.above, ok.inj, ok.has, ok.cab, ok.hd, ok.frames, ok.stk, ok.exf, ok.bs, ok.bsz, ok.noex, ok.exfs, ok.funs, ok.frf⟩
theorem Cx.Ok.unwish {X : Cx} {E : Value -> Shared -> Prop} (ok : (X.wish E).Ok) : X.Ok :=
  ⟨ok.mod, ok.kind, ok.glob, ok.blt, ok.above, ok.inj, ok.has, ok.cab, ok.hd, ok.frames, ok.stk, ok.exf, ok.bs, ok.bsz, ok.noex, ok.exfs, ok.funs, ok.frf⟩
section
variable {X : Cx} {pins : List (Addr × Obj)} {σ : St} {H : Hp} {s : Shared} {E : Value -> Shared -> Prop}
theorem Inv.wish (I : Inv X pins σ H s) (E : Value -> Shared -> Prop) : Inv (X.wish E) pins σ H s := ⟨I.ok.wish E, I.os, I.bare, I.base, I.loc, I.cell, I.free, I.freeC, I.pin, I.hok, I.len⟩
theorem Inv.unwish (I : Inv (X.wish E) pins σ H s) : Inv X pins σ H s := ⟨I.ok.unwish, I.os, I.bare, I.base, I.loc, I.cell, I.free, I.freeC, I.pin, I.hok, I.len⟩
theorem SP.unwish {D : Ends} {f : Flow} {s' : Shared} (h : SP (X.wish E) pins D f s') : SP X pins D f s' := by
  cases f with
  | next => obtain ⟨σ', H', I, q⟩ := h; exact ⟨σ', H', I.unwish, q⟩
  | brk => obtain ⟨σ', H', I, q⟩ := h; exact ⟨σ', H', I.unwish, q⟩
  | cont => obtain ⟨σ', H', I, q⟩ := h; exact ⟨σ', H', I.unwish, q⟩
  | ret u => obtain ⟨v, σ', H', I, r, q⟩ := h; exact ⟨v, σ', H', I.unwish, r, q⟩
theorem PSs.nox {st : List Stmt} {t : TS} (h : PSs X.nox st t) : PSs X st t := fun pins s σ H D I hw =>
  wpAny_mono (h pins s σ H D (I.wish _) hw) (fun _ _ q => q.unwish) fun _ _ z => False.elim z
end
section
variable {X : Cx} {st : Stmt} {rest : List Stmt} {t u : TS} {e : Expr} {te : TE} {pos : Pos}
def tNext : TS := fun D σ H => D.nx σ H
def tSeq (t u : TS) : TS := fun D σ H => t { D with nx := u D } σ H
theorem pss_nil : PSs X [] tNext := fun _ _ σ H _ I h => wpAny_execs_nil ⟨σ, H, I, h⟩
theorem pss_cons (h1 : PS X st t) (h2 : PSs X rest u) : PSs X (st :: rest) (tSeq t u) := by
  intro pins s σ H D I h
  refine wpAny_execs_cons (thn (h1 pins s σ H { D with nx := u D } I h) fun f s1 q => ?_)
  cases f with
  | next =>
    obtain ⟨σ', H', I', q⟩ := q
    exact h2 pins s1 σ' H' D I' q
  | ret v => exact q
  | brk => exact q
  | cont => exact q
theorem pss_one (h1 : PS X st t) : PSs X [st] t := by
  intro pins s σ H D I h
  refine wpAny_execs_cons (thn (h1 pins s σ H D I h) fun f s1 q => ?_)
  cases f with
  | next => exact wpAny_execs_nil q
  | ret v => exact q
  | brk => exact q
  | cont => exact q
theorem Inv.quiet {pins : List (Addr × Obj)} {σ : St} {H : Hp} {s : Shared} (I : Inv X pins σ H s) : interactive X.env = false := by simp [interactive, I.ok.kind]
def tDrop (te : TE) : TS := fun D σ H => te σ H fun _ H1 => D.nx σ H1
theorem ps_expr (he : PE X e te) (hs : swapsWith e none pos.line X.env = pure false := by rfl) : PS X (.Expr e pos) (tDrop te) := by
  intro pins s σ H D I h
  exact wpAny_Expr_any (thn (he pins s σ H _ I h) fun v s1 ⟨x, H1, I1, r1, q1⟩ => ⟨σ, H1, I1, q1⟩) I.quiet hs
def tRet (te : TE) : TS := fun D σ H => te σ H D.rt
theorem ps_ret (he : PE X e te) : PS X (.Return (some e) pos) (tRet te) := by
  intro pins s σ H D I h
  exact wpAny_Return_some (thn (he pins s σ H _ I h) fun v s1 ⟨x, H1, I1, r1, q1⟩ => ⟨x, σ, H1, I1, r1, q1⟩)
def tIfS (c : TT) (t u : TS) : TS := fun D σ H => c σ H fun b H1 => if b = true then t D σ H1 else u D σ H1
theorem ps_if {c : Expr} {a b : List Stmt} {tc : TT} (hc : PT X c tc) (ha : PSs X a t) (hb : PSs X b u) : PS X (.If c a b pos) (tIfS tc t u) := by
  intro pins s σ H D I h
  refine wpAny_If (thn (hc pins s σ H _ I h) fun d s1 ⟨H1, I1, q1⟩ => ?_)
  cases d with
  | true => exact ha pins s1 σ H1 D I1 q1
  | false => exact hb pins s1 σ H1 D I1 q1
def tNever : TS := fun _ _ _ => False
theorem pss_never {sts : List Stmt} : PSs X sts tNever := fun _ _ _ _ _ _ h => h.elim
end
abbrev TG := V -> St -> Hp -> (St -> Hp -> Prop) -> Prop
abbrev TGs := List V -> St -> Hp -> (St -> Hp -> Prop) -> Prop
def PG (X : Cx) (target : Expr) (t : TG) : Prop :=
  ∀ (pins : List (Addr × Obj)) (s : Shared) (σ : St) (H : Hp) (v : V) (u : Value) (Q : St -> Hp -> Prop), Inv X pins σ H s -> RelV v u -> t v σ H Q ->
    wpAny (model X.prog X.w) X.A (assign target X.env u) (fun _ s' => ∃ σ' H', Inv X pins σ' H' s' /\ Q σ' H') X.xe s
def PGs (X : Cx) (ts : List Expr) (t : TGs) : Prop :=
  ∀ (pins : List (Addr × Obj)) (s : Shared) (σ : St) (H : Hp) (vs : List V) (us : List Value) (Q : St -> Hp -> Prop), Inv X pins σ H s -> Vals vs us -> t vs σ H Q ->
    wpAny (model X.prog X.w) X.A (assignInOrder ((assignEach ts X.env).map (·.2)) us) (fun _ s' => ∃ σ' H', Inv X pins σ' H' s' /\ Q σ' H') X.xe s
abbrev TSet := V -> V -> V -> Hp -> (Hp -> Prop) -> Prop
def PSet (X : Cx) (t : TSet) : Prop :=
  ∀ (pins : List (Addr × Obj)) (s : Shared) (σ : St) (H : Hp) (o i v : V) (ov iv u : Value) (Q : Hp -> Prop), Inv X pins σ H s -> RelV o ov -> RelV i iv -> RelV v u -> t o i v H Q ->
    wpAny (model X.prog X.w) X.A (setItem ov iv u) (fun _ s' => ∃ H', Inv X pins σ H' s' /\ Q H') X.xe s
section
variable {X : Cx} {pos : Pos}
def gName (i : Nat) : TG := fun v σ H Q => Q (σ.set i (some v)) H
theorem pg_name {i : Nat} {x : Str} (hN : X.N.Nodup) (hi : X.N[i]? = some x) (hx : Loc X.env.scope x) (hf : X.fn x = true ∨ X.env.scope.names.lookup x = some .local := by first | exact .inl rfl | exact .inr rfl | assumption) : PG X (.Name x pos) (gName i) := by
  intro pins s σ H v u Q I r h
  exact wpAny_assign_Name (store_ok I hN hi hx r (fun s' I' => ⟨_, H, I', h⟩) hf)
def gNil : TGs := fun vs σ H Q => vs = [] /\ Q σ H
def gCons (t : TG) (u : TGs) : TGs := fun vs σ H Q => ∃ v r, vs = v :: r /\ t v σ H fun σ' H' => u r σ' H' Q
theorem pgs_nil : PGs X [] gNil := by
  intro pins s σ H vs us Q I r h
  obtain ⟨e, h⟩ := h
  subst e
  cases r
  exact assignInOrder_nil ⟨σ, H, I, h⟩
theorem pgs_cons {e : Expr} {es : List Expr} {t : TG} {u : TGs} (h1 : PG X e t) (h2 : PGs X es u)
    (hs : (assignEach (e :: es) X.env).map (·.2) = assign e X.env :: (assignEach es X.env).map (·.2) := by rfl) : PGs X (e :: es) (gCons t u) := by
  intro pins s σ H vs us Q I r h
  obtain ⟨v, vr, e1, h⟩ := h
  subst e1
  cases r with
  | cons r rr =>
    rw [hs]
    refine assignInOrder_cons (thn (h1 pins s σ H _ _ _ I r h) fun _ s1 ⟨σ1, H1, I1, q1⟩ => ?_)
    exact h2 pins s1 σ1 H1 _ _ Q I1 rr q1
def gTup (K : PySem.W.Frag) (n : Nat) (t : TGs) : TG := fun v σ H Q => ∃ a xs, v = .ref a /\ SqT K H a xs /\ xs.length = n /\ t xs σ H Q
theorem pg_tup {es : List Expr} {k : Nat} {t : TGs} {n : Nat} (hc : X.calm = true) (h : PGs X es t)
    (hn : (assignEach es X.env).length = n := by rfl) (hst : (assignEach es X.env).findIdx? (·.1) = none := by rfl) : PG X (.Tuple es k pos) (gTup X.K n t) := by
  intro pins s σ H v u Q I r hw
  obtain ⟨a, xs, e1, hq, hl, hw⟩ := hw
  subst e1
  cases r
  obtain ⟨its, rv, ht, hz⟩ := I.tuple hq
  refine assign_Tuple_tuple (I.ok.hd hc) ht (by simp [hn, <- hl, rv.length]) hst fun h' hx => ?_
  have I1 : Inv X pins σ H { s with heap := h' } := I.kept (t' := s.toks) fun b o e => hx b o (Nat.ne_of_lt (Heap.lt_size e)) e
  exact h pins _ σ H xs _ Q I1 (by simpa using rv) hw
def gSub (to ti : TE) (t : TSet) : TG := fun v σ H Q => to σ H fun o H1 => ti σ H1 fun i H2 => t o i v H2 fun H3 => Q σ H3
theorem pg_sub {o i : Expr} {to ti : TE} {t : TSet} (ho : PE X o to) (hi : PE X i ti) (hs : PSet X t)
    (ha : ∀ v, assign (.Subscript o i pos) X.env v = (do
      let ov <- holding [v] (eval o X.env)
      let iv <- holding [v, ov] (eval i X.env)
      standAt pos
      holding [v, ov, iv] (setItem ov iv v)
      release [v, ov, iv] []) := by intro _; rfl) : PG X (.Subscript o i pos) (gSub to ti t) := by
  intro pins s σ H v u Q I r h
  rw [ha]
  refine wpAny_bind (wpAny_holding (thn (ho pins s σ H _ I h) fun ov s1 ⟨x, H1, I1, r1, q1⟩ => ?_))
  refine wpAny_bind (wpAny_holding (thn (hi pins s1 σ H1 _ I1 q1) fun iv s2 ⟨y, H2, I2, r2, q2⟩ => ?_))
  refine wpAny_bind (wpAny_standAt (wpAny_bind (wpAny_holding (thn (hs pins s2 σ H2 x y v ov iv u _ I2 r1 r2 r q2) fun _ s3 ⟨H3, I3, q3⟩ => ?_))))
  exact wpAny_release ⟨σ, H3, I3, q3⟩
def tAsg (te : TE) (g : TG) : TS := fun D σ H => te σ H fun x H1 => g x σ H1 D.nx
theorem ps_asg {tg e : Expr} {te : TE} {g : TG} (he : PE X e te) (hg : PG X tg g) (hs : swapsWithSole [tg] e pos.line X.env = pure false := by rfl) (hw : swappedStores [tg] e X.env = pure none := by rfl)
    (h1 : (assignEach [tg] X.env).map (·.2) = [assign tg X.env] := by rfl) : PS X (.Assign [tg] e pos) (tAsg te g) := by
  intro pins s σ H D I h
  refine wpAny_Assign_stores (thn (he pins s σ H _ I h) fun v s1 ⟨x, H1, I1, r1, q1⟩ => ?_) hs hw
  rw [h1]
  exact thn (hg pins s1 σ H1 x v _ I1 r1 q1) fun _ s2 q => q
theorem ps_set {i : Nat} {x : Str} {e : Expr} {te : TE} {pos' : Pos} (hN : X.N.Nodup) (hi : X.N[i]? = some x) (hx : Loc X.env.scope x) (he : PE X e te) (hs : swapsWith e (some (.Name x pos')) pos.line X.env = pure false := by rfl) (hf : X.fn x = true ∨ X.env.scope.names.lookup x = some .local := by first | exact .inl rfl | exact .inr rfl | assumption) :
    PS X (.Assign [.Name x pos'] e pos) (tAsg te (gName i)) := by
  intro pins s σ H D I h
  refine wpAny_Assign_Name (thn (he pins s σ H _ I h) fun v s1 ⟨y, H1, I1, r1, q1⟩ => ?_) hs
  exact store_ok I1 hN hi hx r1 (fun s2 I2 => ⟨_, H1, I2, q1⟩) hf
end
section
variable {X : Cx} {pos : Pos}
end
structure It where
  go : Nat -> Hp -> Prop
  yld : Nat -> Hp -> V -> Hp -> Prop
  stop : Nat -> Hp -> Prop
def FpOk (X : Cx) (pins : List (Addr × Obj)) (H : Hp) (b : Addr) : Prop :=
  H b = none /\ b ≠ X.env.locals /\ b ∉ X.fs /\ (b ∈ X.ex ∨ X.s₀.heap.objs.size <= b) /\ (∀ x c, X.env.cells.lookup x = some c -> c ≠ b) /\ ∀ p ∈ X.pn ++ pins, p.1 ≠ b
theorem Inv.fpOk {X : Cx} {pins : List (Addr × Obj)} {σ : St} {H H' : Hp} {s : Shared} {b : Addr} (I : Inv X pins σ H s) (hb : s.heap.objs.size <= b) (hn : H' b = none) : FpOk X pins H' b := by
  refine ⟨hn, Nat.ne_of_gt (Nat.lt_of_lt_of_le I.lt hb), I.nofs hb, .inr (Nat.le_trans I.sz hb), fun x c e z => ?_, fun p hp z => ?_⟩
  · obtain ⟨v, q⟩ := I.cell x c e
    exact absurd (Nat.lt_of_lt_of_le q.lt (by rw [z]; exact hb)) (Nat.lt_irrefl _)
  · exact absurd (Nat.lt_of_lt_of_le (Heap.lt_size (I.pin p hp).1) (by rw [z]; exact hb)) (Nat.lt_irrefl _)
structure Turn (P : Program) (w : World) (K : PySem.W.Frag) (tg : Expr) (J : It) (fp : List Addr) (it : Addr) (tn : Nat -> Heap -> Prop) : Prop where
  mem : it ∈ fp
  obj : ∀ i h, tn i h -> ∀ b ∈ fp, ∃ o, h.get? b = some o /\ ∀ v, o.data ≠ .cell v
  keep : ∀ i h h', tn i h -> (∀ b ∈ fp, ∀ o, h.get? b = some o -> h'.get? b = some o) -> tn i h'
  item : ∀ (X : Cx), X.prog = P -> X.w = w -> X.K = K -> X.calm = true -> ∀ (i : Nat) (pins : List (Addr × Obj)) (s : Shared) (σ : St) (H : Hp) (E : Value -> Shared -> Prop), Inv X pins σ H s -> (∀ b ∈ fp, FpOk X pins H b) -> tn i s.heap -> J.go i H ->
    wpAny (model P w) X.A (pyNext (.ref it)) (fun r s1 => ∃ u, r = some u /\
      wpAny (model P w) X.A (letOwnedTupleGo tg (.ref it) u) (fun _ s2 => ∃ x H', Inv X pins σ H' s2 /\ RelV x u /\ J.yld i H x H' /\ tn (i + 1) s2.heap /\ ∀ b ∈ fp, H' b = none) E s1) E s
  done : ∀ (X : Cx), X.prog = P -> X.w = w -> X.K = K -> X.calm = true -> ∀ (i : Nat) (pins : List (Addr × Obj)) (s : Shared) (σ : St) (H : Hp) (E : Value -> Shared -> Prop), Inv X pins σ H s -> (∀ b ∈ fp, FpOk X pins H b) -> tn i s.heap -> J.stop i H ->
    wpAny (model P w) X.A (pyNext (.ref it)) (fun r s1 => r = none /\ Inv X pins σ H s1) E s
  self : ∀ (A : Around) (i : Nat) (s : Shared) (Q : Value -> Shared -> Prop) (E : Value -> Shared -> Prop), tn i s.heap -> Q (.ref it) s -> wpAny (model P w) A (pyIter (.ref it)) Q E s
abbrev TI := St -> Hp -> (It -> Hp -> Prop) -> Prop
def PIE (X : Cx) (pins : List (Addr × Obj)) (σ : St) (tg : Expr) (R : It -> Hp -> Prop) (itv : Value) (s2 : Shared) : Prop :=
  ∃ (it : Addr) (fp : List Addr) (tn : Nat -> Heap -> Prop) (J : It) (H' : Hp), itv = .ref it /\ Inv X pins σ H' s2 /\ Turn X.prog X.w X.K tg J fp it tn /\ tn 0 s2.heap /\ (∀ b ∈ fp, FpOk X pins H' b) /\ R J H'
def PI (X : Cx) (tg iter : Expr) (wi : TI) : Prop :=
  ∀ (pins : List (Addr × Obj)) (s : Shared) (σ : St) (H : Hp) (R : It -> Hp -> Prop), Inv X pins σ H s -> wi σ H R ->
    wpAny (model X.prog X.w) X.A (eval iter X.env) (fun v s1 => wpAny (model X.prog X.w) X.A (pyIter v) (PIE X pins σ tg R) X.xe s1) X.xe s
theorem go_of {M : Model} {A : Around} {E : Value -> Shared -> Prop} {s : Shared} {tg : Expr} {it : Addr} {u : Value} {o : Obj} {n : String} {vs : Array Value} {Q : Unit -> Shared -> Prop} (ho : s.heap.get? it = some o) (hc : o.cls = .type n) (hd : o.data = .fields vs)
    (hn : ["enumerate", "zip", "dict_itemiterator", "dict_reverseitemiterator", "odict_iterator", "itertools.zip_longest", "itertools.pairwise"].contains n = false) (hQ : Q () s) : wpAny M A (letOwnedTupleGo tg (.ref it) u) Q E s := by
  unfold letOwnedTupleGo
  cases tg <;> first
    | exact wpAny_pure hQ
    | (cases u <;> first
        | exact wpAny_pure hQ
        | (refine wpAny_bind (wpAny_load ho ?_)
           rw [hc, hd]
           show wpAny M A (if (["enumerate", "zip", "dict_itemiterator", "dict_reverseitemiterator", "odict_iterator", "itertools.zip_longest", "itertools.pairwise"].contains n && vs[0]? == some (rawInt _)) = true then _ else _) Q E s
           rw [if_neg (by intro h; rw [hn, Bool.false_and] at h; cases h)]
           exact wpAny_pure hQ))
def Itl (K : PySem.W.Frag) (a : Addr) : It :=
  ⟨fun i H => ∃ xs x, SqL K H a xs /\ xs[i]? = some x, fun i H x H' => H' = H /\ ∀ xs, SqL K H a xs -> xs[i]? = some x, fun i H => ∃ xs, SqL K H a xs /\ xs.length <= i⟩
def Itr (lo : Int) (n : Nat) : It := ⟨fun i _ => i < n, fun i H x H' => H' = H /\ x = .int (lo + i), fun i _ => n <= i⟩
theorem turn_list {P : Program} {w : World} {K : PySem.W.Frag} {tg : Expr} (a it : Addr) : Turn P w K tg (Itl K a) [it] it (fun i h => h.IsListIter it a i) where
  mem := by simp
  obj := fun i h st b hb => by
    have e : b = it := by simpa using hb
    subst e
    obtain ⟨o, e, c, d⟩ := st
    exact ⟨o, e, fun v z => by rw [d] at z; cases z⟩
  keep := fun i h h' st k => st.at fun o e => k it (by simp) o e
  item := by
    intro X hP hw hK hc i pins s σ H E I hf st hg
    subst hP hw hK
    obtain ⟨xs, x, hq, hx⟩ := hg
    obtain ⟨its, rv, p, hz⟩ := I.list hq
    obtain ⟨u, hu, ru⟩ := rv.get hx
    obtain ⟨f0, f1, f2, f3, f4, f5⟩ := hf it (by simp)
    refine wpAny_pyNext_list_item st p.isList (x := u) (by simpa using hu) fun h' st' sb => ?_
    have I1 : Inv X pins σ H { s with heap := h' } := I.turned (t' := s.toks) (fun b o hb e => (sb.2 b hb).trans e) f0 f1 f3 f4 f5
    obtain ⟨o, e, c, d⟩ := id st'
    exact ⟨u, rfl, go_of (s := { s with heap := h' }) e c d (by decide) ⟨x, H, I1, ru, ⟨rfl, fun ys hy => by rw [I.list_inj hy hq]; exact hx⟩, st', fun b hb => (hf b hb).1⟩⟩
  done := by
    intro X hP hw hK hc i pins s σ H E I hf st hg
    subst hP hw hK
    obtain ⟨xs, hq, hx⟩ := hg
    obtain ⟨its, rv, p, hz⟩ := I.list hq
    obtain ⟨f0, f1, f2, f3, f4, f5⟩ := hf it (by simp)
    have hl := rv.length
    exact wpAny_pyNext_list_end (I.ok.hd hc) st p.isList (by simp; omega) fun h' eb => ⟨rfl, I.turned (t' := s.toks) (fun b o hb e => eb b o hb e) f0 f1 f3 f4 f5⟩
  self := fun _ _ _ _ _ st h => wpAny_pyIter_listiter st h
theorem turn_range {P : Program} {w : World} {K : PySem.W.Frag} {tg : Expr} (it : Addr) (lo : Int) (n : Nat) : Turn P w K tg (Itr lo n) [it] it (fun i h => IsRangeIter h it (lo + (i : Nat) * 1) ((n : Int) - (i : Nat)) 1) where
  mem := by simp
  obj := fun i h st b hb => by
    have e : b = it := by simpa using hb
    subst e
    exact ⟨_, st, fun v z => by
      have z' : Data.fields _ = Data.cell v := z
      cases z'⟩
  keep := fun i h h' st k => k it (by simp) _ st
  item := by
    intro X hP hw hK hc i pins s σ H E I hf st hg
    subst hP hw hK
    obtain ⟨f0, f1, f2, f3, f4, f5⟩ := hf it (by simp)
    have W := Walks.range (prog := X.prog) (w := X.w) (I.ok.hd hc) it lo 1 n
    refine W.item i s _ _ hg st fun v h' tk hv st' kk => ?_
    obtain ⟨t, rfl⟩ := hv
    have I1 : Inv X pins σ H { s with heap := h', toks := tk } := I.turned (fun b o hb e => kk b o (by simpa using hb) e) f0 f1 f3 f4 f5
    refine ⟨_, rfl, go_of (s := { s with heap := h', toks := tk }) (n := "range_iterator") st' rfl rfl (by decide) ⟨.int (lo + i), H, I1, ⟨t, ?_⟩, ⟨rfl, rfl⟩, st', fun b hb => (hf b hb).1⟩⟩
    rw [Int.mul_one]
  done := by
    intro X hP hw hK hc i pins s σ H E I hf st hg
    subst hP hw hK
    obtain ⟨f0, f1, f2, f3, f4, f5⟩ := hf it (by simp)
    exact wpAny_pyNext_range_end (I.ok.hd hc) st (by have : n <= i := hg; omega) fun h' eb => ⟨rfl, I.turned (t' := s.toks) (fun b o hb e => eb b o hb e) f0 f1 f3 f4 f5⟩
  self := fun _ _ _ _ _ st h => wpAny_pyIter_rangeiter st h
end L2
namespace L2
open PySem PySem.Spec PyProof.Rows
section
variable {X : Cx} {tg : Expr}
def iList (K : PySem.W.Frag) (tl : TE) : TI := fun σ H R => tl σ H fun x H1 => ∃ a, x = .ref a /\ (∃ xs, SqL K H1 a xs) /\ R (Itl K a) H1
theorem pi_list {l : Expr} {tl : TE} (hl : PE X l tl) : PI X tg l (iList X.K tl) := by
  intro pins s σ H R I h
  refine thn (hl pins s σ H _ I h) fun v s1 ⟨x, H1, I1, r1, q1⟩ => ?_
  obtain ⟨a, e, ⟨xs, hq⟩, q⟩ := q1
  subst e
  cases r1
  obtain ⟨its, rv, p, hz⟩ := I1.list hq
  refine wpAny_pyIter_list p.isList ?_
  refine ⟨s1.heap.objs.size, [s1.heap.objs.size], _, _, H1, rfl, I1.kept (t' := s1.toks) fun b o e => Heap.get?_push_of_some _ e, turn_list a _, ⟨_, Heap.get?_push_size _ rfl, rfl, rfl⟩, fun b hb => ?_, q⟩
  have e : b = s1.heap.objs.size := by simpa using hb
  subst e
  exact I1.fpOk (Nat.le_refl _) (I1.hok.fresh (Nat.le_refl _))
theorem range_it {pins : List (Addr × Obj)} {σ : St} {H : Hp} {s : Shared} {R : It -> Hp -> Prop} {E : Value -> Shared -> Prop} {lo hi : Int} {t u v : Tok} {tk : Nat} (I : Inv X pins σ H s) (h1 : -(2 ^ 62) <= lo) (h2 : lo < 2 ^ 62) (h3 : -(2 ^ 62) <= hi) (h4 : hi < 2 ^ 62)
    (q : R (Itr lo (hi - lo).toNat) H) : wpAny (model X.prog X.w) X.A (pyIter (.ref s.heap.objs.size)) (PIE X pins σ tg R) E { s with heap := s.heap.push { cls := .type "range", data := .fields #[.int lo t, .int hi u, .int 1 v] }, toks := tk } := by
  refine wpAny_pyIter_range (IsRange.new ..) (small_one h1 h2 h3 h4) ?_
  have I1 : Inv X pins σ H { s with heap := s.heap.push { cls := .type "range", data := .fields #[.int lo t, .int hi u, .int 1 v] }, toks := tk } := I.kept fun b o e => Heap.get?_push_of_some _ e
  refine ⟨(s.heap.push { cls := .type "range", data := .fields #[.int lo t, .int hi u, .int 1 v] }).objs.size, [(s.heap.push { cls := .type "range", data := .fields #[.int lo t, .int hi u, .int 1 v] }).objs.size], _, _, H, rfl,
    I1.kept (t' := tk) fun b o e => Heap.get?_push_of_some _ e, turn_range _ lo (hi - lo).toNat, ?_, fun b hb => ?_, q⟩
  · have e1 : lo + ((0 : Nat) : Int) * 1 = lo := by simp
    have e2 : (((hi - lo).toNat : Nat) : Int) - ((0 : Nat) : Int) = Builtin.Range.rangeSize lo hi 1 := by rw [rangeSize_one]; split <;> omega
    show IsRangeIter _ _ (lo + ((0 : Nat) : Int) * 1) ((((hi - lo).toNat : Nat) : Int) - ((0 : Nat) : Int)) 1
    rw [e1, e2]
    exact Heap.get?_push_size _ rfl
  · have e : b = (s.heap.push { cls := .type "range", data := .fields #[.int lo t, .int hi u, .int 1 v] }).objs.size := by simpa using hb
    subst e
    exact I1.fpOk (Nat.le_refl _) (I1.hok.fresh (Nat.le_refl _))
def iRng1 (ta : TA) : TI := fun σ H R => ta σ H fun vs H1 => ∃ j : Int, vs = [.int j] /\ -(2 ^ 62) <= j /\ j < 2 ^ 62 /\ R (Itr 0 j.toNat) H1
theorem pi_range1 {a : Expr} {ta : TA} {p pos : Pos} (hg : Gl X "range") (hm : X.mg "range" = none) (ha : PA X [a] ta) (hs : starEach [a] X.env = [(false, eval a X.env)] := by rfl) : PI X tg (.Call (.Name "range" p) [a] [] pos) (iRng1 ta) := by
  intro pins s σ H R I h
  refine Call_ (ld_blt I hg hm boot_range (PyProof.Rows.callWith_type1 (thn (ha pos pins s σ H _ I h) fun us s1 ⟨vs, H1, I1, r1, q1⟩ => ?_) hs rfl))
  obtain ⟨j, e, q1, q2, q⟩ := q1
  subst e
  cases r1 with
  | cons r rr =>
    cases rr
    obtain ⟨t, rfl⟩ := r
    exact call_range_1 (range_it I1 (by omega) (by omega) q1 q2 (by simpa using q))
def tFor (wi : TI) (g : TG) (tb : TS) : TS := fun D σ H => wi σ H fun J H1 => ∃ W : Nat -> Nat -> St -> Hp -> Prop, (∃ m, W 0 m σ H1) /\ ∀ i m σ H, W i m σ H ->
  (J.stop i H /\ D.nx σ H) ∨ (J.go i H /\ ∃ N : St -> Hp -> Prop, (∀ σ' H', N σ' H' -> ∃ m', m' < m /\ W (i + 1) m' σ' H') /\ ∀ x H', J.yld i H x H' -> g x σ H' fun σ2 H2 => tb { D with nx := N, ct := N, bk := D.nx } σ2 H2)
def pinsAt (fp : List Addr) (h : Heap) : List (Addr × Obj) := fp.filterMap fun b => (h.get? b).map fun o => (b, o)
theorem mem_pinsAt {fp : List Addr} {h : Heap} {b : Addr} {o : Obj} (hb : b ∈ fp) (e : h.get? b = some o) : (b, o) ∈ pinsAt fp h := List.mem_filterMap.mpr ⟨b, hb, by rw [e]; rfl⟩
theorem of_pinsAt {fp : List Addr} {h : Heap} {p : Addr × Obj} (hp : p ∈ pinsAt fp h) : p.1 ∈ fp /\ h.get? p.1 = some p.2 := by
  obtain ⟨b, hb, e⟩ := List.mem_filterMap.mp hp
  cases q : h.get? b with
  | none => rw [q] at e; cases e
  | some o =>
    rw [q] at e
    have e' : (b, o) = p := Option.some.inj e
    subst e'
    exact ⟨hb, q⟩
theorem Inv.pinned {pins : List (Addr × Obj)} {σ : St} {H : Hp} {s : Shared} {fp : List Addr} (I : Inv X pins σ H s) (hf : ∀ b ∈ fp, FpOk X pins H b) (ho : ∀ b ∈ fp, ∃ o, s.heap.get? b = some o /\ ∀ v, o.data ≠ .cell v) : Inv X (pins ++ pinsAt fp s.heap) σ H s :=
  I.pins_of fun p hp => (List.mem_append.mp hp).elim (fun z => I.pin p (List.mem_append_right _ z)) fun z => by
    obtain ⟨hb, e⟩ := of_pinsAt z
    obtain ⟨f0, f1, f2, _⟩ := hf p.1 hb
    obtain ⟨o, e', d⟩ := ho p.1 hb
    rw [e] at e'; cases e'
    exact ⟨e, f0, f1, f2, d⟩
theorem Inv.unpinned {pins pl : List (Addr × Obj)} {σ : St} {H : Hp} {s : Shared} (I : Inv X (pins ++ pl) σ H s) : Inv X pins σ H s := I.pins_of fun p hp => I.pin p (List.mem_append_right _ (List.mem_append_left _ hp))
theorem ps_for {iter : Expr} {body : List Stmt} {wi : TI} {g : TG} {tb : TS} {pos : Pos} (hp : PassesOwn (model X.prog X.w) X.A X.env X.xe) (hc : X.calm = true) (hi : PI X tg iter wi) (hg : PG X tg g) (hb : PSs X body tb)
    (hs : ∀ x, foldedSetIterable iter X.env x = pure x := by intro _; rfl) : PS X (.For tg iter body [] pos) (tFor wi g tb) := by
  intro pins s σ H D I h
  refine wpAny_For (thn (hi pins s σ H _ I h) fun v s1 h1 => thn h1 fun itv s2 h2 => ?_) hs
  obtain ⟨it, fp, tn, J, H2, e, I2, T, st2, f2, W, ⟨m0, w0⟩, turn⟩ := h2
  subst e
  have stat : ∀ {H' : Hp}, (∀ b ∈ fp, H' b = none) -> ∀ b ∈ fp, FpOk X pins H' b := fun hn b hb => ⟨hn b hb, (f2 b hb).2⟩
  refine codeAny_forLoop_any (fun n s' => ∃ i σ' H', Inv X pins σ' H' s' /\ tn i s'.heap /\ (∀ b ∈ fp, H' b = none) /\ W i n σ' H') ?_ m0 ⟨0, σ, H2, I2, st2, fun b hb => (f2 b hb).1, w0⟩
  rintro n s3 ⟨i, σ3, H3, I3, st3, fr3, w3⟩
  rcases turn i n σ3 H3 w3 with ⟨stop, qn⟩ | ⟨go, N, hN, step⟩
  · refine wpAny_passesOwn hp (thn (T.done X rfl rfl rfl hc i pins s3 σ3 H3 X.xe I3 (stat fr3) st3 stop) fun r s4 ⟨hr, I4⟩ => ?_)
    subst hr
    exact wpAny_execs_nil ⟨σ3, H3, I4, qn⟩
  · refine wpAny_passesOwn hp (thn (T.item X rfl rfl rfl hc i pins s3 σ3 H3 X.xe I3 (stat fr3) st3 go) fun r s4 ⟨u, hr, h4⟩ => ?_)
    subst hr
    refine wpAny_passesOwn hp (thn h4 fun _ s5 ⟨x, H5, I5, r5, y5, st5, fr5⟩ => ?_)
    have I5' := I5.pinned (stat fr5) (T.obj _ _ st5)
    refine wpAny_passesOwn hp (thn (hg _ s5 σ3 H5 x u _ I5' r5 (step x H5 y5)) fun _ s6 ⟨σ6, H6, I6, q6⟩ => ?_)
    refine wpAny_passesOwn hp (thn (hb _ s6 σ6 H6 _ I6 q6) fun f s7 q7 => ?_)
    have again : ∀ {σ7 : St} {H7 : Hp}, Inv X (pins ++ pinsAt fp s5.heap) σ7 H7 s7 -> N σ7 H7 -> ∃ m, m < n /\ ∃ i σ' H', Inv X pins σ' H' s7 /\ tn i s7.heap /\ (∀ b ∈ fp, H' b = none) /\ W i m σ' H' := fun {σ7 H7} I7 n7 => by
      obtain ⟨m', hm, w7⟩ := hN σ7 H7 n7
      refine ⟨m', hm, i + 1, σ7, H7, I7.unpinned, T.keep _ _ _ st5 fun b hb o e => (I7.pin (b, o) (List.mem_append_right _ (List.mem_append_right _ (mem_pinsAt hb e)))).1, fun b hb => ?_, w7⟩
      obtain ⟨o, e, d⟩ := T.obj _ _ st5 b hb
      exact (I7.pin (b, o) (List.mem_append_right _ (List.mem_append_right _ (mem_pinsAt hb e)))).2.1
    cases f with
    | next => obtain ⟨σ7, H7, I7, n7⟩ := q7; exact again I7 n7
    | cont => obtain ⟨σ7, H7, I7, n7⟩ := q7; exact again I7 n7
    | brk => obtain ⟨σ7, H7, I7, q7⟩ := q7; exact ⟨σ7, H7, I7.unpinned, q7⟩
    | ret v => obtain ⟨x7, σ7, H7, I7, r7, q7⟩ := q7; exact ⟨x7, σ7, H7, I7.unpinned, r7, q7⟩
end
theorem for_list {K : PySem.W.Frag} {a : Addr} {xs : List V} {g : TG} {tb : TS} {D : Ends} {σ : St} {H : Hp} (Pv : Nat -> St -> Hp -> Prop) (h0 : Pv 0 σ H) (hl : ∀ i σ H, i <= xs.length -> Pv i σ H -> SqL K H a xs)
    (hs : ∀ i x σ H, xs[i]? = some x -> Pv i σ H -> g x σ H fun σ2 H2 => tb { D with nx := Pv (i + 1), ct := Pv (i + 1), bk := D.nx } σ2 H2) (hd : ∀ σ H, Pv xs.length σ H -> D.nx σ H) :
    ∃ W : Nat -> Nat -> St -> Hp -> Prop, (∃ m, W 0 m σ H) /\ ∀ i m σ H, W i m σ H ->
      ((Itl K a).stop i H /\ D.nx σ H) ∨ ((Itl K a).go i H /\ ∃ N : St -> Hp -> Prop, (∀ σ' H', N σ' H' -> ∃ m', m' < m /\ W (i + 1) m' σ' H') /\ ∀ x H', (Itl K a).yld i H x H' -> g x σ H' fun σ2 H2 => tb { D with nx := N, ct := N, bk := D.nx } σ2 H2) := by
  refine ⟨fun i m σ H => m = xs.length - i /\ i <= xs.length /\ Pv i σ H, ⟨xs.length, by simp, Nat.zero_le _, h0⟩, ?_⟩
  rintro i m σ H ⟨rfl, hi, p⟩
  have q := hl i σ H hi p
  by_cases hlt : i < xs.length
  · refine .inr ⟨⟨xs, xs[i], q, by simp [hlt]⟩, Pv (i + 1), fun σ' H' p' => ⟨xs.length - (i + 1), by omega, rfl, hlt, p'⟩, fun x H' y => ?_⟩
    obtain ⟨e, y⟩ := y
    subst e
    exact hs i x σ _ (y xs q) p
  · have e : i = xs.length := by omega
    subst e
    exact .inl ⟨⟨xs, q, Nat.le_refl _⟩, hd σ H p⟩
theorem for_range {lo : Int} {n : Nat} {g : TG} {tb : TS} {D : Ends} {σ : St} {H : Hp} (Pv : Nat -> St -> Hp -> Prop) (h0 : Pv 0 σ H)
    (hs : ∀ i σ H, i < n -> Pv i σ H -> g (.int (lo + i)) σ H fun σ2 H2 => tb { D with nx := Pv (i + 1), ct := Pv (i + 1), bk := D.nx } σ2 H2) (hd : ∀ σ H, Pv n σ H -> D.nx σ H) :
    ∃ W : Nat -> Nat -> St -> Hp -> Prop, (∃ m, W 0 m σ H) /\ ∀ i m σ H, W i m σ H ->
      ((Itr lo n).stop i H /\ D.nx σ H) ∨ ((Itr lo n).go i H /\ ∃ N : St -> Hp -> Prop, (∀ σ' H', N σ' H' -> ∃ m', m' < m /\ W (i + 1) m' σ' H') /\ ∀ x H', (Itr lo n).yld i H x H' -> g x σ H' fun σ2 H2 => tb { D with nx := N, ct := N, bk := D.nx } σ2 H2) := by
  refine ⟨fun i m σ H => m = n - i /\ i <= n /\ Pv i σ H, ⟨n, by simp, Nat.zero_le _, h0⟩, ?_⟩
  rintro i m σ H ⟨rfl, hi, p⟩
  by_cases hlt : i < n
  · refine .inr ⟨hlt, Pv (i + 1), fun σ' H' p' => ⟨n - (i + 1), by omega, rfl, hlt, p'⟩, fun x H' y => ?_⟩
    obtain ⟨e, y⟩ := y
    subst e y
    exact hs i σ _ hlt p
  · have e : i = n := by omega
    subst e
    exact .inl ⟨Nat.le_refl _, hd σ H p⟩
end L2
namespace L2
open PySem PySem.Spec PyProof.Rows
abbrev R2 := V -> V -> Hp -> VK -> Prop
def OpR (X : Cx) (f : Value -> Value -> Sem Value) (r : R2) : Prop :=
  ∀ (pins : List (Addr × Obj)) (s : Shared) (σ : St) (H : Hp) (x y : V) (v u : Value) (Q : VK), Inv X pins σ H s -> RelV x v -> RelV y u -> r x y H Q ->
    wpAny (model X.prog X.w) X.A (f v u) (EP X pins σ Q) X.xe s
def UnR (X : Cx) (f : Value -> Sem Value) (r : V -> Hp -> VK -> Prop) : Prop :=
  ∀ (pins : List (Addr × Obj)) (s : Shared) (σ : St) (H : Hp) (x : V) (v : Value) (Q : VK), Inv X pins σ H s -> RelV x v -> r x H Q ->
    wpAny (model X.prog X.w) X.A (f v) (EP X pins σ Q) X.xe s
def CallR (X : Cx) (f : Value) (r : List V -> Hp -> VK -> Prop) : Prop :=
  ∀ (pins : List (Addr × Obj)) (s : Shared) (σ : St) (H : Hp) (xs : List V) (us : List Value) (Q : VK), Inv X pins σ H s -> Vals xs us -> r xs H Q ->
    wpAny (model X.prog X.w) X.A (call f us) (EP X pins σ Q) X.xe s
def tOp (r : R2) (ta tb : TE) : TE := fun σ H Q => ta σ H fun x H1 => tb σ H1 fun y H2 => r x y H2 Q
def tUn (r : V -> Hp -> VK -> Prop) (ta : TE) : TE := fun σ H Q => ta σ H fun x H1 => r x H1 Q
def rI (C : Int -> Int -> Prop) (g : Int -> Int -> V) : R2 := fun x y H Q => ∃ i j, x = .int i /\ y = .int j /\ C i j /\ Q (g i j) H
def rI0 (g : Int -> Int -> V) : R2 := fun x y H Q => ∃ i j, x = .int i /\ y = .int j /\ Q (g i j) H
def rU (g : Int -> V) : V -> Hp -> VK -> Prop := fun x H Q => ∃ i, x = .int i /\ Q (g i) H
section
variable {X : Cx} {a b c : Expr} {ta tb tc : TE} {pos : Pos}
theorem binT (ha : PE X a ta) (hb : PE X b tb) {pins : List (Addr × Obj)} {s : Shared} {σ : St} {H : Hp} {R : V -> V -> Hp -> Prop} (I : Inv X pins σ H s)
    (h : ta σ H fun x H1 => tb σ H1 fun y H2 => R x y H2) {Q : Value -> Shared -> Prop} {f : Value -> Value -> Sem Value}
    (hf : ∀ v u s2 x y H2, Inv X pins σ H2 s2 -> RelV x v -> RelV y u -> R x y H2 -> wpAny (model X.prog X.w) X.A (f v u) Q X.xe s2) :
    wpAny (model X.prog X.w) X.A (eval a X.env) (fun v s₁ => wpAny (model X.prog X.w) X.A (eval b X.env) (fun u s₂ => wpAny (model X.prog X.w) X.A (f v u) Q X.xe s₂) X.xe s₁) X.xe s := by
  refine thn (ha pins s σ H _ I h) fun v s1 ⟨x, H1, I1, r1, q1⟩ => ?_
  refine thn (hb pins s1 σ H1 _ I1 q1) fun u s2 ⟨y, H2, I2, r2, q2⟩ => ?_
  exact hf v u s2 x y H2 I2 r1 r2 q2
theorem pe_op {op : Operator} {r : R2} (ho : OpR X (binaryOp op) r) (ha : PE X a ta) (hb : PE X b tb) : PE X (.BinOp a op b pos) (tOp r ta tb) := by
  intro pins s σ H Q I h
  exact wpAny_BinOp (binT ha hb I h fun v u s2 x y H2 I2 rx ry q => ho pins s2 σ H2 x y v u Q I2 rx ry q)
theorem pe_un {op : UnaryOp} {r : V -> Hp -> VK -> Prop} (ho : UnR X (unaryOp op) r) (ha : PE X a ta) : PE X (.UnaryOp op a pos) (tUn r ta) := by
  intro pins s σ H Q I h
  exact UnaryOp_ (thn (ha pins s σ H _ I h) fun v s1 ⟨x, H1, I1, r1, q1⟩ => ho pins s1 σ H1 x v Q I1 r1 q1)
theorem opI {f : Value -> Value -> Sem Value} {C : Int -> Int -> Prop} {g : Int -> Int -> Int}
    (rule : ∀ (i j : Int) (t u : Tok) (s : Shared) (Q : Value -> Shared -> Prop) (E : Value -> Shared -> Prop), C i j -> Q (.int (g i j) s.toks) { s with toks := s.toks + 1 } -> wpAny (model X.prog X.w) X.A (f (.int i t) (.int j u)) Q E s) :
    OpR X f (rI C fun i j => .int (g i j)) := by
  intro pins s σ H x y v u Q I rx ry h
  obtain ⟨i, j, rfl, rfl, hc, q⟩ := h
  obtain ⟨t, rfl⟩ := rx
  obtain ⟨t', rfl⟩ := ry
  exact rule i j t t' s _ _ hc ⟨.int (g i j), H, I.tok _, ⟨_, rfl⟩, q⟩
theorem opI0 {f : Value -> Value -> Sem Value} {g : Int -> Int -> Int}
    (rule : ∀ (i j : Int) (t u : Tok) (s : Shared) (Q : Value -> Shared -> Prop) (E : Value -> Shared -> Prop), Q (.int (g i j) s.toks) { s with toks := s.toks + 1 } -> wpAny (model X.prog X.w) X.A (f (.int i t) (.int j u)) Q E s) :
    OpR X f (rI0 fun i j => .int (g i j)) := by
  intro pins s σ H x y v u Q I rx ry h
  obtain ⟨i, j, rfl, rfl, q⟩ := h
  obtain ⟨t, rfl⟩ := rx
  obtain ⟨t', rfl⟩ := ry
  exact rule i j t t' s _ _ ⟨.int (g i j), H, I.tok _, ⟨_, rfl⟩, q⟩
theorem opB0 {f : Value -> Value -> Sem Value} {g : Int -> Int -> Bool}
    (rule : ∀ (i j : Int) (t u : Tok) (s : Shared) (Q : Value -> Shared -> Prop) (E : Value -> Shared -> Prop), Q (.bool (g i j)) s -> wpAny (model X.prog X.w) X.A (f (.int i t) (.int j u)) Q E s) :
    OpR X f (rI0 fun i j => .bl (g i j)) := by
  intro pins s σ H x y v u Q I rx ry h
  obtain ⟨i, j, rfl, rfl, q⟩ := h
  obtain ⟨t, rfl⟩ := rx
  obtain ⟨t', rfl⟩ := ry
  exact rule i j t t' s _ _ ⟨.bl (g i j), H, I, rfl, q⟩
def CDiv (i j : Int) : Prop := 0 < j /\ j < 1073741824
def CPow (i j : Int) : Prop := 0 <= j /\ j <= 1000000 /\ i.natAbs < 2 ^ 64
def CMul (i j : Int) : Prop := (-(2 ^ 64) < i /\ i < 2 ^ 64) ∨ (-(2 ^ 64) < j /\ j < 2 ^ 64)
theorem CMul.ok {i j : Int} (h : CMul i j) : IntMulOk i j := by
  rcases h with ⟨h1, h2⟩ | ⟨h1, h2⟩
  · exact .of_left (intBits_le_64 h1 h2)
  · exact .of_right (intBits_le_64 h1 h2)
theorem op_add : OpR X (binaryOp .Add) (rI0 fun i j => .int (i + j)) := opI0 fun _ _ _ _ _ _ _ q => add_int q
theorem op_sub : OpR X (binaryOp .Sub) (rI0 fun i j => .int (i - j)) := opI0 fun _ _ _ _ _ _ _ q => sub_int q
theorem op_mul : OpR X (binaryOp .Mult) (rI CMul fun i j => .int (i * j)) := opI fun _ _ _ _ _ _ _ hc q => mul_int q hc.ok
theorem op_fdiv : OpR X (binaryOp .FloorDiv) (rI CDiv fun i j => .int (i / j)) := opI fun i j _ _ _ _ _ hc q => by
  have h1 : (0 : Int) < j := hc.1
  have h2 : j < 1073741824 := hc.2
  exact floordiv_int (by omega) (by rw [Int.fdiv_eq_ediv_of_nonneg i (by omega)]; exact q) (.inl (PyProof.noPylong_small (by omega)))
theorem op_mod : OpR X (binaryOp .Mod) (rI (fun _ j => 0 < j) fun i j => .int (i % j)) := opI fun i j _ _ _ _ _ hc q => by
  have h1 : (0 : Int) < j := hc
  exact mod_int' (by omega) (by rw [Int.fmod_eq_emod_of_nonneg i (by omega)]; exact q)
theorem op_pow : OpR X (binaryOp .Pow) (rI CPow fun i j => .int (i ^ j.toNat)) := opI fun _ _ _ _ _ _ _ hc q => pow_int_small hc.1 hc.2.1 hc.2.2 q
theorem unI {f : Value -> Sem Value} {g : Int -> Int}
    (rule : ∀ (i : Int) (t : Tok) (s : Shared) (Q : Value -> Shared -> Prop) (E : Value -> Shared -> Prop), Q (.int (g i) s.toks) { s with toks := s.toks + 1 } -> wpAny (model X.prog X.w) X.A (f (.int i t)) Q E s) :
    UnR X f (rU fun i => .int (g i)) := by
  intro pins s σ H x v Q I rx h
  obtain ⟨i, rfl, q⟩ := h
  obtain ⟨t, rfl⟩ := rx
  exact rule i t s _ _ ⟨.int (g i), H, I.tok _, ⟨_, rfl⟩, q⟩
theorem un_neg : UnR X (unaryOp .USub) (rU fun i => .int (-i)) := unI fun _ _ _ _ _ q => neg_int q
end
def scal : V -> V -> Bool
  | .non, .non => true | .non, .int _ => true | .int _, .non => true | .non, .bl _ => true | .bl _, .non => true | .non, .str _ => true | .str _, .non => true
  | .int _, .int _ => true | .bl _, .bl _ => true | .str _, .str _ => true | .byt _, .byt _ => true
  | .int _, .str _ => true | .str _, .int _ => true | .bl _, .str _ => true | .str _, .bl _ => true
  | _, _ => false
def rEq : R2 := fun x y H Q => scal x y = true /\ Q (.bl (decide (x = y))) H
def rNe : R2 := fun x y H Q => scal x y = true /\ Q (.bl (!decide (x = y))) H
theorem dec_int {i j : Int} : decide (V.int i = V.int j) = (i == j) := by
  rw [Bool.eq_iff_iff]
  simp
theorem dec_bl {i j : Bool} : decide (V.bl i = V.bl j) = (i == j) := by
  rw [Bool.eq_iff_iff]
  simp
theorem dec_str {i j : Str} : decide (V.str i = V.str j) = (i == j) := by
  rw [Bool.eq_iff_iff]
  simp
theorem dec_byt {i j : Array UInt8} : decide (V.byt i = V.byt j) = (i.toList == j.toList) := by
  rw [Bool.eq_iff_iff]
  cases i
  cases j
  simp
section
variable {X : Cx} {a b c : Expr} {ta tb tc : TE} {pos : Pos}
theorem fin_bl {pins : List (Addr × Obj)} {σ : St} {H : Hp} {s : Shared} {Q : VK} {k k' : Bool} (I : Inv X pins σ H s) (q : Q (.bl k) H) (e : k = k') : EP X pins σ Q (.bool k') s := by
  subst e
  exact ⟨.bl k, H, I, rfl, q⟩
theorem op_eq : OpR X (compareOp .Eq) rEq := by
  intro pins s σ H x y v u Q I rx ry h
  obtain ⟨hs, q⟩ := h
  cases x with
  | non =>
    cases rx
    cases y with
    | non => cases ry; exact PySem.EqNone.eq_none_none (fin_bl I q (by simp))
    | bl j => cases ry; exact PySem.EqNone.eq_none_bool (fin_bl I q (by simp))
    | int j => obtain ⟨t', rfl⟩ := ry; exact PySem.EqNone.eq_none_int (fin_bl I q (by simp))
    | str j => obtain ⟨t', rfl⟩ := ry; exact PySem.EqNone.eq_none_str (fin_bl I q (by simp))
    | _ => exact absurd (show false = true from hs) Bool.false_ne_true
  | bl i =>
    cases rx
    cases y with
    | non => cases ry; exact PySem.EqNone.eq_bool_none (fin_bl I q (by simp))
    | bl j => cases ry; exact eq_bool (fin_bl I q dec_bl)
    | str j => obtain ⟨t', rfl⟩ := ry; exact PySem.EqMixed.eq_bool_str (fin_bl I q (by simp))
    | _ => exact absurd (show false = true from hs) Bool.false_ne_true
  | int i =>
    obtain ⟨t, rfl⟩ := rx
    cases y with
    | non => cases ry; exact PySem.EqNone.eq_int_none (fin_bl I q (by simp))
    | int j => obtain ⟨t', rfl⟩ := ry; exact eq_int (fin_bl I q dec_int)
    | str j => obtain ⟨t', rfl⟩ := ry; exact PySem.EqMixed.eq_int_str (fin_bl I q (by simp))
    | _ => exact absurd (show false = true from hs) Bool.false_ne_true
  | str i =>
    obtain ⟨t, rfl⟩ := rx
    cases y with
    | non => cases ry; exact PySem.EqNone.eq_str_none (fin_bl I q (by simp))
    | bl j => cases ry; exact PySem.EqMixed.eq_str_bool (fin_bl I q (by simp))
    | int j => obtain ⟨t', rfl⟩ := ry; exact PySem.EqMixed.eq_str_int (fin_bl I q (by simp))
    | str j => obtain ⟨t', rfl⟩ := ry; exact eq_str (fin_bl I q dec_str)
    | _ => exact absurd (show false = true from hs) Bool.false_ne_true
  | byt i =>
    obtain ⟨t, rfl⟩ := rx
    cases y with
    | byt j => obtain ⟨t', rfl⟩ := ry; exact PySem.W.eq_bytes (fin_bl I q dec_byt)
    | _ => exact absurd (show false = true from hs) Bool.false_ne_true
  | _ => cases y <;> exact absurd (show false = true from hs) Bool.false_ne_true
theorem op_ne : OpR X (compareOp .NotEq) rNe := by
  intro pins s σ H x y v u Q I rx ry h
  obtain ⟨hs, q⟩ := h
  cases x with
  | non =>
    cases rx
    cases y with
    | non => cases ry; exact PySem.EqNone.ne_none_none (fin_bl I q (by simp))
    | bl j => cases ry; exact PySem.EqNone.ne_none_bool (fin_bl I q (by simp))
    | int j => obtain ⟨t', rfl⟩ := ry; exact PySem.EqNone.ne_none_int (fin_bl I q (by simp))
    | str j => obtain ⟨t', rfl⟩ := ry; exact PySem.EqNone.ne_none_str (fin_bl I q (by simp))
    | _ => exact absurd (show false = true from hs) Bool.false_ne_true
  | bl i =>
    cases rx
    cases y with
    | non => cases ry; exact PySem.EqNone.ne_bool_none (fin_bl I q (by simp))
    | bl j => cases ry; exact ne_bool (fin_bl I q (congrArg not dec_bl))
    | str j => obtain ⟨t', rfl⟩ := ry; exact PySem.EqMixed.ne_bool_str (fin_bl I q (by simp))
    | _ => exact absurd (show false = true from hs) Bool.false_ne_true
  | int i =>
    obtain ⟨t, rfl⟩ := rx
    cases y with
    | non => cases ry; exact PySem.EqNone.ne_int_none (fin_bl I q (by simp))
    | int j => obtain ⟨t', rfl⟩ := ry; exact ne_int (fin_bl I q (congrArg not dec_int))
    | str j => obtain ⟨t', rfl⟩ := ry; exact PySem.EqMixed.ne_int_str (fin_bl I q (by simp))
    | _ => exact absurd (show false = true from hs) Bool.false_ne_true
  | str i =>
    obtain ⟨t, rfl⟩ := rx
    cases y with
    | non => cases ry; exact PySem.EqNone.ne_str_none (fin_bl I q (by simp))
    | bl j => cases ry; exact PySem.EqMixed.ne_str_bool (fin_bl I q (by simp))
    | int j => obtain ⟨t', rfl⟩ := ry; exact PySem.EqMixed.ne_str_int (fin_bl I q (by simp))
    | str j => obtain ⟨t', rfl⟩ := ry; exact ne_str (fin_bl I q (congrArg not dec_str))
    | _ => exact absurd (show false = true from hs) Bool.false_ne_true
  | byt i =>
    obtain ⟨t, rfl⟩ := rx
    cases y with
    | byt j => obtain ⟨t', rfl⟩ := ry; exact PySem.W.ne_bytes (fin_bl I q (congrArg not dec_byt))
    | _ => exact absurd (show false = true from hs) Bool.false_ne_true
  | _ => cases y <;> exact absurd (show false = true from hs) Bool.false_ne_true
theorem op_lt : OpR X (compareOp .Lt) (rI0 fun i j => .bl (decide (i < j))) := opB0 fun _ _ _ _ _ _ _ q => lt_int q
theorem op_le : OpR X (compareOp .LtE) (rI0 fun i j => .bl (decide (i <= j))) := opB0 fun _ _ _ _ _ _ _ q => le_int q
theorem op_gt : OpR X (compareOp .Gt) (rI0 fun i j => .bl (decide (j < i))) := opB0 fun _ _ _ _ _ _ _ q => gt_int q
theorem op_lt_str : OpR X (compareOp .Lt) (fun x y H Q => ∃ i j, x = .str i /\ y = .str j /\ Q (.bl (decide (i.cps.toList < j.cps.toList))) H) := by
  intro pins s σ H x y v u Q I rx ry h
  obtain ⟨i, j, rfl, rfl, q⟩ := h
  obtain ⟨t, rfl⟩ := rx
  obtain ⟨t', rfl⟩ := ry
  exact lt_str (fin_bl I q rfl)
theorem nomark (b : Expr) {op : CmpOp} (h : op ≠ .In := by decide) (h2 : op ≠ .NotIn := by decide) : behindInMarks op b = false := by
  have e1 : (op == CmpOp.In) = false := by cases op <;> first | rfl | exact absurd rfl h
  have e2 : (op == CmpOp.NotIn) = false := by cases op <;> first | rfl | exact absurd rfl h2
  cases b <;> simp [behindInMarks, e1, e2]
theorem pe_cmpR {op : CmpOp} {r : R2} (ho : OpR X (compareOp op) r) (ha : PE X a ta) (hb : PE X b tb) (hm : behindInMarks op b = false) : PE X (.Compare a [op] [b] pos) (tOp r ta tb) := by
  intro pins s σ H Q I h
  exact wpAny_Compare1 (binT ha hb I h fun v u s2 x y H2 I2 rx ry q => ho pins s2 σ H2 x y v u Q I2 rx ry q) hm
def tTest (t : TE) : TT := fun σ H Q => t σ H fun x H' => ∃ k, x = .bl k /\ Q k H'
theorem pt_cmpR {op : CmpOp} {r : R2} (ho : OpR X (compareOp op) r) (ha : PE X a ta) (hb : PE X b tb) (hm : behindInMarks op b = false) : PT X (.Compare a [op] [b] pos) (tTest (tOp r ta tb)) := by
  intro pins s σ H Q I h
  refine wpAny_isTrue_Compare1 (thn (ha pins s σ H _ I h) fun v s1 ⟨x, H1, I1, r1, q1⟩ => thn (hb pins s1 σ H1 _ I1 q1) fun u s2 ⟨y, H2, I2, r2, q2⟩ =>
    thn (ho pins s2 σ H2 x y v u _ I2 r1 r2 q2) fun c s3 ⟨z, H3, I3, r3, k, e, q3⟩ => ?_) hm
  subst e
  cases r3
  exact wpAny_truthy_bool ⟨H3, I3, q3⟩
def tChain (r r' : R2) (ta tb tc : TE) : TE := fun σ H Q => ta σ H fun x H1 => tb σ H1 fun y H2 => r x y H2 fun z H3 => ∃ k, z = .bl k /\
  (if k = true then tc σ H3 fun w' H4 => r' y w' H4 Q else Q (.bl false) H3)
theorem pe_chain {op op' : CmpOp} {r r' : R2} (ho : OpR X (compareOp op) r) (ho' : OpR X (compareOp op') r') (ha : PE X a ta) (hb : PE X b tb) (hc : PE X c tc)
    (hm : lastMarks [op, op'] [b, c] = false := by with_unfolding_all rfl) : PE X (.Compare a [op, op'] [b, c] pos) (tChain r r' ta tb tc) := by
  intro pins s σ H Q I h
  refine Compare_chain (thn (ha pins s σ H _ I h) fun v s1 ⟨x, H1, I1, r1, q1⟩ => chain_link (thn (hb pins s1 σ H1 _ I1 q1) fun u s2 ⟨y, H2, I2, r2, q2⟩ =>
    thn (ho pins s2 σ H2 x y v u _ I2 r1 r2 q2) fun d s3 ⟨z, H3, I3, r3, k, e, q3⟩ => ?_)) hm
  subst e
  cases r3
  refine wpAny_truthy_bool ?_
  cases k with
  | false => exact ite_ff ⟨.bl false, H3, I3, rfl, q3⟩
  | true => exact ite_tt (chain_last (thn (hc pins s3 σ H3 _ I3 q3) fun w' s4 ⟨z', H4, I4, r4, q4⟩ => ho' pins s4 σ H4 y z' u w' Q I4 r2 r4 q4))
theorem pt_chain {op op' : CmpOp} {r r' : R2} (ho : OpR X (compareOp op) r) (ho' : OpR X (compareOp op') r') (ha : PE X a ta) (hb : PE X b tb) (hc : PE X c tc)
    (hm : lastMarks [op, op'] [b, c] = false := by with_unfolding_all rfl) : PT X (.Compare a [op, op'] [b, c] pos) (tTest (tChain r r' ta tb tc)) := by
  intro pins s σ H Q I h
  refine isTrue_chain (thn (ha pins s σ H _ I h) fun v s1 ⟨x, H1, I1, r1, q1⟩ => test_link (thn (hb pins s1 σ H1 _ I1 q1) fun u s2 ⟨y, H2, I2, r2, q2⟩ =>
    thn (ho pins s2 σ H2 x y v u _ I2 r1 r2 q2) fun d s3 ⟨z, H3, I3, r3, k, e, q3⟩ => ?_)) hm
  subst e
  cases r3
  refine wpAny_truthy_bool ?_
  cases k with
  | false =>
    obtain ⟨k', e', q'⟩ := q3
    cases e'
    exact ite_ff ⟨H3, I3, q'⟩
  | true =>
    refine ite_tt (test_last (thn (hc pins s3 σ H3 _ I3 q3) fun w' s4 ⟨z', H4, I4, r4, q4⟩ => thn (ho' pins s4 σ H4 y z' u w' _ I4 r2 r4 q4) fun d' s5 ⟨z2, H5, I5, r5, k2, e2, q5⟩ => ?_))
    subst e2
    cases r5
    exact wpAny_truthy_bool ⟨H5, I5, q5⟩
theorem line63 : (sizeLine : Nat) < 2 ^ 63 := by rw [sizeLine_eq]; decide
theorem op_add_str : OpR X (binaryOp .Add) (fun x y H Q => ∃ i j, x = .str i /\ y = .str j /\ i.length + j.length <= sizeLine /\ Q (.str (i ++ j)) H) := by
  intro pins s σ H x y v u Q I rx ry h
  obtain ⟨i, j, rfl, rfl, hz, q⟩ := h
  obtain ⟨t, rfl⟩ := rx
  obtain ⟨t', rfl⟩ := ry
  exact add_str (fun t' tk => ⟨.str (i ++ j), H, I.tok _, ⟨_, rfl⟩, q⟩) hz
theorem vals1 {x : V} {us : List Value} (r : Vals [x] us) : ∃ u, us = [u] /\ RelV x u := by
  cases r with
  | cons r1 r2 => cases r2; exact ⟨_, rfl, r1⟩
theorem vals2 {x y : V} {us : List Value} (r : Vals [x, y] us) : ∃ u w', us = [u, w'] /\ RelV x u /\ RelV y w' := by
  cases r with
  | cons r1 r2 =>
    cases r2 with
    | cons r3 r4 => cases r4; exact ⟨_, _, rfl, r1, r3⟩
theorem call_int1 : CallR X (.type "int") (fun xs H Q => (∃ i, xs = [.int i] /\ Q (.int i) H) ∨ ∃ k, xs = [.bl k] /\ Q (.int (if k then 1 else 0)) H) := by
  intro pins s σ H xs us Q I r h
  rcases h with ⟨i, rfl, q⟩ | ⟨k, rfl, q⟩
  · obtain ⟨u, rfl, t, rfl⟩ := vals1 r
    exact call_int_int ⟨.int i, H, I, ⟨_, rfl⟩, q⟩
  · obtain ⟨u, rfl, r1⟩ := vals1 r
    cases r1
    exact call_int_bool ⟨.int (if k then 1 else 0), H, I.tok _, ⟨_, rfl⟩, q⟩
end
end L2
namespace L2
open PySem PySem.Spec PyProof.Rows
structure ObjM (h : Heap) (x dx C : Addr) (mA : Str -> Option Value) : Prop where
  obj : h.get? x = some (PySem.W.instObj C dx)
  ns : h.Ns1 dx mA
  ne : dx ≠ x
theorem lookIn_ns {h : Heap} {dx : Addr} {mA : Str -> Option Value} (n : h.Ns1 dx mA) : ∃ od, h.get? dx = some od /\ ∀ name, PySem.W.lookIn name od = some (mA name) := by
  obtain ⟨o, es, ep, ho, hd, hk, _, hm⟩ := n
  refine ⟨o, ho, fun name => ?_⟩
  have e := hm name
  unfold nsFind findBy at e
  rw [<- Array.find?_toList] at e
  unfold PySem.W.lookIn
  rw [hd]
  dsimp only
  split
  · rename_i y q
    rw [q] at e
    exact congrArg some e
  · rename_i q
    rw [q] at e
    have a : es.toList.any (·.refKey) = false := by
      rw [List.any_eq_false]
      intro y hy
      obtain ⟨z, t, hkey⟩ := hk y (Array.mem_toList_iff.mp hy)
      simp [DictEntry.refKey, hkey]
    have a' : ¬ es.toList.any (·.refKey) = true := by rw [a]; exact Bool.false_ne_true
    rw [if_neg a']
    exact congrArg some e
theorem ObjM.look {h : Heap} {x dx C : Addr} {mA : Str -> Option Value} (I : ObjM h x dx C mA) : ∃ od, PySem.W.InstAt h x (PySem.W.instObj C dx) C (some od) /\ ∀ name, PySem.W.lookIn name od = some (mA name) :=
  let ⟨od, ho, hl⟩ := lookIn_ns I.ns
  ⟨od, ⟨I.obj, rfl, rfl, ho⟩, hl⟩
section
variable {prog : Program} {w : World} {A : Around} {E : Value -> Shared -> Prop} {s : Shared} {K : PySem.W.Frag} {x dx C f : Addr} {mA : Str -> Option Value} {name : Str} {v : Value}
theorem get_map {expr : Bool} {Q : Value -> Shared -> Prop} (X : K.In s.heap) (I : ObjM s.heap x dx C mA) (hg : PySem.W.plainGet K C name = true) (hh : PySem.W.hasDictIn K C = true)
    (ha : PySem.W.findIn K (.ref C) name = some none) (hv : mA name = some v) (hv' : PySem.W.handedIn v = true) (h : Q v { s with toks := s.toks + 1 }) :
    wpAny (model prog w) A (getAttr (.ref x) name expr) Q E s := by
  obtain ⟨od, J, hl⟩ := I.look
  exact PySem.W.get_value X J (PySem.W.plainGet_of hg).1 (PySem.W.findObj_own hh ha rfl (by rw [hl, hv])) hv' h
theorem get_meth {pl : Sem Bool} {Q : Value × List Value -> Shared -> Prop} (X : K.In s.heap) (I : ObjM s.heap x dx C mA) (hg : PySem.W.plainGet K C name = true)
    (hf : PySem.W.findIn K (.ref C) name = some (some (.ref f))) (ht : PySem.W.isFn K (.ref f) = true) (hv : mA name = none) (h : Q (.ref f, [.ref x]) s) :
    wpAny (model prog w) A (getMethod (.ref x) name pl) Q E s := by
  obtain ⟨od, J, hl⟩ := I.look
  exact PySem.W.method_fn X J (PySem.W.plainGet_of hg).1 (PySem.W.plainGet_of hg).2 hf (beq_iff_eq.mp ht) (by show (PySem.W.lookIn name od).map (·.isSome) = some false; rw [hl, hv]; rfl) h
theorem set_map {ns : List Str} {Q : Unit -> Shared -> Prop} (X : K.In s.heap) (I : ObjM s.heap x dx C mA)
    (hs : PySem.W.findIn K (.ref C) "__setattr__" = some (some (.builtin "object.__setattr__"))) (hp : PySem.W.plainOver K C = true) (ht : PySem.W.takerIn K C name = some none) (hh : PySem.W.hasDictIn K C = true)
    (hw : PySem.Within mA ns) (hsz : ns.length <= sizeLine)
    (h : ∀ h', ObjM h' x dx C (fun y => if y = name then some v else mA y) -> Heap.SameBut dx s.heap h' -> Q () { s with heap := h', toks := s.toks + 2 }) :
    wpAny (model prog w) A (setAttr (.ref x) name v) Q E s := by
  obtain ⟨od, J, hl⟩ := I.look
  refine PySem.W.set_plain X J hs (PySem.W.osa_open (s := { s with toks := s.toks + 1 }) (r := none) X J hp ht fun b => ?_)
  obtain ⟨cd, hc, hd'⟩ := PySem.W.any_some hh
  have hx : s.heap.get? x = some ⟨.ref C, some dx, .plain, #[]⟩ := I.obj
  refine wpAny_bind (wpAny_pure (wpAny_bind (wpAny_bind (wpAny_loadPart hx (wpAny_bind (PySem.W.Looks.here (s := { s with toks := s.toks + 1 }) (PySem.W.looks_clsIn X hc) ?_))))))
  rw [hd']
  refine wpAny_pure (a := some dx) (wpAny_bind (wpAny_pure (wpAny_bind ?_)))
  refine wpAny_nsSet1 (s := { s with toks := s.toks + 1 }) I.ns fun h' hn2 hs2 => ?_
  obtain ⟨oD, esD, epD, hoD, hdD, hcD⟩ := hn2.count (PySem.Within.cons name v hw)
  refine wpAny_bind (wpAny_lookBehind hoD (by rw [hdD]; exact pastItsLine_dict (Nat.le_trans hcD (by rw [List.length_cons]; omega))) ?_)
  exact wpAny_pure (h _ ⟨(hs2.2 _ (Ne.symm I.ne)).trans I.obj, hn2, I.ne⟩ hs2)
theorem make_map {R : Result -> Shared -> Prop} {vs : List Value} {kw : List (Str × Value)} (X : K.In s.heap) (hm : PySem.W.makesIn K C = true)
    (hi : PySem.W.findIn K (.ref C) "__init__" = some (some (.ref f))) (hf : PySem.W.typeIn K (.ref f) = some (.type "function"))
    (h : codeAny (model prog w) (A.under (.builtin "type.__call__" ⟨.ref C :: vs, kw⟩)) (.call (.ref f) ⟨.ref (s.heap.objs.size + 1) :: vs, kw⟩) (PySem.W.InitBack (s.heap.objs.size + 1) R)
      { s with heap := (s.heap.push PySem.W.emptyDict).push (PySem.W.instObj C s.heap.objs.size) }) :
    codeAny (model prog w) A (.call (.ref C) ⟨vs, kw⟩) R s := by
  obtain ⟨hh, g, d, t, os⟩ := s
  exact PySem.W.make_core (PySem.W.makes_of X hm) (PySem.W.looks_findIn X hi) (fun self => PySem.W.bind_fn X self hf) (.inl rfl) h
end
def putF (f : Str) (v : V) : List (Str × V) -> List (Str × V)
  | [] => [(f, v)]
  | (g, x) :: r => if g = f then (g, v) :: r else (g, x) :: putF f v r
theorem lookup_putF (f g : Str) (v : V) : ∀ fs : List (Str × V), (putF f v fs).lookup g = if g = f then some v else fs.lookup g
  | [] => by
    show List.lookup g [(f, v)] = _
    by_cases h : g = f
    · have hb : (g == f) = true := beq_iff_eq.mpr h
      simp only [List.lookup, hb, if_pos h]
    · have hb : (g == f) = false := beq_eq_false_iff_ne.mpr h
      simp only [List.lookup, hb, if_neg h]
  | (k, x) :: r => by
    have ih := lookup_putF f g v r
    rw [show putF f v ((k, x) :: r) = (if k = f then (k, v) :: r else (k, x) :: putF f v r) from rfl]
    by_cases hk : k = f
    · rw [if_pos hk]
      by_cases h : g = k
      · have hb : (g == k) = true := beq_iff_eq.mpr h
        simp only [List.lookup, hb, if_pos (h.trans hk)]
      · have hb : (g == k) = false := beq_eq_false_iff_ne.mpr h
        simp only [List.lookup, hb, if_neg (fun e : g = f => h (e.trans hk.symm))]
    · rw [if_neg hk]
      by_cases h : g = k
      · have hb : (g == k) = true := beq_iff_eq.mpr h
        simp only [List.lookup, hb, if_neg (fun e : g = f => hk (h.symm.trans e))]
      · have hb : (g == k) = false := beq_eq_false_iff_ne.mpr h
        simp only [List.lookup, hb]
        exact ih
theorem keys_putF (f : Str) (v : V) : ∀ fs : List (Str × V), f ∈ (putF f v fs).map (·.1) /\ ∀ g, g ∈ fs.map (·.1) -> g ∈ (putF f v fs).map (·.1)
  | [] => ⟨by simp [putF], fun g h => by simp at h⟩
  | (k, x) :: r => by
    obtain ⟨i1, i2⟩ := keys_putF f v r
    rw [show putF f v ((k, x) :: r) = (if k = f then (k, v) :: r else (k, x) :: putF f v r) from rfl]
    by_cases hk : k = f
    · rw [if_pos hk]
      subst hk
      exact ⟨by simp, fun g h => by simpa using h⟩
    · rw [if_neg hk]
      refine ⟨?_, fun g h => ?_⟩
      · rw [List.map_cons]
        exact List.mem_cons_of_mem _ i1
      · rw [List.map_cons] at h ⊢
        rcases List.mem_cons.mp h with e | e
        · exact List.mem_cons.mpr (.inl e)
        · exact List.mem_cons_of_mem _ (i2 g e)
theorem length_putF (f : Str) (v : V) : ∀ fs : List (Str × V), (putF f v fs).length <= fs.length + 1
  | [] => by simp [putF]
  | (k, x) :: r => by
    have ih := length_putF f v r
    rw [show putF f v ((k, x) :: r) = (if k = f then (k, v) :: r else (k, x) :: putF f v r) from rfl]
    by_cases hk : k = f
    · rw [if_pos hk, List.length_cons, List.length_cons]; omega
    · rw [if_neg hk, List.length_cons, List.length_cons]; omega
theorem RelO.some_of {v : V} {o : Option Value} (r : RelO (some v) o) : ∃ u, o = some u /\ RelV v u := by
  cases o with
  | none => exact (show False from r).elim
  | some u => exact ⟨u, rfl, r⟩
theorem RelO.none_of {o : Option Value} (r : RelO none o) : o = none := by
  cases o with
  | none => rfl
  | some u => exact (show False from r).elim
theorem handed_of {v : V} {u : Value} (r : RelV v u) : PySem.W.handedIn u = true := by
  cases v with
  | non => cases (show u = Value.none from r); rfl
  | bl b => cases (show u = Value.bool b from r); rfl
  | int i => obtain ⟨t, e⟩ := (show ∃ t, u = Value.int i t from r); cases e; rfl
  | str x => obtain ⟨t, e⟩ := (show ∃ t, u = Value.str x t from r); cases e; rfl
  | byt b => obtain ⟨t, e⟩ := (show ∃ t, u = Value.bytes b t from r); cases e; rfl
  | flt b => obtain ⟨t, e⟩ := (show ∃ t, u = Value.float b t from r); cases e; rfl
  | ref a => cases (show u = Value.ref a from r); rfl
  | ty n => cases (show u = Value.type n from r); rfl
section
variable {P : Program} {w : World} {H H' : Hp} {h h' : Heap} {a C dx : Addr} {fs fs' : List (Str × V)}
theorem ins_get (hok : HOk P w H h) (e : H a = some (.ins C dx fs)) : ∃ mA, ObjM h a dx C mA /\ (∀ f, RelO (fs.lookup f) (mA f)) /\ PySem.Within mA (fs.map (·.1)) /\ fs.length <= 1000 /\ H dx = some (.own a) := by
  obtain ⟨d, z, ne, ob, mA, n, r, q⟩ := (show ObjOk P w H h a (.ins C dx fs) from hok a _ e)
  exact ⟨mA, ⟨ob, n, ne⟩, r, q, z, d⟩
end
structure Cls (K : PySem.W.Frag) (C : Addr) : Prop where
  pg : PySem.W.plainGet K C Str.empty = true
  hd : PySem.W.hasDictIn K C = true
  po : PySem.W.plainOver K C = true
  sa : PySem.W.findIn K (.ref C) "__setattr__" = some (some (.builtin "object.__setattr__"))
theorem Cls.get {K : PySem.W.Frag} {C : Addr} (c : Cls K C) (f : Str) : PySem.W.plainGet K C f = true := c.pg
def NoAttr (K : PySem.W.Frag) (C : Addr) (f : Str) : Prop := PySem.W.findIn K (.ref C) f = some none
theorem NoAttr.taker {K : PySem.W.Frag} {C : Addr} {f : Str} (n : NoAttr K C f) : PySem.W.takerIn K C f = some none := by
  unfold PySem.W.takerIn
  rw [show PySem.W.findIn K (.ref C) f = some none from n]
  rfl
structure Con (K : PySem.W.Frag) (C : Addr) (f : Str) (v : V) (u : Value) : Prop where
  at_ : PySem.W.findIn K (.ref C) f = some (some u)
  rel : RelV v u
  get : PySem.W.specialIn K u "__get__" = some none
  cp : PySem.W.copiedNames.contains f = false
structure Meth (K : PySem.W.Frag) (C : Addr) (m : Str) (f : Addr) : Prop where
  at_ : PySem.W.findIn K (.ref C) m = some (some (.ref f))
  fn : PySem.W.isFn K (.ref f) = true
  kp : PySem.W.keepIn K (.ref f) = true
section
variable {X : Cx} {pins : List (Addr × Obj)} {σ : St} {H : Hp} {s : Shared} {a C dx : Addr} {fs : List (Str × V)} {f : Str} {v : V} {A : Around} {E : Value -> Shared -> Prop}
theorem getattr_ok {b : Bool} {Q : Value -> Shared -> Prop} (I : Inv X pins σ H s) (e : H a = some (.ins C dx fs)) (c : Cls X.K C) (n : NoAttr X.K C f) (l : fs.lookup f = some v)
    (h : ∀ u s', Inv X pins σ H s' -> RelV v u -> Q u s') : wpAny (model X.prog X.w) A (getAttr (.ref a) f b) Q E s := by
  obtain ⟨mA, O, r, _, _, _⟩ := ins_get I.hok e
  obtain ⟨u, hu, ru⟩ := RelO.some_of (v := v) (o := mA f) (by rw [<- l]; exact r f)
  exact get_map I.kIn O (c.get f) c.hd n hu (handed_of ru) (h u _ (I.tok _) ru)
theorem getmeth_ok {m : Str} {g : Addr} {pl : Sem Bool} {Q : Value × List Value -> Shared -> Prop} (I : Inv X pins σ H s) (e : H a = some (.ins C dx fs)) (c : Cls X.K C) (k : Meth X.K C m g) (l : fs.lookup m = none)
    (h : Q (.ref g, [.ref a]) s) : wpAny (model X.prog X.w) A (getMethod (.ref a) m pl) Q E s := by
  obtain ⟨mA, O, r, _, _, _⟩ := ins_get I.hok e
  have hn : mA m = none := RelO.none_of (by rw [<- l]; exact r m)
  exact get_meth I.kIn O (c.get m) k.at_ k.fn hn h
theorem setattr_ok {y : V} {u : Value} {Q : Unit -> Shared -> Prop} (I : Inv X pins σ H s) (e : H a = some (.ins C dx fs)) (c : Cls X.K C) (n : NoAttr X.K C f) (hl : fs.length < 1000) (ry : RelV y u)
    (h : ∀ s', Inv X pins σ (upd H a (.ins C dx (putF f y fs))) s' -> Q () s') : wpAny (model X.prog X.w) A (setAttr (.ref a) f u) Q E s := by
  obtain ⟨mA, O, r, wi, _, ho⟩ := ins_get I.hok e
  have hz : (fs.map (·.1)).length <= sizeLine := by rw [List.length_map, sizeLine_eq]; omega
  refine set_map I.kIn O c.sa c.po n.taker c.hd wi hz fun h' O' sb => h _ ?_
  have hd : ∃ o, h'.get? dx = some o := let ⟨o, _, _, e', _⟩ := O'.ns; ⟨o, e'⟩
  refine I.write (x := a) (e := dx) (by rw [e]; exact True.intro) (.inr ho) (fun b q hb z => (sb.2 b hb).trans z) hd ?_
  refine ⟨by rw [upd_ne O.ne]; exact ho, ?_, O.ne, O'.obj, _, O'.ns, fun g => ?_, fun g hg => ?_⟩
  · have := length_putF f y fs; omega
  · show RelO ((putF f y fs).lookup g) (if g = f then some u else mA g)
    rw [lookup_putF]
    by_cases q : g = f
    · rw [if_pos q, if_pos q]; exact ry
    · rw [if_neg q, if_neg q]; exact r g
  · by_cases q : g = f
    · rw [q]; exact (keys_putF f y fs).1
    · refine (keys_putF f y fs).2 g (wi g fun z => hg ?_)
      show (if g = f then some u else mA g) = none
      rw [if_neg q]; exact z
theorem Inv.made (I : Inv X pins σ H s) : Inv X pins σ (upd (upd H s.heap.objs.size (.own (s.heap.objs.size + 1))) (s.heap.objs.size + 1) (.ins C s.heap.objs.size []))
    { s with heap := (s.heap.push PySem.W.emptyDict).push (PySem.W.instObj C s.heap.objs.size) } := by
  have e1 : (s.heap.push PySem.W.emptyDict).get? s.heap.objs.size = some PySem.W.emptyDict := Heap.get?_push_size s.heap rfl
  have e2 : ((s.heap.push PySem.W.emptyDict).push (PySem.W.instObj C s.heap.objs.size)).get? (s.heap.objs.size + 1) = some (PySem.W.instObj C s.heap.objs.size) := by
    have := Heap.get?_push_size (s.heap.push PySem.W.emptyDict) (o := PySem.W.instObj C s.heap.objs.size) rfl
    rwa [Heap.size_push] at this
  have e3 : (s.heap.push PySem.W.emptyDict).Ns s.heap.objs.size (fun _ => none) := ⟨PySem.W.emptyDict, #[], _, e1, rfl, (fun e he => absurd he (by simp)), fun _ => rfl⟩
  have I1 := I.laid (a := s.heap.objs.size) (o := .own (s.heap.objs.size + 1)) (h' := s.heap.push PySem.W.emptyDict) (t' := s.toks) (fun b u q => Heap.get?_push_of_some _ q) (Nat.le_refl _) ⟨_, e1⟩
  refine I1.laid (a := s.heap.objs.size + 1) (o := .ins C s.heap.objs.size []) (t' := s.toks) (fun b u q => Heap.get?_push_of_some _ q) (Nat.le_of_eq (Heap.size_push _ _)) ?_
  have ne : s.heap.objs.size ≠ s.heap.objs.size + 1 := Nat.ne_of_lt (Nat.lt_succ_self _)
  refine ⟨by rw [upd_ne ne, upd_same], Nat.zero_le _, ne, e2, fun _ => none, (Heap.Ns1.of_empty e3).at fun o q => Heap.get?_push_of_some _ q, fun _ => True.intro, fun y hy => absurd rfl hy⟩
theorem attr_of {prog : Program} {w : World} {env : Env} {e : Expr} {f : Str} {pos : Pos} {s : Shared} {Q : Value -> Shared -> Prop} (hb : attributeBase e f env (eval e env) = eval e env)
    (h : wpAny (model prog w) A (eval e env) (fun o s₁ => wpAny (model prog w) A (getAttr o f true) Q E s₁) E s) : wpAny (model prog w) A (eval (.Attribute e f pos) env) Q E s :=
  Attribute_any_ h (by rw [arm_eval_Attribute, hb])
end
def tFld (K : PySem.W.Frag) (ta : TE) (f : Str) : TE := fun σ H Q => ta σ H fun x H1 => ∃ a C dx fs v, x = .ref a /\ H1 a = some (.ins C dx fs) /\ Cls K C /\ NoAttr K C f /\ fs.lookup f = some v /\ Q v H1
def sFld (K : PySem.W.Frag) (ta tv : TE) (f : Str) : TS := fun D σ H => tv σ H fun y H1 => ta σ H1 fun x H2 => ∃ a C dx fs, x = .ref a /\ H2 a = some (.ins C dx fs) /\ Cls K C /\ NoAttr K C f /\ fs.length < 1000 /\
  D.nx σ (upd H2 a (.ins C dx (putF f y fs)))
section
variable {X : Cx} {o e value : Expr} {f : Str} {pos pos' tpos : Pos} {ta tv : TE}
theorem pe_fld (he : PE X e ta) (hb : attributeBase e f X.env (eval e X.env) = eval e X.env) : PE X (.Attribute e f pos) (tFld X.K ta f) := by
  intro pins s σ H Q I h
  refine attr_of hb (thn (he pins s σ H _ I h) fun u s1 ⟨x, H1, I1, rx, a, C, dx, fs, v, ex, ea, c, n, l, q⟩ => ?_)
  subst ex
  obtain rfl : u = Value.ref a := rx
  exact getattr_ok I1 ea c n l fun u' s2 I2 ru => ⟨v, H1, I2, ru, q⟩
theorem ps_fld (ha : PE X o ta) (hv : PE X value tv) (hs : swapsWith value (some (.Attribute o f pos')) pos.line X.env = pure false) : PS X (.Assign [.Attribute o f pos'] value pos) (sFld X.K ta tv f) := by
  intro pins s σ H D I h
  refine plainObj_wpAny_Assign_Attribute (thn (hv pins s σ H _ I h) fun u s1 ⟨y, H1, I1, ry, q⟩ => thn (ha pins s1 σ H1 _ I1 q) fun ov s2 ⟨x, H2, I2, rx, a, C, dx, fs, ex, ea, c, n, l, q2⟩ => ?_) hs
  subst ex
  obtain rfl : ov = Value.ref a := rx
  exact setattr_ok I2 ea c n l ry fun s3 I3 => ⟨σ, _, I3, q2⟩
end
section
variable {X : Cx} {pins : List (Addr × Obj)} {σ : St} {H : Hp} {s : Shared} {A : Around} {E : Value -> Shared -> Prop} {Q : Value -> Shared -> Prop} {c : Value} {b : Bool}
inductive TyOf (K : PySem.W.Frag) (H : Hp) : V -> Value -> Prop where
  | non : TyOf K H .non (.type "NoneType")
  | bl (x : Bool) : TyOf K H (.bl x) (.type "bool")
  | int (i : Int) : TyOf K H (.int i) (.type "int")
  | str (x : Str) : TyOf K H (.str x) (.type "str")
  | flt (x : UInt64) : TyOf K H (.flt x) (.type "float")
  | lst {a : Addr} {xs : List V} (e : H a = some (.lst xs)) : TyOf K H (.ref a) (.type "list")
  | frz {a : Addr} {o : Obj} {xs : List V} (e : H a = some (.frz o (.lst xs))) : TyOf K H (.ref a) (.type "list")
  | tup {a : Addr} {xs : List V} (e : H a = some (.tup xs)) : TyOf K H (.ref a) (.type "tuple")
  | dK {a : Addr} {kvs : List (Key × V)} (e : H a = some (.dK kvs)) : TyOf K H (.ref a) (.type "dict")
  | dT {a : Addr} {kvs : List (List Key × V)} (e : H a = some (.dT kvs)) : TyOf K H (.ref a) (.type "dict")
  | ins {a C dx : Addr} {fs : List (Str × V)} (e : H a = some (.ins C dx fs)) (cl : Cls K C) (ha : PySem.W.findIn K (.ref C) "__class__" = some (some (.builtin "object.__class__")))
      (hn : PySem.W.specialIn K (.builtin "object.__class__") "__get__" = some (some (.builtin "getset_descriptor.__get__"))) (htk : PySem.W.takesIn K (.builtin "object.__class__") = some true)
      (hm : PySem.W.mroIn K C (.type "object") = some true) : TyOf K H (.ref a) (.ref C)
theorem isinst_ok {x : V} {u t : Value} (I : Inv X pins σ H s) (rx : RelV x u) (ty : TyOf X.K H x t) (e : PySem.W.kitOne X.K t c = some b) (h : ∀ tk, Q (.bool b) { s with toks := tk }) :
    wpAny (model X.prog X.w) A (call (.builtin "isinstance") [u, c]) Q E s := by
  cases ty with
  | non => cases (show u = Value.none from rx); exact PySem.W.kia_one PySem.W.kitx_none I.kIn True.intro e (fun z => nomatch z) h
  | bl y => cases (show u = Value.bool y from rx); exact PySem.W.kia_one PySem.W.kitx_bool I.kIn True.intro e (fun z => nomatch z) h
  | int i => obtain ⟨t, q⟩ := (show ∃ t, u = Value.int i t from rx); cases q; exact PySem.W.kia_one PySem.W.kitx_int I.kIn True.intro e (fun z => nomatch z) h
  | str y => obtain ⟨t, q⟩ := (show ∃ t, u = Value.str y t from rx); cases q; exact PySem.W.kia_one PySem.W.kitx_str I.kIn True.intro e (fun z => nomatch z) h
  | flt y => obtain ⟨t, q⟩ := (show ∃ t, u = Value.float y t from rx); cases q; exact PySem.W.kia_one PySem.W.kitx_float I.kIn True.intro e (fun z => nomatch z) h
  | @lst a xs ea =>
    cases (show u = Value.ref a from rx)
    obtain ⟨_, _, n, _, h1⟩ := (show ObjOk X.prog X.w H s.heap a (.lst xs) from I.hok a _ ea)
    exact PySem.W.kia_one PySem.W.kitx_list I.kIn ⟨_, h1, rfl⟩ e (fun z => nomatch z) h
  | @frz a ob xs ea =>
    cases (show u = Value.ref a from rx)
    obtain ⟨_, _, _, n, _, h1⟩ := (show ObjOk X.prog X.w H s.heap a (.frz ob (.lst xs)) from I.hok a _ ea)
    exact PySem.W.kia_one PySem.W.kitx_list I.kIn ⟨_, h1, rfl⟩ e (fun z => nomatch z) h
  | @tup a xs ea =>
    cases (show u = Value.ref a from rx)
    obtain ⟨_, _, _, p, _⟩ := (show ObjOk X.prog X.w H s.heap a (.tup xs) from I.hok a _ ea)
    obtain ⟨o, h1, h2, _⟩ := p
    exact PySem.W.kia_one PySem.W.kitx_tuple I.kIn ⟨o, h1, h2⟩ e (fun z => nomatch z) h
  | @dK a kvs ea =>
    cases (show u = Value.ref a from rx)
    obtain ⟨_, _, vs, _, p⟩ := (show ObjOk X.prog X.w H s.heap a (.dK kvs) from I.hok a _ ea)
    obtain ⟨o, es, ep, h1, h2, _⟩ := p
    exact PySem.W.kia_one PySem.W.kitx_dict I.kIn ⟨o, h1, h2.1⟩ e (fun z => nomatch z) h
  | @dT a kvs ea =>
    cases (show u = Value.ref a from rx)
    obtain ⟨_, _, xs, _, o, es, ep, h1, h2, _⟩ := (show ObjOk X.prog X.w H s.heap a (.dT kvs) from I.hok a _ ea)
    exact PySem.W.kia_one PySem.W.kitx_dict I.kIn ⟨o, h1, h2.1⟩ e (fun z => nomatch z) h
  | @ins a C dx fs ea cl ha hn htk hm =>
    cases (show u = Value.ref a from rx)
    obtain ⟨mA, O, _⟩ := ins_get I.hok ea
    obtain ⟨od, J, _⟩ := O.look
    exact PySem.W.kia_one (PySem.W.kitx_own (cl.get _) cl.hd ha hn htk hm) I.kIn J e (fun z => nomatch z) h
end
end L2
namespace L2
open PySem PySem.Spec PyProof.Rows
structure Room (k : Nat) (A : Around) : Prop where
  hd : A.handled = none
  dp : A.depth + 3 * k + 5 < recursionLimit
  un : A.units + 16 * k + 200 < cLine
theorem Room.mono {j k : Nat} {A : Around} (r : Room k A) (h : j <= k) : Room j A := ⟨r.hd, by have := r.dp; omega, by have := r.un; omega⟩
theorem Room.deeper {k : Nat} {A : Around} (r : Room (k + 1) A) (env : Env) : Room k (A.deeper env) :=
  ⟨r.hd, by have := r.dp; show A.depth + 1 + 3 * k + 5 < _; omega, by have := r.un; show A.units + 3 + 16 * k + 200 < _; omega⟩
theorem make_depth {A : Around} {C : Addr} {us : List Value} {kw : List (Str × Value)} : (A.under (.builtin "type.__call__" ⟨.ref C :: us, kw⟩)).depth = A.depth + 1 := by
  first | rfl | simp [Around.under, Code.weight, Code.isCreation, Code.isGuard, Code.isCaller, Code.frames, Code.isFrame, guardIds]
theorem make_units {A : Around} {C : Addr} {us : List Value} {kw : List (Str × Value)} : (A.under (.builtin "type.__call__" ⟨.ref C :: us, kw⟩)).units = A.units + 1 := by
  first | rfl | simp [Around.under, Code.cUnits, Code.frames, Code.isFrame]
theorem Room.make {k : Nat} {A : Around} (r : Room (k + 1) A) (C : Addr) (us : List Value) (kw : List (Str × Value)) : Room k (A.under (.builtin "type.__call__" ⟨.ref C :: us, kw⟩)) :=
  ⟨r.hd, by have := r.dp; rw [make_depth]; omega, by have := r.un; rw [make_units]; omega⟩
theorem Room.depth {k : Nat} {A : Around} (r : Room k A) : A.depth < recursionLimit := by have := r.dp; omega
theorem Room.units {k : Nat} {A : Around} (r : Room k A) : A.units + 64 < cLine := by have := r.un; omega
def tNil : TA := fun _ H Q => Q [] H
def tCons (ta : TE) (tr : TA) : TA := fun σ H Q => ta σ H fun x H1 => tr σ H1 fun xs H2 => Q (x :: xs) H2
section
variable {X : Cx} {e : Expr} {es : List Expr} {te : TE} {t : TA} {pos : Pos}
theorem pa_nil : PA X [] tNil := fun _ _ _ _ H Q I h => Calls.spliced_nil ⟨[], H, I, .nil, h⟩
theorem pa_cons (ha : PE X e te) (hr : PA X es t) (hs : starEach (e :: es) X.env = (false, eval e X.env) :: starEach es X.env := by rfl) : PA X (e :: es) (tCons te t) := by
  intro pos pins s σ H Q I h
  rw [hs]
  show wpAny _ _ (spliced ((false, eval e X.env) :: backTo pos (starEach es X.env))) _ _ s
  refine Calls.spliced_cons (thn (ha pins s σ H _ I h) fun u s1 ⟨x, H1, I1, r1, q1⟩ => ?_)
  exact thn (hr pos pins s1 σ H1 _ I1 q1) fun us s2 ⟨xs, H2, I2, r2, q2⟩ => ⟨x :: xs, H2, I2, .cons r1 r2, q2⟩
def tTup (t : TA) : TE := fun σ H Q => t σ H fun xs H1 => xs.length <= sizeLine /\ ∀ p, H1 p = none -> Q (.ref p) (upd H1 p (.tup xs))
def tLst (t : TA) : TE := fun σ H Q => t σ H fun xs H1 => xs.length <= sizeLine /\ ∀ p, H1 p = none -> Q (.ref p) (upd H1 p (.lst xs))
theorem pe_tup {x1} (h : PA X es t) : PE X (.Tuple es x1 pos) (tTup t) := by
  intro pins s σ H Q I hq
  refine wpAny_Tuple_spliced (thn (h pos pins s σ H _ I hq) fun us s1 ⟨xs, H1, I1, r, z, q⟩ => ⟨by rw [<- r.length]; exact z, ?_⟩)
  have hf : H1 s1.heap.objs.size = none := I1.hok.fresh (Nat.le_refl _)
  refine ⟨.ref s1.heap.objs.size, upd H1 s1.heap.objs.size (.tup xs), I1.laid (t' := s1.toks) (fun b u e => Heap.get?_push_of_some _ e) (Nat.le_refl _) ?_, rfl, q _ hf⟩
  exact ⟨z, us, r, ⟨_, Heap.get?_push_size _ rfl, rfl, _, rfl⟩, _, Heap.get?_push_size _ rfl, rfl⟩
theorem pe_lst (h : PA X es t) : PE X (.List es pos) (tLst t) := by
  intro pins s σ H Q I hq
  refine wpAny_List_spliced (thn (h pos pins s σ H _ I hq) fun us s1 ⟨xs, H1, I1, r, z, q⟩ => ⟨by rw [<- r.length]; exact z, ?_⟩)
  have hf : H1 s1.heap.objs.size = none := I1.hok.fresh (Nat.le_refl _)
  refine ⟨.ref s1.heap.objs.size, upd H1 s1.heap.objs.size (.lst xs), I1.laid (t' := s1.toks) (fun b u e => Heap.get?_push_of_some _ e) (Nat.le_refl _) ?_, rfl, q _ hf⟩
  exact ⟨z, us, 0, r, Heap.get?_push_size _ rfl⟩
end
abbrev Sp := List V -> Hp -> VK -> XK -> Prop
abbrev CXT := List Env -> Hp -> Shared -> XK -> Value -> Shared -> Prop
structure Env0 (P : Program) (w : World) (K : PySem.W.Frag) (mg : Str -> Option Value) (base : Heap) (A : Around) (outer : List Env) (s : Shared) (H : Hp) : Prop where
  frames : A.frames = some outer
  mod : Mod K mg base
  bs : ∀ b o, base.get? b = some o -> s.heap.get? b = some o /\ H b = none
  bsz : base.objs.size <= s.heap.objs.size
  funs : s.heap.FunFrames base outer
  frf : ∀ b ∈ frs outer, H b = none
  hok : HOk P w H s.heap
  bare : AllBare s.gens
def CE (outer : List Env) (P : Program) (w : World) (H : Hp) (s : Shared) (Q : VK) (u : Value) (s' : Shared) : Prop :=
  ∃ v H', s'.os = s.os /\ AllBare s'.gens /\ Un (frs outer) [] H H' s.heap s'.heap /\ HOk P w H' s'.heap /\ RelV v u /\ Q v H'
def CR (CX : CXT) (outer : List Env) (P : Program) (w : World) (H : Hp) (s : Shared) (Q : VK) (E : XK) (r : Result) (s' : Shared) : Prop :=
  match r with
  | .ok (.ret u) => CE outer P w H s Q u s'
  | .ok _ => False
  | .error e => CX outer H s E e s'
structure FnOk (P : Program) (w : World) (K : PySem.W.Frag) (mg : Str -> Option Value) (base : Heap) (CX : CXT) (k : Nat) (f : Addr) (fd : FuncData) (ps : List Str) (sp : Sp) : Prop where
  len : ∀ vs H Q E, sp vs H Q E -> vs.length = ps.length
  run : ∀ (A : Around) (outer : List Env) (s : Shared) (H : Hp) (args : Args) (us : List Value) (vs : List V) (Q : VK) (E : XK), Room k A -> Env0 P w K mg base A outer s H -> BindsTo s fd args (ps.zip us) -> Vals vs us -> sp vs H Q E ->
    codeAny (model P w) A (.call (.ref f) args) (CR CX outer P w H s Q E) s
theorem FnOk.imp {P : Program} {w : World} {K : PySem.W.Frag} {mg : Str -> Option Value} {base : Heap} {CX : CXT} {k : Nat} {f : Addr} {fd : FuncData} {ps : List Str} {sp sp' : Sp} (F : FnOk P w K mg base CX k f fd ps sp)
    (h : ∀ vs H Q E, sp' vs H Q E -> sp vs H Q E) : FnOk P w K mg base CX k f fd ps sp' :=
  ⟨fun vs H Q E q => F.len vs H Q E (h _ _ _ _ q), fun A outer s H args us vs Q E hr he hb hv hs => F.run A outer s H args us vs Q E hr he hb hv (h _ _ _ _ hs)⟩
theorem Env0.make {P : Program} {w : World} {K : PySem.W.Frag} {mg : Str -> Option Value} {base : Heap} {A : Around} {outer : List Env} {s : Shared} {H : Hp} (e : Env0 P w K mg base A outer s H) (C : Addr) (us : List Value) (kw : List (Str × Value)) :
    Env0 P w K mg base (A.under (.builtin "type.__call__" ⟨.ref C :: us, kw⟩)) outer s H := ⟨by first | exact e.frames | (simpa [Around.under, Code.envs, Code.isFrame, pushEnvs] using e.frames), e.mod, e.bs, e.bsz, e.funs, e.frf, e.hok, e.bare⟩
section
variable {X : Cx} {pins : List (Addr × Obj)} {σ : St} {H : Hp} {s s' : Shared}
theorem Inv.env0 (I : Inv X pins σ H s) : Env0 X.prog X.w X.K X.mg X.base X.A X.stack s H :=
  ⟨I.ok.frames, I.ok.mod, I.bs, Nat.le_trans I.ok.bsz I.sz, I.stack, I.stkFree, I.hok, I.bare⟩
theorem Inv.after {Q : VK} {u : Value} (I : Inv X pins σ H s) (h : CE X.stack X.prog X.w H s Q u s') : EP X pins σ Q u s' := by
  obtain ⟨v, H', os, bare, un, hok, r, q⟩ := h
  obtain ⟨hh, g, d, t, os'⟩ := s'
  obtain rfl : os' = s.os := os
  exact ⟨v, H', I.call (h' := hh) (g' := g) (d' := d) (t' := t) (ch := []) un hok bare (fun b z => absurd z (by simp)), r, q⟩
end
def tCall (sp : Sp) (dvs : List V) (E : XK) (t : TA) : TE := fun σ H Q => t σ H fun vs H1 => sp (vs ++ dvs) H1 Q E
def tMeth (C : Addr) (m : Str) (sp : Sp) (dvs : List V) (E : XK) (ta : TE) (t : TA) : TE := fun σ H Q => ta σ H fun x H1 => ∃ a dx fs, x = .ref a /\ H1 a = some (.ins C dx fs) /\ fs.lookup m = none /\
  t σ H1 fun vs H2 => sp (x :: (vs ++ dvs)) H2 Q E
def tMake (C : Addr) (sp : Sp) (dvs : List V) (E : XK) (t : TA) : TE := fun σ H Q => t σ H fun vs H1 => ∀ x dx, H1 x = none -> H1 dx = none -> dx ≠ x ->
  sp (.ref x :: (vs ++ dvs)) (upd (upd H1 dx (.own x)) x (.ins C dx [])) (fun v H2 => v = .non /\ Q (.ref x) H2) E
def Binds (K : PySem.W.Frag) (fd : FuncData) (ps : List Str) (ds : List Value) : Prop :=
  ∀ (s : Shared) (us : List Value), K.In s.heap -> (us ++ ds).length = ps.length -> BindsTo s fd ⟨us, []⟩ (ps.zip (us ++ ds))
theorem Binds.all {K : PySem.W.Frag} {fd : FuncData} {ps : List Str} (h : ∀ us : List Value, us.length = ps.length -> bindArgs fd ⟨us, []⟩ = pure (ps.zip us)) : Binds K fd ps [] := fun s us _ hl => by
  rw [List.append_nil] at hl ⊢
  exact .of_eq (h us hl)
def Passes (CX : CXT) (X : Cx) (E : XK) : Prop := ∀ (pins : List (Addr × Obj)) (σ : St) (H : Hp) (s : Shared) (e : Value) (s' : Shared), Inv X pins σ H s -> CX X.stack H s E e s' -> X.xe e s'
section
variable {X : Cx} {CX : CXT} {k : Nat} {f C : Addr} {fd : FuncData} {ps : List Str} {sp : Sp} {dvs : List V} {ds : List Value} {E : XK} {x m : Str} {p pos apos : Pos} {e o : Expr} {es : List Expr} {ta : TE} {t : TA}
theorem run_fn {pins : List (Addr × Obj)} {σ : St} {H : Hp} {s : Shared} {Q : VK} {us : List Value} {vs : List V} (F : FnOk X.prog X.w X.K X.mg X.base CX k f fd ps sp) (hr : Room k X.A) (hb : Binds X.K fd ps ds) (hd : Vals dvs ds) (hx : Passes CX X E)
    (I : Inv X pins σ H s) (r : Vals vs us) (h : sp (vs ++ dvs) H Q E) : wpAny (model X.prog X.w) X.A (call (.ref f) us) (EP X pins σ Q) X.xe s := by
  have r2 : Vals (vs ++ dvs) (us ++ ds) := r.append hd
  have hl : (us ++ ds).length = ps.length := by rw [<- r2.length]; exact F.len _ _ _ _ h
  refine wpAny_call (codeAny_mono (F.run X.A X.stack s H ⟨us, []⟩ (us ++ ds) (vs ++ dvs) Q E hr I.env0 (hb s us I.kIn hl) r2 h) fun r s' hq => ?_)
  cases r with
  | error e => exact hx pins σ H s e s' I hq
  | ok fl =>
    cases fl with
    | ret u => exact I.after hq
    | next => exact False.elim hq
    | brk => exact False.elim hq
    | cont => exact False.elim hq
theorem pe_call (F : FnOk X.prog X.w X.K X.mg X.base CX k f fd ps sp) (hr : Room k X.A) (hg : Gl X x) (hm : X.mg x = some (.ref f)) (hk : PySem.W.keepIn X.K (.ref f) = true) (hb : Binds X.K fd ps ds) (hd : Vals dvs ds) (hx : Passes CX X E)
    (ha : PA X (e :: es) t) (hdb : (x == ("__debug__" : Str)) = false := by decide) (he : starEach (e :: es) X.env = (false, eval e X.env) :: starEach es X.env := by rfl) (hpl : (backTo pos (starEach es X.env)).any (·.1) = false := by rfl) :
    PE X (.Call (.Name x p) (e :: es) [] pos) (tCall sp dvs E t) := by
  intro pins s σ H Q I h
  refine wpAny_Call_Name_kw (ld_glob I hg hm ?_ hdb)
  refine PySem.W.callWith_K (h₀ := X.base) I.ok.mod.kin hk (thn (ha pos pins s σ H _ I h) fun us s1 ⟨vs, H1, I1, r, q⟩ => ⟨I1.kIn, ?_⟩) he hpl
  exact run_fn F hr hb hd hx I1 r q
theorem pe_meth {pl : Sem Bool} (he : PE X o ta) (c : Cls X.K C) (hm : Meth X.K C m f) (F : FnOk X.prog X.w X.K X.mg X.base CX k f fd ps sp) (hr : Room k X.A) (hb : Binds X.K fd ps ds) (hd : Vals dvs ds) (hx : Passes CX X E) (ha : PA X (e :: es) t)
    (hst : starEach (e :: es) X.env = (false, eval e X.env) :: starEach es X.env := by rfl) (hpl : (backTo pos (starEach es X.env)).any (·.1) = false := by rfl)
    (ht : eval (.Call (.Attribute o m apos) (e :: es) [] pos) X.env = (do
      let ov <- eval o X.env
      standAt apos.atName
      let (f, first) <- holding [ov] (getMethod ov m pl)
      callWith pos f first (backTo pos (starEach (e :: es) X.env)) (backToKw pos (keywordEach [] X.env))) := by rfl) :
    PE X (.Call (.Attribute o m apos) (e :: es) [] pos) (tMeth C m sp dvs E ta t) := by
  intro pins s σ H Q I h
  refine PySem.W.methodCall_KW (pl := pl) (thn (he pins s σ H _ I h) fun u s1 ⟨x, H1, I1, rx, a, dx, fs, ex, ea, l, q⟩ => ?_) ht
  subst ex
  obtain rfl : u = Value.ref a := rx
  refine getmeth_ok I1 ea c hm l ?_
  refine PySem.W.callWith_K (first := [.ref a]) (h₀ := X.base) I.ok.mod.kin hm.kp (thn (ha pos pins s1 σ H1 _ I1 q) fun us s2 ⟨vs, H2, I2, r, q2⟩ => ⟨I2.kIn, ?_⟩) hst hpl
  exact run_fn (us := .ref a :: us) (vs := .ref a :: vs) F hr hb hd hx I2 (.cons rfl r) q2
theorem pe_meth0 {pl : Sem Bool} (he : PE X o ta) (c : Cls X.K C) (hm : Meth X.K C m f) (F : FnOk X.prog X.w X.K X.mg X.base CX k f fd ps sp) (hr : Room k X.A) (hb : Binds X.K fd ps ds) (hd : Vals dvs ds) (hx : Passes CX X E)
    (ht : eval (.Call (.Attribute o m apos) [] [] pos) X.env = (do
      let ov <- eval o X.env
      standAt apos.atName
      let (f, first) <- holding [ov] (getMethod ov m pl)
      callWith pos f first (backTo pos (starEach [] X.env)) (backToKw pos (keywordEach [] X.env))) := by rfl) :
    PE X (.Call (.Attribute o m apos) [] [] pos) (tMeth C m sp dvs E ta tNil) := by
  intro pins s σ H Q I h
  refine PySem.W.methodCall_KW (pl := pl) (thn (he pins s σ H _ I h) fun u s1 ⟨x, H1, I1, rx, a, dx, fs, ex, ea, l, q⟩ => ?_) ht
  subst ex
  obtain rfl : u = Value.ref a := rx
  refine getmeth_ok I1 ea c hm l ?_
  exact PySem.W.callWith_K0 (first := [.ref a]) I1.kIn hm.kp (run_fn (us := [.ref a]) (vs := [.ref a]) F hr hb hd hx I1 (.cons rfl .nil) q)
structure Mk (K : PySem.W.Frag) (C f : Addr) : Prop where
  makes : PySem.W.makesIn K C = true
  init : PySem.W.findIn K (.ref C) "__init__" = some (some (.ref f))
  fn : PySem.W.isFn K (.ref f) = true
  kp : PySem.W.keepIn K (.ref C) = true
theorem run_make {pins : List (Addr × Obj)} {σ : St} {H : Hp} {s : Shared} {Q : VK} {us : List Value} {vs : List V} (M : Mk X.K C f) (F : FnOk X.prog X.w X.K X.mg X.base CX k f fd ps sp) (hr : Room (k + 1) X.A) (hb : Binds X.K fd ps ds) (hd : Vals dvs ds)
    (hx : Passes CX X E) (I : Inv X pins σ H s) (r : Vals vs us)
    (h : ∀ x dx, H x = none -> H dx = none -> dx ≠ x -> sp (.ref x :: (vs ++ dvs)) (upd (upd H dx (.own x)) x (.ins C dx [])) (fun v H2 => v = .non /\ Q (.ref x) H2) E) :
    wpAny (model X.prog X.w) X.A (call (.ref C) us) (EP X pins σ Q) X.xe s := by
  have hq := h (s.heap.objs.size + 1) s.heap.objs.size (I.hok.fresh (Nat.le_succ _)) (I.hok.fresh (Nat.le_refl _)) (Nat.ne_of_lt (Nat.lt_succ_self _))
  have I2 := Inv.made (C := C) I
  have r2 : Vals (V.ref (s.heap.objs.size + 1) :: (vs ++ dvs)) (Value.ref (s.heap.objs.size + 1) :: (us ++ ds)) := .cons rfl (r.append hd)
  have hl : (Value.ref (s.heap.objs.size + 1) :: us ++ ds).length = ps.length := by
    have e := r2.length
    rw [F.len _ _ _ _ hq] at e
    exact e.symm
  refine wpAny_call (make_map (f := f) I.kIn M.makes M.init (beq_iff_eq.mp M.fn) (codeAny_mono (F.run _ X.stack _ _ ⟨Value.ref (s.heap.objs.size + 1) :: us, []⟩ (Value.ref (s.heap.objs.size + 1) :: (us ++ ds)) _ _ E (hr.make C us [])
    (I2.env0.make C us []) (hb _ (Value.ref (s.heap.objs.size + 1) :: us) I2.kIn hl) r2 hq) fun r s' hq' => ?_))
  cases r with
  | error e => exact hx pins σ _ _ e s' I2 hq'
  | ok fl =>
    cases fl with
    | ret u =>
      obtain ⟨v, H', I3, rv, ev, q3⟩ := I2.after hq'
      subst ev
      exact ⟨rv, ⟨V.ref (s.heap.objs.size + 1), H', I3, rfl, q3⟩⟩
    | next => exact False.elim hq'
    | brk => exact False.elim hq'
    | cont => exact False.elim hq'
theorem pe_make (M : Mk X.K C f) (F : FnOk X.prog X.w X.K X.mg X.base CX k f fd ps sp) (hr : Room (k + 1) X.A) (hg : Gl X x) (hm : X.mg x = some (.ref C)) (hb : Binds X.K fd ps ds) (hd : Vals dvs ds) (hx : Passes CX X E)
    (ha : PA X (e :: es) t) (hdb : (x == ("__debug__" : Str)) = false := by decide) (he : starEach (e :: es) X.env = (false, eval e X.env) :: starEach es X.env := by rfl) (hpl : (backTo pos (starEach es X.env)).any (·.1) = false := by rfl) :
    PE X (.Call (.Name x p) (e :: es) [] pos) (tMake C sp dvs E t) := by
  intro pins s σ H Q I h
  refine wpAny_Call_Name_kw (ld_glob I hg hm ?_ hdb)
  refine PySem.W.callWith_K (h₀ := X.base) I.ok.mod.kin M.kp (thn (ha pos pins s σ H _ I h) fun us s1 ⟨vs, H1, I1, r, q⟩ => ⟨I1.kIn, ?_⟩) he hpl
  exact run_make M F hr hb hd hx I1 r q
end
section
variable {X : Cx} {CX : CXT} {k : Nat} {f C : Addr} {fd : FuncData} {ps ks : List Str} {sp : Sp} {E : XK} {x m : Str} {p pos apos kpos : Pos} {e o : Expr} {es : List Expr} {kws : List Keyword} {te ta : TE} {t tk : TA} {nm : Option Str}
structure KBinds (K : PySem.W.Frag) (fd : FuncData) (ps ks : List Str) (g : List Value -> List Value -> List Value) (gV : List V -> List V -> List V) : Prop where
  to : ∀ (s : Shared) (us ws : List Value), K.In s.heap -> (g us ws).length = ps.length -> BindsTo s fd ⟨us, ks.zip ws⟩ (ps.zip (g us ws))
  rel : ∀ {vs : List V} {us : List Value} {zs : List V} {ws : List Value}, Vals vs us -> Vals zs ws -> Vals (gV vs zs) (g us ws)
variable {g : List Value -> List Value -> List Value} {gV : List V -> List V -> List V}
end
structure FnScope (N P : List Str) (sc : Scope) : Prop where
  kind : sc.kind = .function
  co : sc.isCoroutine = false
  gen : sc.isGenerator = false
  nd : N.Nodup
  pre : N.take P.length = P
  par : ∀ x ∈ P, sc.names.lookup x = some .local ∨ sc.names.lookup x = some .cell
  nofree : ∀ y ∈ sc.names, y.2 ≠ .free
theorem bindL_out {kindOf : Str -> Option NameKind} {x : Str} : ∀ {binds : List (Str × Value)} {m : Str -> Option Value}, (∀ v, (x, v) ∉ binds) -> bindL kindOf binds m x = m x
  | [], _, _ => rfl
  | (n, v) :: r, m, h => by
    unfold bindL
    rw [bindL_out fun w hw => h w (List.mem_cons_of_mem _ hw)]
    split
    · have : x ≠ n := by rintro rfl; exact h v List.mem_cons_self
      simp [this]
    · rfl
theorem bindC_out {kindOf : Str -> Option NameKind} {x : Str} : ∀ {binds : List (Str × Value)} {m : Str -> Option Value}, (∀ v, (x, v) ∉ binds) -> bindC kindOf binds m x = m x
  | [], _, _ => rfl
  | (n, v) :: r, m, h => by
    unfold bindC
    rw [bindC_out fun w hw => h w (List.mem_cons_of_mem _ hw)]
    split
    · rfl
    · have : x ≠ n := by rintro rfl; exact h v List.mem_cons_self
      simp [this]
theorem bindL_get {kindOf : Str -> Option NameKind} {x : Str} {v : Value} : ∀ {P : List Str} {vs : List Value} {i : Nat} {m : Str -> Option Value}, P.Nodup -> P[i]? = some x -> vs[i]? = some v -> kindOf x = some .local ->
    bindL kindOf (P.zip vs) m x = some v
  | [], _, _, _, _, h, _, _ => by simp at h
  | _ :: _, [], _, _, _, _, h, _ => by simp at h
  | p :: P, w :: vs, 0, m, nd, h1, h2, hk => by
    simp at h1 h2; subst h1; subst h2
    show bindL kindOf ((p, w) :: P.zip vs) m p = _
    unfold bindL
    rw [bindL_out fun v hv => (List.nodup_cons.mp nd).1 (List.of_mem_zip hv).1, if_pos hk]
    simp
  | p :: P, w :: vs, i + 1, m, nd, h1, h2, hk => by
    show bindL kindOf ((p, w) :: P.zip vs) m x = _
    unfold bindL
    exact bindL_get (i := i) (List.nodup_cons.mp nd).2 (by simpa using h1) (by simpa using h2) hk
theorem bindC_get {kindOf : Str -> Option NameKind} {x : Str} {v : Value} : ∀ {P : List Str} {vs : List Value} {i : Nat} {m : Str -> Option Value}, P.Nodup -> P[i]? = some x -> vs[i]? = some v -> kindOf x ≠ some .local ->
    bindC kindOf (P.zip vs) m x = some v
  | [], _, _, _, _, h, _, _ => by simp at h
  | _ :: _, [], _, _, _, _, h, _ => by simp at h
  | p :: P, w :: vs, 0, m, nd, h1, h2, hk => by
    simp at h1 h2; subst h1; subst h2
    show bindC kindOf ((p, w) :: P.zip vs) m p = _
    unfold bindC
    rw [bindC_out fun v hv => (List.nodup_cons.mp nd).1 (List.of_mem_zip hv).1, if_neg hk]
    simp
  | p :: P, w :: vs, i + 1, m, nd, h1, h2, hk => by
    show bindC kindOf ((p, w) :: P.zip vs) m x = _
    unfold bindC
    exact bindC_get (i := i) (List.nodup_cons.mp nd).2 (by simpa using h1) (by simpa using h2) hk
def start (N : List Str) (vs : List V) : St := vs.map some ++ List.replicate (N.length - vs.length) none
def cxOf (CX : CXT) (P : Program) (w : World) (K : PySem.W.Frag) (mg : Str -> Option Value) (base : Heap) (N : List Str) (qual : Str) (scope : Scope) (f : Addr) (cd : Value) (A : Around) (outer : List Env) (s : Shared) (H : Hp) (E : XK) : Cx where
  prog := P
  w := w
  K := K
  mg := mg
  base := base
  A := A.deeper (envOfC qual scope s.heap.objs.size f cd)
  N := N
  s₀ := s
  H₀ := H
  env := envOfC qual scope s.heap.objs.size f cd
  outer := outer
  stack := envOfC qual scope s.heap.objs.size f cd :: outer
  ex := []
  calm := true
  fn := fun _ => true
  pn := []
  xe := fun e s' => wpAny (model P w) (A.deeper (envOfC qual scope s.heap.objs.size f cd)) (leaving (envOfC qual scope s.heap.objs.size f cd) e) (fun _ s'' => CX outer H s E e s'') (fun e' s'' => CX outer H s E e' s'') s'
theorem cell_has {sc : Scope} {n : Nat} {x : Str} (h : sc.names.lookup x = some .cell) : ∃ c, (cellsFrom n sc.names []).lookup x = some c := by
  have q := PySem.W.cellsFrom_some sc.names n [] (.inl h)
  exact Option.isSome_iff_exists.mp q
theorem inv_start {CX : CXT} {P : Program} {w : World} {K : PySem.W.Frag} {mg : Str -> Option Value} {base : Heap} {N ps : List Str} {qual : Str} {scope : Scope} {f : Addr} {cd : Value} {A : Around} {outer : List Env} {s s1 : Shared} {H : Hp} {E : XK} {us : List Value} {vs : List V}
    (S : FnScope N ps scope) (hd : A.handled = none) (e0 : Env0 P w K mg base A outer s H) (hl : vs.length = ps.length) (r : Vals vs us)
    (x : InCallC s s.heap.objs.size (bindL (envOfC qual scope s.heap.objs.size f cd).kindOf (ps.zip us) fun _ => none) (cellsFrom (s.heap.objs.size + 1) scope.names []) (bindC (envOfC qual scope s.heap.objs.size f cd).kindOf (ps.zip us) fun _ => none) s1) :
    Inv (cxOf CX P w K mg base N qual scope f cd A outer s H E) [] (start N vs) H s1 := by
  have hpl : ps.length <= N.length := by have := congrArg List.length S.pre; rw [List.length_take] at this; omega
  obtain ⟨h1, tk, rfl, hk⟩ := x.done
  have noA : ∀ b : Addr, b ∉ (cxOf CX P w K mg base N qual scope f cd A outer s H E).ex := fun b z => absurd (show b ∈ ([] : List Addr) from z) (by simp)
  refine ⟨⟨e0.mod, S.kind, rfl, rfl, Nat.le_refl _, fun y z c h1 h2 => ?_, fun y hy => ?_, fun y c _ h => ?_, fun _ => hd, Around.frames_deeper e0.frames, .inr ⟨rfl, rfl⟩, fun b z => absurd z (noA b), e0.bs, e0.bsz, fun b _ _ => noA b, fun b z => absurd z (noA b), e0.funs, e0.frf⟩,
    rfl, e0.bare, Un.kept hk, ⟨_, x.toInCall.ns, fun i y v h1 h2 h3 => ?_⟩, fun y c h => ⟨_, x.cell y c h⟩, e0.hok.fresh (Nat.le_refl _), fun y c h => ?_, fun p hp => absurd (show p ∈ ([] : List (Addr × Obj)) from hp) (by simp), e0.hok.kept hk, ?_⟩
  · exact name_of_addr x.apart (PySem.mem_of_lookup h1) (PySem.mem_of_lookup h2)
  · have hy : scope.names.lookup y = some .cell ∨ scope.names.lookup y = some .free := hy
    rcases hy with hy | hy
    · exact cell_has hy
    · exact absurd rfl (S.nofree _ (PySem.mem_of_lookup hy))
  · exact Nat.le_of_lt (x.above y c (PySem.mem_of_lookup h))
  · have hi : i < vs.length := by
      unfold start at h2
      by_cases hi : i < vs.length
      · exact hi
      · rw [List.getElem?_append_right (by simpa using hi)] at h2
        rw [List.getElem?_replicate] at h2
        split at h2 <;> cases h2
    have ha : vs[i]? = some v := by
      unfold start at h2
      rw [List.getElem?_append_left (by simpa using hi), List.getElem?_map] at h2
      cases e : vs[i]? with
      | none => rw [e] at h2; cases h2
      | some a => rw [e] at h2; cases h2; rfl
    obtain ⟨u, hu, rv⟩ := r.get ha
    have hp : ps[i]? = some y := by
      rw [<- S.pre, List.getElem?_take_of_lt (by omega)]; exact h1
    have ndP : ps.Nodup := by rw [<- S.pre]; exact S.nd.sublist (List.take_sublist _ _)
    refine ⟨u, rv, ?_⟩
    rcases S.par y (List.mem_of_getElem? hp) with k | k
    · exact .inl ⟨k, bindL_get ndP hp hu k⟩
    · obtain ⟨c, e⟩ := cell_has (n := s.heap.objs.size + 1) k
      refine .inr ⟨.inl k, c, e, ?_⟩
      have q := x.cell y c e
      rw [bindC_get ndP hp hu (by show scope.names.lookup y ≠ _; rw [k]; decide)] at q
      exact q
  · exact e0.hok.fresh (Nat.le_of_lt (x.above y c (PySem.mem_of_lookup h)))
  · unfold start
    show _ = N.length
    rw [List.length_append, List.length_map, List.length_replicate]
    omega
theorem fn_of {CX : CXT} {P : Program} {w : World} {K : PySem.W.Frag} {mg : Str -> Option Value} {base : Heap} {k : Nat} {f : Addr} {name qual : Str} {params : Arguments} {body : List Stmt} {scope : Scope} {dV kV doc pm cdv ct oc : Value} {an od : Option Addr}
    {osl : Array (Option Value)} {N ps : List Str} {sp : Sp} (lk : K.lookup f = some ⟨oc, od, .func (PySem.W.fnOf name qual params body scope dV kV doc pm an cdv ct), osl⟩) (hcd : PySem.W.codeIn K cdv qual = true) (S : FnScope N ps scope)
    (len : ∀ vs H Q E, sp vs H Q E -> vs.length = ps.length)
    (hbody : ∀ (A : Around) (outer : List Env) (s : Shared) (H : Hp) (vs : List V) (Q : VK) (E : XK), Room k (A.deeper (envOfC qual scope s.heap.objs.size f cdv)) -> sp vs H Q E ->
      ∃ t, PSs (cxOf CX P w K mg base N qual scope f cdv A outer s H E) body t /\ t { nx := fun _ H' => Q .non H', rt := Q } (start N vs) H) :
    FnOk P w K mg base CX (k + 1) f (PySem.W.fnOf name qual params body scope dV kV doc pm an cdv ct) ps sp := by
  refine ⟨len, fun A outer s H args us vs Q E hr e0 hb r hsp => ?_⟩
  have hl := len _ _ _ _ hsp
  have KX : K.In s.heap := e0.mod.kin.keeps fun b o e => (e0.bs b o e).1
  have lim : s.heap.NoLimit := e0.mod.nolimit.keeps fun b o e => (e0.bs b o e).1
  have hkind : ∀ y ∈ ps.zip us, scope.names.lookup y.1 = some .local ∨ (scope.names.lookup y.1 = some .cell /\ ((cellsFrom (s.heap.objs.size + 1) scope.names []).lookup y.1).isSome = true) := fun ⟨n, v⟩ hy => by
    rcases S.par n (List.of_mem_zip hy).1 with q | q
    · exact .inl q
    · exact .inr ⟨q, PySem.W.cellsFrom_some _ _ _ (.inl q)⟩
  refine codeAny_call_function hr.depth (KX _ _ lk) rfl S.co S.gen rfl (PySem.W.codeRec_of KX hcd) (hb _ _ _ _ ?_)
  refine wpAny_newFunctionEnv_cells S.kind hkind fun env he s1 x => ?_
  subst he
  refine ⟨lim.keeps x.toInCall.keep, codeAny_func ?_⟩
  obtain ⟨t, ht, hq⟩ := hbody A outer s H vs Q E (hr.deeper _) hsp
  have I : Inv (cxOf CX P w K mg base N qual scope f cdv A outer s H E) [] (start N vs) H s1 := inv_start S hr.hd e0 hl r x
  refine wpAny_mono (ht [] s1 (start N vs) H _ I hq) (fun fl s' hs => ?_) fun e s' hs => hs
  have fin : ∀ {σ' : St} {H' : Hp} {v : V} {u : Value}, Inv (cxOf CX P w K mg base N qual scope f cdv A outer s H E) [] σ' H' s' -> RelV v u -> Q v H' -> CE outer P w H s Q u s' :=
    fun {σ' H' v u} J rv q => ⟨v, H', J.os, J.bare, J.base, J.hok, rv, q⟩
  cases fl with
  | ret u =>
    obtain ⟨v, σ', H', J, rv, q⟩ := hs
    exact fin J rv q
  | next =>
    obtain ⟨σ', H', J, q⟩ := hs
    exact fin (v := V.non) (u := Value.none) J rfl q
  | brk =>
    obtain ⟨_, _, _, q⟩ := hs
    exact False.elim q
  | cont =>
    obtain ⟨_, _, _, q⟩ := hs
    exact False.elim q
end L2
namespace L2
open PySem PySem.Spec PyProof.Rows
section
variable {X : Cx} {x : Str} {p pos : Pos} {e : Expr} {es : List Expr} {t : TA} {id T : String} {r : List V -> Hp -> VK -> Prop}
def tCB (r : List V -> Hp -> VK -> Prop) (t : TA) : TE := fun σ H Q => t σ H fun vs H1 => r vs H1 Q
theorem pe_callB (hc : CallR X (.builtin id) r) (hg : Gl X x) (hm : X.mg x = none) (hv : bootBuiltins x = some (.builtin id)) (ha : PA X (e :: es) t) (hn : x ≠ "__name__" := by decide) (hdb : (x == ("__debug__" : Str)) = false := by decide)
    (he : starEach (e :: es) X.env = (false, eval e X.env) :: starEach es X.env := by rfl) (hpl : (backTo pos (starEach es X.env)).any (·.1) = false := by rfl) : PE X (.Call (.Name x p) (e :: es) [] pos) (tCB r t) := by
  intro pins s σ H Q I h
  refine wpAny_Call_Name_kw (ld_blt I hg hm hv ?_ hn hdb)
  exact PyProof.Rows.callWith_builtin1 (thn (ha pos pins s σ H _ I h) fun us s1 ⟨vs, H1, I1, r1, q1⟩ => hc pins s1 σ H1 vs us Q I1 r1 q1) he hpl
theorem pe_callTy (hc : CallR X (.type T) r) (hg : Gl X x) (hm : X.mg x = none) (hv : bootBuiltins x = some (.type T)) (ha : PA X (e :: es) t) (hn : x ≠ "__name__" := by decide) (hdb : (x == ("__debug__" : Str)) = false := by decide)
    (he : starEach (e :: es) X.env = (false, eval e X.env) :: starEach es X.env := by rfl) (hpl : (backTo pos (starEach es X.env)).any (·.1) = false := by rfl) : PE X (.Call (.Name x p) (e :: es) [] pos) (tCB r t) := by
  intro pins s σ H Q I h
  refine wpAny_Call_Name_kw (ld_blt I hg hm hv ?_ hn hdb)
  exact PyProof.Rows.callWith_type1 (thn (ha pos pins s σ H _ I h) fun us s1 ⟨vs, H1, I1, r1, q1⟩ => hc pins s1 σ H1 vs us Q I1 r1 q1) he hpl
end
end L2
namespace HT
open PySem PyProof.Rows
section
open PySem.SeqAt
open PySem.AutoSeq1 (wpAny_loadPart')
open PySem.MeetsSeq PySem.MeetsSeq2 PySem.MeetsSeq3
end
section
variable {prog : Program} {w : World} {A : Around} {E : Value -> Shared -> Prop} {s : Shared}
def sIx (n d : Nat) : Option Int -> Nat
  | none => d
  | some v => if v < 0 then (v + (n : Int)).toNat else min v.toNat n
theorem sIx_none (n d : Nat) : sIx n d none = d := rfl
theorem sIx_nat (n d k : Nat) : sIx n d (some (k : Int)) = min k n := by
  show (if (k : Int) < 0 then ((k : Int) + (n : Int)).toNat else min (k : Int).toNat n) = min k n
  rw [if_neg (by omega), Int.toNat_natCast]
end
end HT
namespace L2
open PySem PySem.Spec PyProof.Rows
abbrev TO := St -> Hp -> (Option Int -> Hp -> Prop) -> Prop
def PO (X : Cx) (e : Option Expr) (t : TO) : Prop :=
  ∀ (pins : List (Addr × Obj)) (s : Shared) (σ : St) (H : Hp) (Q : Option Int -> Hp -> Prop), Inv X pins σ H s -> t σ H Q ->
    wpAny (model X.prog X.w) X.A (evalPart e X.env) (fun u s' => ∃ o H', Inv X pins σ H' s' /\ IsPart u o /\ Q o H') X.xe s
def tNoPart : TO := fun _ H Q => Q none H
def tPart (t : TE) : TO := fun σ H Q => t σ H fun x H1 => ∃ i, x = .int i /\ Q (some i) H1
section
variable {X : Cx} {e : Expr} {te : TE} {lo hi : Option Expr} {tl th : TO} {pos p2 : Pos}
theorem po_none : PO X none tNoPart := by
  intro pins s σ H Q I h
  rw [evalPart_none]
  exact wpAny_pure ⟨none, H, I, .none, h⟩
theorem po_some (h : PE X e te) : PO X (some e) (tPart te) := by
  intro pins s σ H Q I hw
  rw [evalPart_some]
  refine thn (h pins s σ H _ I hw) fun u s1 ⟨x, H1, I1, r1, q1⟩ => ?_
  obtain ⟨i, rfl, q⟩ := q1
  obtain ⟨t, rfl⟩ := r1
  exact ⟨some i, H1, I1, .int i t, q⟩
def SlR (X : Cx) (r : V -> Option Int -> Option Int -> Hp -> VK -> Prop) : Prop :=
  ∀ (pins : List (Addr × Obj)) (s : Shared) (σ : St) (H : Hp) (x : V) (v vl vu : Value) (lo hi : Option Int) (sl : Addr) (Q : VK), Inv X pins σ H s -> RelV x v -> s.heap.IsSliceOf sl vl vu .none -> IsPart vl lo -> IsPart vu hi -> r x lo hi H Q ->
    ∃ T id, typeLookup (.type T) "__getitem__" = pure (some (.builtin id)) /\ s.TypeIs v T /\ wpAny (model X.prog X.w) X.A (getItem v (.ref sl)) (EP X pins σ Q) X.xe s
def tSl (r : V -> Option Int -> Option Int -> Hp -> VK -> Prop) (te : TE) (tl th : TO) : TE := fun σ H Q => te σ H fun x H1 => tl σ H1 fun l H2 => th σ H2 fun u H3 => r x l u H3 Q
theorem pe_slice {r : V -> Option Int -> Option Int -> Hp -> VK -> Prop} (hr : SlR X r) (he : PE X e te) (hl : PO X lo tl) (hu : PO X hi th) : PE X (.Subscript e (.Slice lo hi none p2) pos) (tSl r te tl th) := by
  intro pins s σ H Q I h
  refine Subscript_ (thn (he pins s σ H _ I h) fun v s1 ⟨x, H1, I1, r1, q1⟩ => ?_)
  refine wpAny_Slice (thn (hl pins s1 σ H1 _ I1 q1) fun vl s2 ⟨l, H2, I2, pl, q2⟩ => thn (hu pins s2 σ H2 _ I2 q2) fun vu s3 ⟨u, H3, I3, pu, q3⟩ => ?_)
  rw [evalPart_none]
  refine wpAny_pure ?_
  have I4 : Inv X pins σ H3 { s3 with heap := s3.heap.push { cls := .type "slice", data := .fields #[vl, vu, .none] } } := I3.kept (t' := s3.toks) fun b ob q => Heap.get?_push_of_some _ q
  obtain ⟨T, id, hT, ht, hg⟩ := hr pins { s3 with heap := s3.heap.push { cls := .type "slice", data := .fields #[vl, vu, .none] } } σ H3 x v vl vu l u s3.heap.objs.size Q I4 r1 (Heap.IsSliceOf.new ..) pl pu q3
  show wpAny (model X.prog X.w) X.A (subscriptTail e (.Slice lo hi none p2) v (.ref s3.heap.objs.size)) (EP X pins σ Q) X.xe { s3 with heap := s3.heap.push { cls := .type "slice", data := .fields #[vl, vu, .none] } }
  exact tail_any (ops := [.ref s3.heap.objs.size, v]) ht hT hg (by with_unfolding_all rfl)
def cutV (xs : List V) (lo hi : Option Int) : List V := (xs.drop (HT.sIx xs.length 0 lo)).take (HT.sIx xs.length xs.length hi - HT.sIx xs.length 0 lo)
theorem cutV_length (xs : List V) (lo hi : Option Int) : (cutV xs lo hi).length <= xs.length := by
  unfold cutV
  rw [List.length_take, List.length_drop]
  omega
end
end L2
namespace L2
open PySem PySem.Spec PyProof.Rows
def ixN (n : Nat) (i : Int) : Option Nat := if 0 <= i then (if i < n then some i.toNat else none) else if -(n : Int) <= i then some (i + n).toNat else none
def atI {α : Type} (xs : List α) (i : Int) : Option α := (ixN xs.length i).bind fun j => xs[j]?
theorem ixN_seq {n : Nat} {i : Int} {j : Nat} (h : ixN n i = some j) : seqIndex? i n = some j /\ j < n /\ -(n : Int) <= i /\ i < n := by
  unfold ixN at h
  by_cases h0 : 0 <= i
  · rw [if_pos h0] at h
    by_cases h1 : i < n
    · rw [if_pos h1] at h
      have e : i.toNat = j := Option.some.inj h
      exact ⟨by rw [seqIndex_of h0 h1, e], by omega, by omega, h1⟩
    · rw [if_neg h1] at h; cases h
  · rw [if_neg h0] at h
    by_cases h1 : -(n : Int) <= i
    · rw [if_pos h1] at h
      have e : (i + n).toNat = j := Option.some.inj h
      exact ⟨by rw [seqIndex_neg (by omega) h1, e], by omega, h1, by omega⟩
    · rw [if_neg h1] at h; cases h
theorem atI_get {α : Type} {xs : List α} {i : Int} {v : α} (h : atI xs i = some v) : ∃ j, seqIndex? i xs.length = some j /\ xs[j]? = some v /\ j < xs.length /\ -(xs.length : Int) <= i /\ i < xs.length := by
  unfold atI at h
  cases e : ixN xs.length i with
  | none => rw [e] at h; cases h
  | some j =>
    rw [e] at h
    obtain ⟨h1, h2, h3, h4⟩ := ixN_seq e
    exact ⟨j, h1, h, h2, h3, h4⟩
def PlainIx (b : Expr) : Prop := ∀ o i, subscripted b false o i = operate [o, i] (getItem o i)
def IxR (X : Cx) (r : R2) : Prop :=
  ∀ (value slice : Expr) (pins : List (Addr × Obj)) (s : Shared) (σ : St) (H : Hp) (x y : V) (v u : Value) (Q : VK), Inv X pins σ H s -> RelV x v -> RelV y u -> r x y H Q ->
    subscripted slice false v u = operate [v, u] (getItem v u) -> wpAny (model X.prog X.w) X.A (subscriptTail value slice v u) (EP X pins σ Q) X.xe s
def MtR (X : Cx) (id : String) (r : V -> List V -> Hp -> VK -> Prop) : Prop :=
  ∀ (pins : List (Addr × Obj)) (s : Shared) (σ : St) (H : Hp) (x : V) (xs : List V) (v : Value) (us : List Value) (Q : VK), Inv X pins σ H s -> RelV x v -> Vals xs us -> r x xs H Q ->
    wpAny (model X.prog X.w) X.A (call (.builtin id) (v :: us)) (EP X pins σ Q) X.xe s
section
variable {X : Cx} {a b : Expr} {ta tb : TE} {pos : Pos}
theorem pe_ix {r : R2} (hr : IxR X r) (ha : PE X a ta) (hb : PE X b tb) (hs : PlainIx b) : PE X (.Subscript a b pos) (tOp r ta tb) := by
  intro pins s σ H Q I h
  exact Subscript_ (binT ha hb I h fun v u s2 x y H2 I2 rx ry q => hr a b pins s2 σ H2 x y v u Q I2 rx ry q (hs _ _))
def rIxL (K : PySem.W.Frag) : R2 := fun x y H Q => ∃ p xs i v, x = .ref p /\ y = .int i /\ SqL K H p xs /\ atI xs i = some v /\ Q v H
def rIxT (K : PySem.W.Frag) : R2 := fun x y H Q => ∃ p xs i v, x = .ref p /\ y = .int i /\ SqT K H p xs /\ atI xs i = some v /\ Q v H
def rIxS : R2 := fun x y H Q => ∃ z i c, x = .str z /\ y = .int i /\ z.length <= sizeLine /\ atI z.cps.toList i = some c /\ Q (.str ⟨#[c]⟩) H
theorem ix_list : IxR X (rIxL X.K) := by
  intro value slice pins s σ H x y v u Q I rx ry h hs
  obtain ⟨p, xs, i, z, rfl, rfl, hq, he, q⟩ := h
  cases rx
  obtain ⟨t, rfl⟩ := ry
  obtain ⟨its, r, pl, hz⟩ := I.list hq
  obtain ⟨j, h1, h2, h3, h4, h5⟩ := atI_get he
  obtain ⟨w, ew, rw'⟩ := r.get h2
  have hl := r.length
  have hn := line63
  have fin : EP X pins σ Q w s := ⟨z, H, I, rw', q⟩
  by_cases h0 : 0 <= i
  · have hj : i.toNat = j := by
      rw [seqIndex_of h0 h5] at h1
      exact Option.some.inj h1
    exact item_listR pl.isList h0 (by omega) (by rw [hj]; simpa using ew) fin hs
  · have hj : (i + (its.toArray.size : Int)).toNat = j := by
      rw [seqIndex_neg (by omega) h4] at h1
      rw [List.size_toArray, <- hl]
      exact Option.some.inj h1
    exact subscriptTail_builtinR (x := w) pl.isList.typeIs slot_list_getitem.lookup
      (wpAny_getItem_list_neg (Q := fun r s' => r = w /\ EP X pins σ Q r s') pl.isList (by omega) (by rw [List.size_toArray] <;> omega) (by omega) (by rw [hj]; simpa using ew) ⟨rfl, fin⟩) hs
theorem ix_tup : IxR X (rIxT X.K) := by
  intro value slice pins s σ H x y v u Q I rx ry h hs
  obtain ⟨p, xs, i, z, rfl, rfl, hq, he, q⟩ := h
  cases rx
  obtain ⟨t, rfl⟩ := ry
  obtain ⟨its, r, pl, hz⟩ := I.tuple hq
  obtain ⟨j, h1, h2, h3, h4, h5⟩ := atI_get he
  obtain ⟨w, ew, rw'⟩ := r.get h2
  have hl := r.length
  have hn := line63
  have fin : EP X pins σ Q w s := ⟨z, H, I, rw', q⟩
  exact subscriptTail_builtinR (x := w) pl.typeIs slot_tuple_getitem.lookup
    (getItem_tuple (j := j) (Q := fun r s' => r = w /\ EP X pins σ Q r s') pl (by omega) (by omega) (by rw [List.size_toArray, <- hl]; exact h1) (by simpa using ew) ⟨rfl, fin⟩) hs
theorem ix_str : IxR X rIxS := by
  intro value slice pins s σ H x y v u Q I rx ry h hs
  obtain ⟨z, i, c, rfl, rfl, hz, he, q⟩ := h
  obtain ⟨t, rfl⟩ := rx
  obtain ⟨t', rfl⟩ := ry
  obtain ⟨j, h1, h2, h3, h4, h5⟩ := atI_get he
  have hl : z.cps.toList.length = z.length := by simp [Str.length]
  rw [hl] at h1 h4 h5
  have hn := line63
  exact tail_any (typeIs_str s z t) slot_str_getitem.lookup (getItem_str (c := c) (by
    have e1 : decide (i < -(2 ^ 63 : Int)) = false := decide_eq_false (by omega)
    have e2 : decide (i ≥ 2 ^ 63) = false := decide_eq_false (by omega)
    rw [e1, e2, Bool.or_false]) (by rw [h1]; simpa using h2) ⟨.str ⟨#[c]⟩, H, I.tok _, ⟨_, rfl⟩, q⟩) hs
theorem mapSeq_set (its : List Value) (n j : Nat) (u : Value) : Obj.mapSeq (·.setIfInBounds j u) { cls := .type "list", data := .seq its.toArray n } = { cls := .type "list", data := .seq (its.set j u).toArray n } := by
  simp [Obj.mapSeq]
theorem Inv.lst {pins : List (Addr × Obj)} {σ : St} {H : Hp} {s : Shared} {p : Addr} {xs : List V} (I : Inv X pins σ H s) (h : H p = some (.lst xs)) :
    ∃ (its : List Value) (n : Nat), Vals xs its /\ s.heap.get? p = some { cls := .type "list", data := .seq its.toArray n } /\ xs.length <= sizeLine := by
  obtain ⟨z, its, n, r, e⟩ := I.hok p _ h
  exact ⟨its, n, r, e, z⟩
theorem Inv.lstUpd {pins : List (Addr × Obj)} {σ : St} {H : Hp} {s : Shared} {p : Addr} {xs ys : List V} {its its' : List Value} {n n' : Nat} {f : Obj -> Obj} (I : Inv X pins σ H s) (h : H p = some (.lst xs))
    (ho : s.heap.get? p = some { cls := .type "list", data := .seq its.toArray n }) (hf : f { cls := .type "list", data := .seq its.toArray n } = { cls := .type "list", data := .seq its'.toArray n' }) (r : Vals ys its') (hz : ys.length <= sizeLine) (t : Nat) :
    Inv X pins σ (upd H p (.lst ys)) { s with heap := s.heap.update p f, toks := t } := by
  have e : (s.heap.update p f).get? p = some { cls := .type "list", data := .seq its'.toArray n' } := by
    rw [Heap.get?_update_self f ho (by rw [hf] <;> rfl), hf]
  refine I.write (x := p) (e := p) (by rw [h]; trivial) (.inl rfl) (fun b u hb q => (Heap.get?_update_other _ _ (Ne.symm hb)).trans q) ⟨_, e⟩ ?_
  exact ⟨hz, its', n', r, e⟩
def rSetL : V -> V -> V -> Hp -> (Hp -> Prop) -> Prop := fun o i v H Q => ∃ p xs k j, o = .ref p /\ i = .int k /\ H p = some (.lst xs) /\ ixN xs.length k = some j /\ Q (upd H p (.lst (xs.set j v)))
theorem set_list : PSet X rSetL := by
  intro pins s σ H o i v ov iv u Q I ro ri rv h
  obtain ⟨p, xs, k, j, rfl, rfl, hp, hj, q⟩ := h
  cases ro
  obtain ⟨t, rfl⟩ := ri
  obtain ⟨its, n, r, ho, hz⟩ := I.lst hp
  obtain ⟨h1, h2, h3, h4⟩ := ixN_seq hj
  have hl := r.length
  have hn := line63
  have I' : Inv X pins σ (upd H p (.lst (xs.set j v))) { s with heap := s.heap.update p (Obj.mapSeq (·.setIfInBounds j u)) } :=
    I.lstUpd hp ho (mapSeq_set its n j u) (r.set rv j) (by rw [List.length_set]; exact hz) s.toks
  by_cases h0 : 0 <= k
  · have hk : k.toNat = j := by
      rw [seqIndex_of h0 h4] at h1
      exact Option.some.inj h1
    exact PySem.W.ki_setAt ho h0 (by omega) (by rw [List.size_toArray, <- hl]; exact h4) (by rw [hk]; exact ⟨_, I', q⟩)
  · have hk : (k + (its.toArray.size : Int)).toNat = j := by
      rw [seqIndex_neg (by omega) h3] at h1
      rw [List.size_toArray, <- hl]
      exact Option.some.inj h1
    exact PySem.W.ki_setBack ho (by omega) (by rw [List.size_toArray, <- hl]; exact h3) (by omega) (by rw [hk]; exact ⟨_, I', q⟩)
theorem slice_bounds (lo hi : Option Int) (n : Nat) : (sliceBounds lo hi none n).1 = ((HT.sIx n 0 lo : Nat) : Int) /\ (sliceBounds lo hi none n).2.1 = ((HT.sIx n n hi : Nat) : Int) /\ (sliceBounds lo hi none n).2.2 = 1 := by
  refine ⟨?_, ?_, rfl⟩
  · cases lo with
    | none => simp [sliceBounds, HT.sIx]
    | some i =>
      simp only [sliceBounds, HT.sIx, Option.getD_none, show (1 : Int) > 0 by decide, if_true]
      by_cases h : i < 0
      · simp only [h, if_true] <;> omega
      · simp only [h, if_false] <;> omega
  · cases hi with
    | none => simp [sliceBounds, HT.sIx]
    | some i =>
      simp only [sliceBounds, HT.sIx, Option.getD_none, show (1 : Int) > 0 by decide, if_true]
      by_cases h : i < 0
      · simp only [h, if_true] <;> omega
      · simp only [h, if_false] <;> omega
theorem slicePick_cut (its : List Value) (lo hi : Option Int) : slicePick its.toArray lo hi none = ((its.drop (HT.sIx its.length 0 lo)).take (HT.sIx its.length its.length hi - HT.sIx its.length 0 lo)).toArray := by
  obtain ⟨h1, h2, h3⟩ := slice_bounds lo hi its.toArray.size
  unfold slicePick
  rw [h1, h2, h3]
  simp only [sliceRange_one, pick_run, List.size_toArray] <;> rfl
def rSlL (K : PySem.W.Frag) : V -> Option Int -> Option Int -> Hp -> VK -> Prop := fun x lo hi H Q => ∃ a xs, x = .ref a /\ SqL K H a xs /\ ∀ p, H p = none -> Q (.ref p) (upd H p (.lst (cutV xs lo hi)))
theorem sl_list : SlR X (rSlL X.K) := by
  intro pins s σ H x v vl vu lo hi sl Q I rx hs pl pu h
  obtain ⟨a, xs, rfl, hx, q⟩ := h
  cases rx
  obtain ⟨its, r, ht, hz⟩ := I.list hx
  have hlen := r.length
  refine ⟨"list", _, slot_list_getitem.lookup, ht.isList.typeIs, ?_⟩
  refine wpAny_getItem_list_slice ht.isList hs pl pu .none (by simp) ?_ (by rw [List.size_toArray] <;> omega)
  rw [slicePick_cut, <- hlen]
  refine ⟨.ref s.heap.objs.size, _, I.laid (t' := s.toks) (o := .lst (cutV xs lo hi)) (fun b ob q => Heap.get?_push_of_some _ q) (Nat.le_refl _) ?_, rfl, q _ (I.hok.fresh (Nat.le_refl _))⟩
  exact ⟨Nat.le_trans (cutV_length xs lo hi) hz, _, 0, (r.drop (HT.sIx xs.length 0 lo)).take (HT.sIx xs.length xs.length hi - HT.sIx xs.length 0 lo), Heap.get?_push_size _ rfl⟩
def flatV : V -> Bool
  | .non => true
  | .bl _ => true
  | .int _ => true
  | .str _ => true
  | _ => false
def eqV : V -> V -> Bool
  | .non, .non => true
  | .bl a, .bl b => a == b
  | .bl a, .int b => (if a then 1 else 0) == b
  | .int a, .bl b => a == (if b then 1 else 0)
  | .int a, .int b => a == b
  | .str a, .str b => a == b
  | _, _ => false
theorem eqAt_V {A : Around} {s : Shared} {y x : V} {u v : Value} (ry : RelV y u) (rx : RelV x v) (fy : flatV y = true) (fx : flatV x = true) : SeqAt.EqAt A s u v (eqV y x) := by
  cases y with
  | non =>
    cases ry
    cases x with
    | non => cases rx; exact SeqAt.EqAt.same _
    | bl b => cases rx; exact SeqAt.EqAt.none_bool b
    | int b => obtain ⟨t, rfl⟩ := rx; exact SeqAt.EqAt.none_int b t
    | str b => obtain ⟨t, rfl⟩ := rx; exact SeqAt.EqAt.none_str b t
    | _ => exact absurd (show false = true from fx) Bool.false_ne_true
  | bl a =>
    cases ry
    cases x with
    | non => cases rx; exact SeqAt.EqAt.bool_none a
    | bl b => cases rx; exact SeqAt.EqAt.bool_bool a b
    | int b => obtain ⟨t, rfl⟩ := rx; exact SeqAt.EqAt.bool_int a b t
    | str b => obtain ⟨t, rfl⟩ := rx; exact SeqAt.EqAt.bool_str a b t
    | _ => exact absurd (show false = true from fx) Bool.false_ne_true
  | int a =>
    obtain ⟨t', rfl⟩ := ry
    cases x with
    | non => cases rx; exact SeqAt.EqAt.int_none a t'
    | bl b => cases rx; exact SeqAt.EqAt.int_bool a t' b
    | int b => obtain ⟨t, rfl⟩ := rx; exact SeqAt.EqAt.int_int a t' b t
    | str b => obtain ⟨t, rfl⟩ := rx; exact SeqAt.EqAt.int_str a t' b t
    | _ => exact absurd (show false = true from fx) Bool.false_ne_true
  | str a =>
    obtain ⟨t', rfl⟩ := ry
    cases x with
    | non => cases rx; exact SeqAt.EqAt.str_none a t'
    | bl b => cases rx; exact SeqAt.EqAt.str_bool a t' b
    | int b => obtain ⟨t, rfl⟩ := rx; exact SeqAt.EqAt.str_int a t' b t
    | str b => obtain ⟨t, rfl⟩ := rx; exact SeqAt.EqAt.str_str a t' b t
    | _ => exact absurd (show false = true from fx) Bool.false_ne_true
  | _ => exact absurd (show false = true from fy) Bool.false_ne_true
def eqU (x : V) (u : Value) : Bool := match u with
  | .none => eqV .non x
  | .bool b => eqV (.bl b) x
  | .int i _ => eqV (.int i) x
  | .str z _ => eqV (.str z) x
  | _ => false
theorem eqU_of {x y : V} {u : Value} (r : RelV y u) (f : flatV y = true) : eqU x u = eqV y x := by
  cases y with
  | non => cases r; rfl
  | bl b => cases r; rfl
  | int i => obtain ⟨t, rfl⟩ := r; rfl
  | str z => obtain ⟨t, rfl⟩ := r; rfl
  | _ => exact absurd (show false = true from f) Bool.false_ne_true
theorem any_eqU {x : V} : ∀ {xs : List V} {us : List Value}, Vals xs us -> xs.all flatV = true -> us.any (eqU x) = xs.any fun y => eqV y x
  | _, _, .nil, _ => rfl
  | y :: xs, u :: us, .cons r t, f => by
    rw [List.all_cons, Bool.and_eq_true] at f
    rw [List.any_cons, List.any_cons, eqU_of r f.1, any_eqU t f.2]
theorem mem_eqAt {A : Around} {s : Shared} {x : V} {v : Value} (rx : RelV x v) (fx : flatV x = true) : ∀ {xs : List V} {us : List Value}, Vals xs us -> xs.all flatV = true -> ∀ u ∈ us, SeqAt.EqAt A s u v (eqU x u)
  | _, _, .nil, _ => fun u hu => by cases hu
  | y :: xs, u :: us, .cons r t, f => fun u' hu => by
    rw [List.all_cons, Bool.and_eq_true] at f
    rcases List.mem_cons.mp hu with rfl | hu
    · rw [eqU_of r f.1]; exact eqAt_V r rx f.1 fx
    · exact mem_eqAt rx fx t f.2 u' hu
def inV (x : V) (xs : List V) : Bool := xs.any fun y => eqV y x
def rIn (K : PySem.W.Frag) (neg : Bool) : R2 := fun x y H Q => ∃ p xs, y = .ref p /\ (SqL K H p xs ∨ SqT K H p xs) /\ flatV x = true /\ xs.all flatV = true /\ Q (.bl (if neg then !inV x xs else inV x xs)) H
theorem op_notIn_seq : OpR X (compareOp .NotIn) (rIn X.K true) := by
  intro pins s σ H x y v u Q I rx ry h
  obtain ⟨p, xs, rfl, hq, fx, fs, q⟩ := h
  cases ry
  rcases hq with hq | hq
  · obtain ⟨its, r, pl, hz⟩ := I.list hq
    refine SeqAt.notIn_listAt (eqU x) pl.isList (fun w hw => mem_eqAt rx fx r fs w (by simpa using hw)) ⟨.bl _, H, I, rfl, ?_⟩
    rw [show its.toArray.any (eqU x) = its.any (eqU x) by simp, any_eqU r fs]
    exact q
  · obtain ⟨its, r, pl, hz⟩ := I.tuple hq
    refine SeqAt.notIn_tupleAt (eqU x) pl (fun w hw => mem_eqAt rx fx r fs w (by simpa using hw)) ⟨.bl _, H, I, rfl, ?_⟩
    rw [show its.toArray.any (eqU x) = its.any (eqU x) by simp, any_eqU r fs]
    exact q
theorem call_len_seq : CallR X (.builtin "len") (fun xs H Q => ∃ p ys, xs = [.ref p] /\ (SqL X.K H p ys ∨ SqT X.K H p ys) /\ Q (.int ys.length) H) := by
  intro pins s σ H xs us Q I r h
  obtain ⟨p, ys, rfl, hq, q⟩ := h
  obtain ⟨u, rfl, rx⟩ := vals1 r
  cases rx
  have hn := line63
  rcases hq with hq | hq
  · obtain ⟨its, r', pl, hz⟩ := I.list hq
    have hlen := r'.length
    exact Calls.call_len_list pl.isList (by simp only [List.size_toArray] <;> omega) ⟨.int ys.length, H, I.tok _, ⟨s.toks + 1, by rw [List.size_toArray, hlen]⟩, q⟩
  · obtain ⟨its, r', pl, hz⟩ := I.tuple hq
    have hlen := r'.length
    exact len_tuple pl (by simp only [List.size_toArray] <;> omega) ⟨.int ys.length, H, I.tok _, ⟨s.toks + 1, by rw [List.size_toArray, hlen]⟩, q⟩
theorem call_len_str : CallR X (.builtin "len") (fun xs H Q => ∃ z, xs = [.str z] /\ z.length <= sizeLine /\ Q (.int z.length) H) := by
  intro pins s σ H xs us Q I r h
  obtain ⟨z, rfl, hz, q⟩ := h
  obtain ⟨u, rfl, t, rfl⟩ := vals1 r
  have hn := line63
  exact len_str (by omega) ⟨.int z.length, H, I.tok _, ⟨_, rfl⟩, q⟩
theorem call_tuple_of : CallR X (.type "tuple") (fun xs H Q => ∃ p ys, xs = [.ref p] /\ ((SqL X.K H p ys /\ ∀ l, H l = none -> Q (.ref l) (upd H l (.tup ys))) ∨ (SqT X.K H p ys /\ Q (.ref p) H))) := by
  intro pins s σ H xs us Q I r h
  obtain ⟨p, ys, rfl, h⟩ := h
  obtain ⟨u, rfl, rx⟩ := vals1 r
  cases rx
  rcases h with ⟨hq, q⟩ | ⟨hq, q⟩
  · obtain ⟨its, r', pl, hz⟩ := I.list hq
    have hlen := r'.length
    refine call_tuple_list pl.isList (fun h' kp => ?_) (by simp only [List.size_toArray] <;> omega)
    have I1 : Inv X pins σ H { s with heap := h' } := I.kept (t' := s.toks) kp
    have I2 : Inv X pins σ (upd H h'.objs.size (.tup ys)) { s with heap := h'.push { cls := .type "tuple", data := .seq its.toArray } } :=
      I1.laid (t' := s.toks) (fun b o e => Heap.get?_push_of_some _ e) (Nat.le_refl _) (show ObjOk X.prog X.w _ _ _ (.tup ys) from ⟨hz, its, r', IsTup.new _ _, _, Heap.get?_push_size _ rfl, rfl⟩)
    exact ⟨.ref h'.objs.size, _, I2, rfl, q _ (I1.hok.fresh (Nat.le_refl _))⟩
  · obtain ⟨its, r', pl, hz⟩ := I.tuple hq
    exact call_tuple_same pl ⟨.ref p, H, I, rfl, q⟩
def tyV (K : PySem.W.Frag) (T : String) (x : V) (H : Hp) : Prop := match x with
  | .str _ => T = "str"
  | .int _ => T = "int"
  | .ref p => (T = "list" /\ ∃ xs, SqL K H p xs) ∨ (T = "tuple" /\ ∃ o, K.lookup p = some o /\ o.cls = .type "tuple" /\ o.dict = none) ∨
      (T = "dict" /\ ((∃ kvs, H p = some (.dK kvs)) ∨ ∃ kvs, H p = some (.dT kvs))) ∨ (T = "set" /\ ∃ S n, H p = some (.set S n))
  | _ => False
theorem tyV_is {pins : List (Addr × Obj)} {σ : St} {H : Hp} {s : Shared} {T : String} {x : V} {v : Value} (I : Inv X pins σ H s) (r : RelV x v) (ty : tyV X.K T x H) :
    s.TypeIs v T /\ ∀ a, v = .ref a -> ∃ ob, s.heap.get? a = some ob /\ ob.dict = none := by
  cases x with
  | str z =>
    obtain ⟨t, rfl⟩ := r
    cases (show T = "str" from ty)
    exact ⟨typeIs_str s z t, fun _ e => nomatch e⟩
  | int i =>
    obtain ⟨t, rfl⟩ := r
    cases (show T = "int" from ty)
    exact ⟨typeIs_int s i t, fun _ e => nomatch e⟩
  | ref p =>
    cases r
    rcases ty with ⟨rfl, xs, hq⟩ | ⟨rfl, o, hk, hc, hd⟩ | ⟨rfl, hk⟩ | ⟨rfl, S, n, hk⟩
    · obtain ⟨its, _, pl, _⟩ := I.list hq
      refine ⟨pl.isList.typeIs, fun a e => ?_⟩
      cases e
      obtain ⟨o, n, e, c, hd, _⟩ := pl
      exact ⟨o, e, hd⟩
    · refine ⟨⟨o, I.kIn p o hk, hc⟩, fun a e => ?_⟩
      cases e
      exact ⟨o, I.kIn _ o hk, hd⟩
    · have z : ∃ o, s.heap.get? p = some o /\ o.ExactDict := by
        rcases hk with ⟨kvs, hk⟩ | ⟨kvs, hk⟩
        · obtain ⟨_, _, _, _, o, _, _, e, ex, _⟩ := I.hok p _ hk
          exact ⟨o, e, ex⟩
        · obtain ⟨_, _, _, _, o, _, _, e, ex, _⟩ := I.hok p _ hk
          exact ⟨o, e, ex⟩
      obtain ⟨o, e, ex⟩ := z
      refine ⟨⟨o, e, ex.1⟩, fun a e2 => ?_⟩
      cases e2
      exact ⟨o, e, ex.2.1⟩
    · obtain ⟨o, _, _, _, e, ex, _⟩ := I.hok p _ hk
      refine ⟨⟨o, e, ex.1⟩, fun a e2 => ?_⟩
      cases e2
      exact ⟨o, e, ex.2.1⟩
  | _ => exact False.elim ty
def tBM0 (K : PySem.W.Frag) (T : String) (r : V -> List V -> Hp -> VK -> Prop) (to : TE) : TE := fun σ H Q => to σ H fun x H1 => tyV K T x H1 /\ r x [] H1 Q
def tBM (K : PySem.W.Frag) (T : String) (r : V -> List V -> Hp -> VK -> Prop) (to : TE) (t : TA) : TE := fun σ H Q => to σ H fun x H1 => tyV K T x H1 /\ t σ H1 fun xs H2 => r x xs H2 Q
variable {o e : Expr} {es : List Expr} {to : TE} {t : TA} {name : Str} {apos cpos : Pos} {T id : String} {r : V -> List V -> Hp -> VK -> Prop}
theorem pe_bm0 (pa : PlainAttrs T) (slot : Slot T name id) (hty : typeOf (.builtin id) = pure (.type "method_descriptor")) (hm : MtR X id r) (ho : PE X o to)
    (hbase : attributeBase o name X.env (eval o X.env) = eval o X.env := by rfl) (hline : (apos.endLine == cpos.line) = true := by rfl) : PE X (.Call (.Attribute o name apos) [] [] cpos) (tBM0 X.K T r to) := by
  intro pins s σ H Q I h
  refine wpAny_Call_method0_late hbase hline (thn (ho pins s σ H _ I h) fun v s1 ⟨x, H1, I1, r1, ty, q1⟩ => ?_)
  obtain ⟨h1, h2⟩ := tyV_is I1 r1 ty
  exact ⟨T, id, pa, slot, hty, h1, h2, Calls.callWith_builtin rfl (PySem.evalArgs_none (hm pins s1 σ H1 x [] v [] Q I1 r1 .nil q1))⟩
theorem pe_bm (pa : PlainAttrs T) (slot : Slot T name id) (hty : typeOf (.builtin id) = pure (.type "method_descriptor")) (hm : MtR X id r) (ho : PE X o to) (ha : PA X (e :: es) t)
    (hbase : attributeBase o name X.env (eval o X.env) = eval o X.env := by rfl)
    (hfew : ((backTo cpos (starEach (e :: es) X.env)).all (fun x => !x.1) && (backToKw cpos (keywordEach [] X.env)).all (fun x => x.1.isSome)
      && decide ((e :: es).length + ([] : List Keyword).length + (if ([] : List Keyword).isEmpty then 0 else 1) < 30)) = true := by rfl)
    (hline : (apos.endLine == cpos.line) = true := by rfl) (hs : starEach (e :: es) X.env = (false, eval e X.env) :: starEach es X.env := by rfl) (hplain : (backTo cpos (starEach es X.env)).any (·.1) = false := by rfl) :
    PE X (.Call (.Attribute o name apos) (e :: es) [] cpos) (tBM X.K T r to t) := by
  intro pins s σ H Q I h
  refine wpAny_Call_method_late hbase hfew hline rfl (thn (ho pins s σ H _ I h) fun v s1 ⟨x, H1, I1, r1, ty, q1⟩ => ?_)
  obtain ⟨h1, h2⟩ := tyV_is I1 r1 ty
  refine ⟨T, id, pa, slot, hty, h1, h2, ?_⟩
  have hA := ha cpos pins s1 σ H1 _ I1 q1
  rw [hs] at hA ⊢
  refine Calls.callWith_builtin (by show (false || (backTo cpos (starEach es X.env)).any (·.1)) = false; rw [hplain] <;> rfl) (Calls.evalArgs_plain ?_)
  exact thn hA fun us s2 ⟨vs, H2, I2, r2, q2⟩ => hm pins s2 σ H2 x vs v us Q I2 r1 r2 q2
/- xs.append(e), list.index on a module's tuple .. are MtR facts of 06m -/
end
end L2
namespace L2
open PySem PySem.Spec PyProof.Rows
def MtM (X : Cx) (id : String) (r : V -> List V -> Hp -> VK -> Prop) : Prop :=
  ∀ (pins : List (Addr × Obj)) (s : Shared) (σ : St) (H : Hp) (x : V) (xs : List V) (v : Value) (us : List Value) (Q : VK), Inv X pins σ H s -> RelV x v -> Vals xs us -> r x xs H Q ->
    wpAny (model X.prog X.w) X.A (call (.builtin id) (v :: us)) (EP X pins σ Q) X.xe s
theorem Vals.one : ∀ {x : V} {us : List Value}, Vals [x] us -> ∃ u, us = [u] /\ RelV x u
  | _, _, .cons r .nil => ⟨_, rfl, r⟩
theorem Vals.two : ∀ {x y : V} {us : List Value}, Vals [x, y] us -> ∃ u v, us = [u, v] /\ RelV x u /\ RelV y v
  | _, _, _, .cons r (.cons q .nil) => ⟨_, _, rfl, r, q⟩
section
variable {X : Cx} {pins : List (Addr × Obj)} {σ : St} {H : Hp} {s : Shared} {l b : Addr} {xs ys zs : List V}
theorem Inv.lset {its its' : List Value} {n : Nat} {f : Array Value -> Array Value} {t' : Nat} (I : Inv X pins σ H s) (hH : H l = some (.lst xs))
    (e : s.heap.get? l = some { cls := .type "list", data := .seq its.toArray n }) (hf : f its.toArray = its'.toArray) (hv : Vals ys its') (hz : ys.length <= sizeLine) :
    Inv X pins σ (upd H l (.lst ys)) { s with heap := s.heap.update l (Obj.mapSeq f), toks := t' } := by
  have q := PySem.IsL.update e f
  rw [hf] at q
  refine I.write (x := l) (e := l) (by rw [hH]; exact trivial) (.inl rfl) (fun b' u hb hu => (Heap.get?_update_other s.heap (Obj.mapSeq f) (Ne.symm hb)).trans hu) ⟨_, q⟩ ?_
  exact ⟨hz, its', _, hv, q⟩
theorem Inv.lnew {its : List Value} {t' : Nat} (I : Inv X pins σ H s) (hv : Vals ys its) (hz : ys.length <= sizeLine) :
    Inv X pins σ (upd H s.heap.objs.size (.lst ys)) { s with heap := s.heap.push { cls := .type "list", data := .seq its.toArray }, toks := t' } :=
  I.laid (fun _ _ q => Heap.get?_push_of_some _ q) (Nat.le_refl _) ⟨hz, its, 0, hv, Heap.get?_push_size _ rfl⟩
theorem Inv.fresh (I : Inv X pins σ H s) : H s.heap.objs.size = none := I.hok.fresh (Nat.le_refl _)
theorem Inv.lstM (I : Inv X pins σ H s) (hH : H l = some (.lst xs)) : xs.length <= sizeLine /\ ∃ (its : List Value) (n : Nat), Vals xs its /\ xs.length = its.length /\ s.heap.get? l = some { cls := .type "list", data := .seq its.toArray n } := by
  obtain ⟨z, its, n, r, e⟩ := I.hok l _ hH
  exact ⟨z, its, n, r, r.length, e⟩
theorem notLongL {n : Nat} (h : n <= sizeLine) : Builtin.List.listTooLong n = false := by
  unfold Builtin.List.listTooLong
  exact decide_eq_false (by omega)
end
section
variable {X : Cx}
def rAppend : V -> List V -> Hp -> VK -> Prop := fun x vs H Q => ∃ l xs y, x = .ref l /\ vs = [y] /\ H l = some (.lst xs) /\ xs.length < sizeLine /\ Q .non (upd H l (.lst (xs ++ [y])))
theorem mt_append : MtM X "list.append" rAppend := by
  intro pins s σ H x vs v us Q I rx rv h
  obtain ⟨l, xs, y, rfl, rfl, hH, hz, q⟩ := h
  cases rx
  obtain ⟨u, rfl, ru⟩ := rv.one
  obtain ⟨z, its, n, r, hl, e⟩ := I.lstM hH
  refine call_meets F.slot_list_append ⟨_, e, rfl⟩ F.entry_list_append (F.args_list_append_2 _ _) (PySem.list_append l its.toArray n u (by rw [List.size_toArray]; omega)) ⟨e, ?_⟩
  refine ⟨.non, _, I.lset (its' := its ++ [u]) hH e (by simp) (r.append (.cons ru .nil)) ?_, rfl, q⟩
  rw [List.length_append, List.length_singleton]
  omega
def rExtend : V -> List V -> Hp -> VK -> Prop := fun x vs H Q => ∃ l b xs zs, x = .ref l /\ vs = [.ref b] /\ H l = some (.lst xs) /\ H b = some (.lst zs) /\ xs.length + zs.length <= sizeLine /\ Q .non (upd H l (.lst (xs ++ zs)))
theorem mt_extend : MtM X "list.extend" rExtend := by
  intro pins s σ H x vs v us Q I rx rv h
  obtain ⟨l, b, xs, zs, rfl, rfl, hH, hB, hz, q⟩ := h
  cases rx
  obtain ⟨u, rfl, ru⟩ := rv.one
  cases ru
  obtain ⟨z, its, n, r, hl, e⟩ := I.lstM hH
  obtain ⟨z2, its2, n2, r2, hl2, e2⟩ := I.lstM hB
  have hsz : its.toArray.size + its2.toArray.size <= sizeLine := by rw [List.size_toArray, List.size_toArray]; omega
  have hlong : ¬ (!its.toArray.isEmpty && Builtin.List.listTooLong (its.toArray.size + its2.toArray.size)) = true := by
    rw [notLongL hsz, Bool.and_false]
    exact Bool.false_ne_true
  refine call_meets F.slot_list_extend ⟨_, e, rfl⟩ F.entry_list_extend (F.args_list_extend_2 _ _)
    (AutoSeq1.list_extend_list_list_0 l its.toArray n b its2.toArray n2 hlong (by rw [List.size_toArray]; omega) (by omega)) ⟨e, e2, ?_⟩
  refine ⟨.non, _, I.lset (its' := its ++ its2) hH e (by simp) (r.append r2) ?_, rfl, q⟩
  rw [List.length_append]
  omega
def rCat : R2 := fun x y H Q => ∃ l b xs zs, x = .ref l /\ y = .ref b /\ H l = some (.lst xs) /\ H b = some (.lst zs) /\ xs.length + zs.length <= sizeLine /\ ∀ p, H p = none -> Q (.ref p) (upd H p (.lst (xs ++ zs)))
theorem op_cat : OpR X (binaryOp .Add) rCat := by
  intro pins s σ H x y v u Q I rx ry h
  obtain ⟨l, b, xs, zs, rfl, rfl, hH, hB, hz, q⟩ := h
  cases rx
  cases ry
  obtain ⟨z, its, n, r, hl, e⟩ := I.lstM hH
  obtain ⟨z2, its2, n2, r2, hl2, e2⟩ := I.lstM hB
  refine PySem.P.add_list e e2 ?_ (by rw [List.size_toArray, List.size_toArray]; omega)
  have ea : its.toArray ++ its2.toArray = (its ++ its2).toArray := by simp
  rw [ea]
  exact ⟨.ref _, _, I.lnew (t' := s.toks) (r.append r2) (by rw [List.length_append]; omega), rfl, q _ I.fresh⟩
end
section
variable {prog : Program} {w : World} {A : Around} {E : Value -> Shared -> Prop} {s : Shared}
end
section
variable {X : Cx}
end
end L2
namespace L2
open PySem PySem.Spec PyProof.Rows
section
variable {κ : Type} [DecidableEq κ]
def valV (kvs : List (κ × V)) (k : κ) : Option V := (kvs.find? fun kv => decide (kv.1 = k)).map (·.2)
def putK (kvs : List (κ × V)) (k : κ) (v : V) : List (κ × V) :=
  if (kvs.any fun kv => decide (kv.1 = k)) = true then kvs.map (fun kv => if kv.1 = k then (kv.1, v) else kv) else kvs ++ [(k, v)]
theorem valV_pos {p : κ × V} {r : List (κ × V)} {k : κ} (e : p.1 = k) : valV (p :: r) k = some p.2 := by simp [valV, List.find?_cons, e]
theorem valV_neg {p : κ × V} {r : List (κ × V)} {k : κ} (e : ¬ p.1 = k) : valV (p :: r) k = valV r k := by simp [valV, List.find?_cons, e]
theorem valV_any (k : κ) : ∀ kvs : List (κ × V), (kvs.any fun kv => decide (kv.1 = k)) = (valV kvs k).isSome
  | [] => rfl
  | p :: r => by
    rw [List.any_cons]
    by_cases e : p.1 = k
    · simp only [valV_pos e, decide_eq_true e, Bool.true_or, Option.isSome_some]
    · rw [valV_neg e, decide_eq_false e, Bool.false_or]; exact valV_any k r
theorem length_putK (kvs : List (κ × V)) (k : κ) (v : V) : (putK kvs k v).length <= kvs.length + 1 := by
  unfold putK
  split
  · rw [List.length_map]; omega
  · rw [List.length_append, List.length_cons, List.length_nil]; omega
theorem putK_new {kvs : List (κ × V)} {k : κ} (v : V) (h : valV kvs k = none) : putK kvs k v = kvs ++ [(k, v)] := by
  unfold putK
  rw [valV_any, h]
  exact if_neg (by decide)
theorem RelO.isSome_eq {o : Option V} {u : Option Value} (r : RelO o u) : o.isSome = u.isSome := by
  cases o with
  | none => cases u with
    | none => rfl
    | some _ => exact (show False from r).elim
  | some _ => cases u with
    | none => exact (show False from r).elim
    | some _ => rfl
theorem KV.val {kvs : List (κ × V)} {vs : List (κ × Value)} (r : KV kvs vs) (k : κ) : RelO (valV kvs k) (valueAt vs k) := by
  unfold KV at r
  induction r with
  | nil => exact True.intro
  | @cons p q ps qs h t ih =>
    obtain ⟨h1, h2⟩ := h
    by_cases e : p.1 = k
    · have e' : q.1 = k := h1.symm.trans e
      have b : valueAt (q :: qs) k = some q.2 := by simp [valueAt, List.find?_cons, e']
      rw [valV_pos e, b]; exact h2
    · have e' : ¬ q.1 = k := fun z => e (h1.trans z)
      have b : valueAt (q :: qs) k = valueAt qs k := by simp [valueAt, List.find?_cons, e']
      rw [valV_neg e, b]; exact ih
theorem KV.any {kvs : List (κ × V)} {vs : List (κ × Value)} (r : KV kvs vs) (k : κ) : (kvs.any fun kv => decide (kv.1 = k)) = vs.any fun kv => decide (kv.1 = k) := by
  unfold KV at r
  induction r with
  | nil => rfl
  | cons h t ih => rw [List.any_cons, List.any_cons, ih, h.1]
theorem KV.repl {kvs : List (κ × V)} {vs : List (κ × Value)} (r : KV kvs vs) (k : κ) {y : V} {u : Value} (ry : RelV y u) :
    KV (kvs.map fun kv => if kv.1 = k then (kv.1, y) else kv) (vs.map fun kv => if kv.1 = k then (kv.1, u) else kv) := by
  unfold KV at r ⊢
  induction r with
  | nil => exact .nil
  | @cons p q ps qs h t ih =>
    rw [List.map_cons, List.map_cons]
    refine .cons ?_ ih
    obtain ⟨h1, h2⟩ := h
    by_cases e : p.1 = k
    · rw [if_pos e, if_pos (h1.symm.trans e)]; exact ⟨h1, ry⟩
    · rw [if_neg e, if_neg (fun z => e (h1.trans z))]; exact ⟨h1, h2⟩
theorem KV.put {kvs : List (κ × V)} {vs : List (κ × Value)} (r : KV kvs vs) (k : κ) {y : V} {u : Value} (ry : RelV y u) : KV (putK kvs k y) (stored vs k u) := by
  unfold putK stored
  rw [r.any k]
  by_cases e : (vs.any fun kv => decide (kv.1 = k)) = true
  · rw [if_pos e, if_pos e]; exact r.repl k ry
  · rw [if_neg e, if_neg e]; exact Paired.snoc r ⟨rfl, ry⟩
theorem KV.keys {kvs : List (κ × V)} {vs : List (κ × Value)} (r : KV kvs vs) : kvs.map (·.1) = vs.map (·.1) := by
  unfold KV at r
  induction r with
  | nil => rfl
  | cons h t ih => rw [List.map_cons, List.map_cons, ih, h.1]
theorem KV.length {kvs : List (κ × V)} {vs : List (κ × Value)} (r : KV kvs vs) : kvs.length = vs.length := Paired.length r
end
theorem kV_is {P : Program} {w : World} {k : Key} {u : Value} (r : RelV (kV k) u) : (mixKind P w).is k u = true := by
  cases k with
  | inl i => obtain ⟨t, e⟩ := (show ∃ t, u = Value.int i t from r); subst e; exact mixKind_int P w i t
  | inr x => obtain ⟨t, e⟩ := (show ∃ t, u = Value.str x t from r); subst e; exact mixKind_str P w x t
theorem items_are {P : Program} {w : World} : ∀ {ks : List Key} {us : List Value}, Vals (ks.map kV) us -> ItemsAre (mixKind P w) ks us
  | [], _, r => by rw [List.map_nil] at r; cases r; exact .nil
  | k :: ks, _, r => by
    rw [List.map_cons] at r
    cases r with
    | cons h t => exact .cons (kV_is h) (items_are t)
abbrev KT (H : Hp) : List (List Key × V) -> List (List Key × Addr × Value) -> Prop := Paired fun p q => p.1 = q.1 /\ H q.2.1 = some (.tup (p.1.map kV)) /\ RelV p.2 q.2.2
theorem KT.val {H : Hp} {kvs : List (List Key × V)} {xs : List (List Key × Addr × Value)} (r : KT H kvs xs) (k : List Key) : RelO (valV kvs k) ((atKey xs k).map (·.2)) := by
  induction r with
  | nil => exact True.intro
  | @cons p q ps qs h t ih =>
    obtain ⟨h1, _, h2⟩ := h
    by_cases e : p.1 = k
    · have e' : q.1 = k := h1.symm.trans e
      have b : atKey (q :: qs) k = some q.2 := by simp [atKey, List.find?_cons, e']
      rw [valV_pos e, b]; exact h2
    · have e' : ¬ q.1 = k := fun z => e (h1.trans z)
      have b : atKey (q :: qs) k = atKey qs k := by simp [atKey, List.find?_cons, e']
      rw [valV_neg e, b]; exact ih
theorem KT.repl {H : Hp} {kvs : List (List Key × V)} {xs : List (List Key × Addr × Value)} (r : KT H kvs xs) (k : List Key) {y : V} {u : Value} (ry : RelV y u) :
    KT H (kvs.map fun kv => if kv.1 = k then (kv.1, y) else kv) (xs.map (putAt k u)) := by
  induction r with
  | nil => exact .nil
  | @cons p q ps qs h t ih =>
    rw [List.map_cons, List.map_cons]
    refine .cons ?_ ih
    obtain ⟨h1, h2, h3⟩ := h
    unfold putAt
    by_cases e : p.1 = k
    · rw [if_pos e, if_pos (h1.symm.trans e)]; exact ⟨h1, h2, ry⟩
    · rw [if_neg e, if_neg (fun z => e (h1.trans z))]; exact ⟨h1, h2, h3⟩
theorem KT.put {H : Hp} {kvs : List (List Key × V)} {xs : List (List Key × Addr × Value)} (r : KT H kvs xs) (k : List Key) {b : Addr} {y : V} {u : Value} (hb : H b = some (.tup (k.map kV))) (ry : RelV y u) :
    KT H (putK kvs k y) (storedH xs k b u) := by
  have e : (kvs.any fun kv => decide (kv.1 = k)) = (atKey xs k).isSome := by
    rw [valV_any, (r.val k).isSome_eq, Option.isSome_map]
  unfold putK storedH
  rw [e]
  by_cases q : (atKey xs k).isSome = true
  · rw [if_pos q, if_pos q]; exact r.repl k ry
  · rw [if_neg q, if_neg q]; exact Paired.snoc r ⟨rfl, hb, ry⟩
theorem KT.keeps {H H' : Hp} {kvs : List (List Key × V)} {xs : List (List Key × Addr × Value)} (r : KT H kvs xs) (ht : ∀ b ys, H b = some (.tup ys) -> H' b = some (.tup ys)) : KT H' kvs xs :=
  Paired.mapP r fun _ _ z => ⟨z.1, ht _ _ z.2.1, z.2.2⟩
section
variable {P : Program} {w : World} {H : Hp} {h : Heap} {a : Addr}
theorem rd_of {u : HO} (ok : HOk P w H h) (e : Rd H a u) : ObjOk P w H h a u := e.ok ok
theorem dk_rd {kvs : List (Key × V)} (ok : HOk P w H h) (e : Rd H a (.dK kvs)) : kvs.length <= sizeLine /\ (a == sysModules) = false /\ ∃ vs, KV kvs vs /\ h.DictOf (mixKind P w) a vs :=
  show ObjOk P w H h a (.dK kvs) from rd_of ok e
theorem dk_of {kvs : List (Key × V)} (ok : HOk P w H h) (e : H a = some (.dK kvs)) : kvs.length <= sizeLine /\ (a == sysModules) = false /\ ∃ vs, KV kvs vs /\ h.DictOf (mixKind P w) a vs := dk_rd ok (.inl e)
theorem key_of {ks : List Key} (ok : HOk P w H h) (e : H a = some (.tup (ks.map kV))) : (tupleKind (mixKind P w)).is h ks a := by
  obtain ⟨_, its, r, ⟨o, h1, h2, n, h3⟩, _⟩ := (show ObjOk P w H h a (.tup (ks.map kV)) from ok a _ e)
  exact ⟨o, its.toArray, n, h1, h2, h3, by simpa using items_are r⟩
theorem dt_rd {kvs : List (List Key × V)} (ok : HOk P w H h) (e : Rd H a (.dT kvs)) : kvs.length <= sizeLine /\ (a == sysModules) = false /\
    ∃ xs, KT H kvs xs /\ h.DictOfH (tupleKind (mixKind P w)) a xs := by
  obtain ⟨z, y, xs, r, o, es, ep, h1, h2, h3, h4, h5⟩ := (show ObjOk P w H h a (.dT kvs) from rd_of ok e)
  refine ⟨z, y, xs, r, o, es, ep, h1, h2, h3, h4, fun x hx => ?_, h5⟩
  have all : ∀ {l : List (List Key × V)} {m : List (List Key × Addr × Value)}, KT H l m -> ∀ x ∈ m, (tupleKind (mixKind P w)).is h x.1 x.2.1 := by
    intro l m q
    induction q with
    | nil => intro x hx; exact nomatch hx
    | @cons p q ps qs hq t ih =>
      intro x hx
      rcases List.mem_cons.mp hx with e | hx
      · subst e
        exact key_of ok (by rw [<- hq.1]; exact hq.2.1)
      · exact ih x hx
  exact all r x hx
theorem dt_of {kvs : List (List Key × V)} (ok : HOk P w H h) (e : H a = some (.dT kvs)) : kvs.length <= sizeLine /\ (a == sysModules) = false /\
    ∃ xs, KT H kvs xs /\ h.DictOfH (tupleKind (mixKind P w)) a xs := dt_rd ok (.inl e)
end
def DGet (H : Hp) (a : Addr) (y : V) (r : Option V) : Prop :=
  (∃ kvs k, Rd H a (.dK kvs) /\ y = kV k /\ r = valV kvs k) ∨ ∃ kvs k b, Rd H a (.dT kvs) /\ y = .ref b /\ H b = some (.tup (k.map kV)) /\ r = valV kvs k
def DPut (H : Hp) (a : Addr) (y v : V) (H' : Hp) : Prop :=
  (∃ kvs k, H a = some (.dK kvs) /\ y = kV k /\ kvs.length < sizeLine /\ H' = upd H a (.dK (putK kvs k v))) ∨
  ∃ kvs k b, H a = some (.dT kvs) /\ y = .ref b /\ H b = some (.tup (k.map kV)) /\ kvs.length < sizeLine /\ H' = upd H a (.dT (putK kvs k v))
theorem DGet.k {H : Hp} {a : Addr} {kvs : List (Key × V)} {k : Key} (e : H a = some (.dK kvs)) : DGet H a (kV k) (valV kvs k) := .inl ⟨kvs, k, .inl e, rfl, rfl⟩
theorem DGet.t {H : Hp} {a b : Addr} {kvs : List (List Key × V)} {k : List Key} (e : H a = some (.dT kvs)) (eb : H b = some (.tup (k.map kV))) : DGet H a (.ref b) (valV kvs k) := .inr ⟨kvs, k, b, .inl e, rfl, eb, rfl⟩
theorem DPut.k {H : Hp} {a : Addr} {kvs : List (Key × V)} {k : Key} {v : V} (e : H a = some (.dK kvs)) (hl : kvs.length < sizeLine) : DPut H a (kV k) v (upd H a (.dK (putK kvs k v))) := .inl ⟨kvs, k, e, rfl, hl, rfl⟩
theorem DPut.t {H : Hp} {a b : Addr} {kvs : List (List Key × V)} {k : List Key} {v : V} (e : H a = some (.dT kvs)) (eb : H b = some (.tup (k.map kV))) (hl : kvs.length < sizeLine) :
    DPut H a (.ref b) v (upd H a (.dT (putK kvs k v))) := .inr ⟨kvs, k, b, e, rfl, eb, hl, rfl⟩
section
variable {X : Cx} {pins : List (Addr × Obj)} {σ : St} {H : Hp} {s : Shared} {a : Addr} {y v : V} {u r : Value} {o : Option V} {A : Around} {E : Value -> Shared -> Prop}
theorem Inv.big (I : Inv X pins σ H s) : sysModules < s.heap.objs.size := by
  have h : mainGlobals < s.heap.objs.size := (I.mod.glob.keeps I.bk).lt
  exact Nat.lt_trans (by decide) h
theorem d_getItem {Q : Value -> Shared -> Prop} (hu : A.units + 1 < cLine) (I : Inv X pins σ H s) (g : DGet H a y (some v)) (ry : RelV y u) (h : ∀ w' s', Inv X pins σ H s' -> RelV v w' -> Q w' s') :
    wpAny (model X.prog X.w) A (getItem (.ref a) u) Q E s := by
  rcases g with ⟨kvs, k, e, ey, l⟩ | ⟨kvs, k, b, e, ey, eb, l⟩
  · subst ey
    obtain ⟨z, hd, vs, rel, dd⟩ := dk_rd I.hok e
    obtain ⟨w', hw, rw'⟩ := RelO.some_of (v := v) (o := valueAt vs k) (by rw [l]; exact rel.val k)
    exact wpAny_getItem_of (kV_is ry) dd.mapOf hw (h w' _ (I.tok _) rw')
  · subst ey
    cases (show u = Value.ref b from ry)
    obtain ⟨z, hd, xs, rel, dd⟩ := dt_rd I.hok e
    obtain ⟨w', hw, rw'⟩ := RelO.some_of (v := v) (o := (atKey xs k).map (·.2)) (by rw [l]; exact rel.val k)
    obtain ⟨p, hp, hp2⟩ := Option.map_eq_some_iff.mp hw
    refine wpAny_getItem_heap (tupleKind_room_in1 hu) (key_of I.hok eb) dd hp ?_
    rw [hp2]
    exact h w' _ (I.tok _) rw'
theorem d_in {Q : Value -> Shared -> Prop} (hu : A.units + 1 < cLine) (I : Inv X pins σ H s) (g : DGet H a y o) (ry : RelV y u) (h : ∀ s', Inv X pins σ H s' -> Q (.bool o.isSome) s') :
    wpAny (model X.prog X.w) A (compareOp .In u (.ref a)) Q E s := by
  rcases g with ⟨kvs, k, e, ey, l⟩ | ⟨kvs, k, b, e, ey, eb, l⟩
  · subst ey
    obtain ⟨z, hd, vs, rel, dd⟩ := dk_rd I.hok e
    refine wpAny_in_of (kV_is ry) hd dd.mapOf ?_
    rw [<- (rel.val k).isSome_eq, <- l]
    exact h _ (I.tok _)
  · subst ey
    cases (show u = Value.ref b from ry)
    obtain ⟨z, hd, xs, rel, dd⟩ := dt_rd I.hok e
    refine wpAny_in_heap (tupleKind_room_in1 hu) (key_of I.hok eb) hd dd ?_
    have q := (rel.val k).isSome_eq
    rw [Option.isSome_map] at q
    rw [<- q, <- l]
    exact h _ (I.tok _)
theorem d_notIn {Q : Value -> Shared -> Prop} (hu : A.units + 1 < cLine) (I : Inv X pins σ H s) (g : DGet H a y o) (ry : RelV y u) (h : ∀ s', Inv X pins σ H s' -> Q (.bool (!o.isSome)) s') :
    wpAny (model X.prog X.w) A (compareOp .NotIn u (.ref a)) Q E s := by
  rcases g with ⟨kvs, k, e, ey, l⟩ | ⟨kvs, k, b, e, ey, eb, l⟩
  · subst ey
    obtain ⟨z, hd, vs, rel, dd⟩ := dk_rd I.hok e
    refine wpAny_notIn_of (kV_is ry) hd dd.mapOf ?_
    rw [<- (rel.val k).isSome_eq, <- l]
    exact h _ (I.tok _)
  · subst ey
    cases (show u = Value.ref b from ry)
    obtain ⟨z, hd, xs, rel, dd⟩ := dt_rd I.hok e
    refine wpAny_notIn_heap (tupleKind_room_in1 hu) (key_of I.hok eb) hd dd ?_
    have q := (rel.val k).isSome_eq
    rw [Option.isSome_map] at q
    rw [<- q, <- l]
    exact h _ (I.tok _)
theorem d_write {h' : Heap} {t' : Nat} {ob : HO} (I : Inv X pins σ H s) (mu : Mut (H a)) (hs : Heap.SameBut a s.heap h') (he : ∃ q, h'.get? a = some q) (new : ObjOk X.prog X.w (upd H a ob) h' a ob) :
    Inv X pins σ (upd H a ob) { s with heap := h', toks := t' } :=
  I.write (x := a) (e := a) mu (.inl rfl) (fun b q hb z => (hs.2 b hb).trans z) he new
theorem dk_new {P : Program} {w : World} {H' : Hp} {h' : Heap} {kvs : List (Key × V)} {vs : List (Key × Value)} (z : kvs.length <= sizeLine) (hd : (a == sysModules) = false) (rel : KV kvs vs) (dd : h'.DictOf (mixKind P w) a vs) :
    ObjOk P w H' h' a (.dK kvs) := ⟨z, hd, vs, rel, dd⟩
theorem d_setItem {H' : Hp} {Q : Unit -> Shared -> Prop} (hu : A.units + 1 < cLine) (I : Inv X pins σ H s) (g : DPut H a y v H') (ry : RelV y u) (rv : RelV v r) (h : ∀ s', Inv X pins σ H' s' -> Q () s') :
    wpAny (model X.prog X.w) A (setItem (.ref a) u r) Q E s := by
  rcases g with ⟨kvs, k, e, ey, l, eH⟩ | ⟨kvs, k, b, e, ey, eb, l, eH⟩
  · subst ey eH
    obtain ⟨z, hd, vs, rel, dd⟩ := dk_of I.hok e
    have hz : vs.length <= sizeLine := by rw [<- rel.length]; exact z
    have hl : (putK kvs k v).length <= sizeLine := by have := length_putK kvs k v; omega
    refine wpAny_setItem_pairs (hsz := hz) (kV_is ry) dd fun h' dd' hs => h _ ?_
    have he : ∃ q, h'.get? a = some q := let ⟨q, _, _, hq, _⟩ := dd'; ⟨q, hq⟩
    exact d_write I (by rw [e]; exact True.intro) hs he (dk_new hl hd (rel.put k rv) dd')
  · subst ey eH
    cases (show u = Value.ref b from ry)
    obtain ⟨z, hd, xs, rel, dd⟩ := dt_of I.hok e
    have hz : xs.length <= sizeLine := by rw [<- Paired.length rel]; exact z
    have hl : (putK kvs k v).length <= sizeLine := by have := length_putK kvs k v; omega
    refine wpAny_setItem_heap (hsz := hz) (tupleKind_room_in1 hu) (key_of I.hok eb) dd fun h' dd' hs => h _ ?_
    obtain ⟨q, es, ep, hq, h2, h3, h4, _, h5⟩ := dd'
    refine d_write I (by rw [e]; exact True.intro) hs ⟨q, hq⟩ ⟨hl, hd, _, (rel.put k eb rv).keeps fun c ys ec => ?_, q, es, ep, hq, h2, h3, h4, h5⟩
    rw [upd_ne (ne_of ec e (fun z => nomatch z))]
    exact ec
end
section
variable {X : Cx} {pins : List (Addr × Obj)} {σ : St} {H : Hp} {s : Shared} {a : Addr} {kvs : List (Key × V)} {k : Key} {u : Value} {A : Around} {E : Value -> Shared -> Prop}
end
def NoSl (i : Expr) : Prop := ∀ ov iv, subscripted i false ov iv = operate [ov, iv] (getItem ov iv)
theorem subD_of {prog : Program} {w : World} {A : Around} {E : Value -> Shared -> Prop} {s : Shared} {env : Env} {value slice : Expr} {pos : Pos} {T id : String} {Q : Value -> Shared -> Prop}
    (hl : typeLookup (.type T) "__getitem__" = pure (some (.builtin id))) (hs : NoSl slice)
    (h : wpAny (model prog w) A (eval value env) (fun o s₁ => wpAny (model prog w) A (eval slice env) (fun i s₂ => s₂.TypeIs o T /\ wpAny (model prog w) A (getItem o i) Q E s₂) E s₁) E s) :
    wpAny (model prog w) A (eval (.Subscript value slice pos) env) Q E s := by
  refine Subscript_ (wpAny_mono h (fun o s₁ h₁ => wpAny_mono h₁ (fun i s₂ h₂ => ?_) fun _ _ x => x) fun _ _ x => x)
  obtain ⟨hT, h₂⟩ := h₂
  unfold subscriptTail
  refine wpAny_bind ?_
  rw [getitemInPython_of_ne hT.not_modules]
  refine wpAny_bind (wpAny_specialOf hT hl ?_)
  have fin : wpAny (model prog w) A (subscripted slice false o i) (fun r s₃ => wpAny (model prog w) A (letTemporaryGo value o r >>= fun _ => pure r) Q E s₃) E s₂ := by
    rw [hs o i]
    exact wpAny_operating (wpAny_mono h₂ (fun r s₃ h₃ => wpAny_bind (wpAny_letTemporaryGo (wpAny_pure h₃))) fun _ _ x => x)
  first
    | exact wpAny_pure (wpAny_bind fin)
    | exact wpAny_bind (wpAny_pure (wpAny_bind fin))
    | exact wpAny_bind fin
theorem dict_typeIs {X : Cx} {pins : List (Addr × Obj)} {σ : St} {H : Hp} {s : Shared} {a : Addr} {y : V} {o : Option V} (I : Inv X pins σ H s) (g : DGet H a y o) : s.TypeIs (.ref a) "dict" := by
  rcases g with ⟨kvs, k, e, _, _⟩ | ⟨kvs, k, b, e, _, _, _⟩
  · obtain ⟨_, _, vs, _, dd⟩ := dk_rd I.hok e
    exact dd.typeIs
  · obtain ⟨_, _, xs, _, dd⟩ := dt_rd I.hok e
    exact dd.typeIs
def tDGet (td ty : TE) : TE := fun σ H Q => td σ H fun x H1 => ty σ H1 fun y H2 => ∃ a v, x = .ref a /\ DGet H2 a y (some v) /\ Q v H2
def tDIn (ty td : TE) : TE := fun σ H Q => ty σ H fun y H1 => td σ H1 fun x H2 => ∃ a o, x = .ref a /\ DGet H2 a y o /\ Q (.bl o.isSome) H2
def tDNotIn (ty td : TE) : TE := fun σ H Q => ty σ H fun y H1 => td σ H1 fun x H2 => ∃ a o, x = .ref a /\ DGet H2 a y o /\ Q (.bl (!o.isSome)) H2
def sDPut (td ty tv : TE) : TS := fun D σ H => tv σ H fun v H1 => td σ H1 fun x H2 => ty σ H2 fun y H3 => ∃ a H4, x = .ref a /\ DPut H3 a y v H4 /\ D.nx σ H4
section
variable {X : Cx} {o i e value : Expr} {pos pos' tpos : Pos} {td ty tv : TE}
theorem pe_dget (hu : X.A.units + 1 < cLine) (ho : PE X o td) (hi : PE X i ty) (hs : NoSl i) : PE X (.Subscript o i pos) (tDGet td ty) := by
  intro pins s σ H Q I h
  refine subD_of PySem.F.slot_dict_getitem.lookup hs (thn (ho pins s σ H _ I h) fun u s1 ⟨x, H1, I1, rx, q1⟩ => thn (hi pins s1 σ H1 _ I1 q1) fun iv s2 ⟨y, H2, I2, ry, a, v, ex, g, q2⟩ => ?_)
  subst ex
  obtain rfl : u = Value.ref a := rx
  exact ⟨dict_typeIs I2 g, d_getItem hu I2 g ry fun w' s3 I3 rw' => ⟨v, H2, I3, rw', q2⟩⟩
theorem pc_din (hu : X.A.units + 1 < cLine) (hi : PE X i ty) (ho : PE X o td) : PC X .In i o (tDIn ty td) := by
  intro pins s σ H Q I h
  refine thn (hi pins s σ H _ I h) fun iv s1 ⟨y, H1, I1, ry, q1⟩ => thn (ho pins s1 σ H1 _ I1 q1) fun u s2 ⟨x, H2, I2, rx, a, ov, ex, g, q2⟩ => ?_
  subst ex
  obtain rfl : u = Value.ref a := rx
  exact d_in hu I2 g ry fun s3 I3 => ⟨.bl ov.isSome, H2, I3, rfl, q2⟩
theorem pc_dnotin (hu : X.A.units + 1 < cLine) (hi : PE X i ty) (ho : PE X o td) : PC X .NotIn i o (tDNotIn ty td) := by
  intro pins s σ H Q I h
  refine thn (hi pins s σ H _ I h) fun iv s1 ⟨y, H1, I1, ry, q1⟩ => thn (ho pins s1 σ H1 _ I1 q1) fun u s2 ⟨x, H2, I2, rx, a, ov, ex, g, q2⟩ => ?_
  subst ex
  obtain rfl : u = Value.ref a := rx
  exact d_notIn hu I2 g ry fun s3 I3 => ⟨.bl (!ov.isSome), H2, I3, rfl, q2⟩
theorem ps_dput (hu : X.A.units + 1 < cLine) (ho : PE X o td) (hi : PE X i ty) (hv : PE X value tv) (hs : swapsWith value (some (.Subscript o i pos')) pos.line X.env = pure false) :
    PS X (.Assign [.Subscript o i pos'] value pos) (sDPut td ty tv) := by
  intro pins s σ H D I h
  refine wpAny_Assign_Subscript (thn (hv pins s σ H _ I h) fun r s1 ⟨v, H1, I1, rv, q1⟩ => thn (ho pins s1 σ H1 _ I1 q1) fun u s2 ⟨x, H2, I2, rx, q2⟩ => thn (hi pins s2 σ H2 _ I2 q2) fun iv s3 ⟨y, H3, I3, ry, a, H4, ex, g, q3⟩ => ?_) hs
  subst ex
  obtain rfl : u = Value.ref a := rx
  exact d_setItem hu I3 g ry rv fun s4 I4 => ⟨σ, H4, I4, q3⟩
end
theorem dk_empty {P : Program} {w : World} {H : Hp} (h : Heap) (hb : sysModules < h.objs.size) : ObjOk P w H (h.push { cls := .type "dict", data := .dict #[] }) h.objs.size (.dK []) :=
  ⟨Nat.zero_le _, beq_eq_false_iff_ne.mpr (Ne.symm (Nat.ne_of_lt hb)), [], .nil, Heap.DictOf.new h⟩
theorem dt_empty {P : Program} {w : World} {H : Hp} (h : Heap) (hb : sysModules < h.objs.size) : ObjOk P w H (h.push { cls := .type "dict", data := .dict #[] }) h.objs.size (.dT []) :=
  ⟨Nat.zero_le _, beq_eq_false_iff_ne.mpr (Ne.symm (Nat.ne_of_lt hb)), [], .nil, _, #[], 0, Heap.get?_push_size _ rfl, ⟨rfl, rfl, rfl⟩, rfl, rfl, List.nodup_nil⟩
def tDNewK : TE := fun _ H Q => ∀ p, H p = none -> Q (.ref p) (upd H p (.dK []))
def tDNewT : TE := fun _ H Q => ∀ p, H p = none -> Q (.ref p) (upd H p (.dT []))
section
variable {X : Cx} {pos : Pos}
theorem pe_dnewK : PE X (.Dict [] [] pos) tDNewK := fun pins s σ H Q I h =>
  wpAny_Dict_empty ⟨.ref s.heap.objs.size, _, I.laid (a := s.heap.objs.size) (o := .dK []) (t' := s.toks) (fun _ _ q => Heap.get?_push_of_some _ q) (Nat.le_refl _) (dk_empty s.heap I.big), rfl, h _ (I.hok.fresh (Nat.le_refl _))⟩
theorem pe_dnewT : PE X (.Dict [] [] pos) tDNewT := fun pins s σ H Q I h =>
  wpAny_Dict_empty ⟨.ref s.heap.objs.size, _, I.laid (a := s.heap.objs.size) (o := .dT []) (t' := s.toks) (fun _ _ q => Heap.get?_push_of_some _ q) (Nat.le_refl _) (dt_empty s.heap I.big), rfl, h _ (I.hok.fresh (Nat.le_refl _))⟩
end
def mergeK (kvs more : List (Key × V)) : List (Key × V) := more.foldl (fun acc kv => putK acc kv.1 kv.2) kvs
theorem length_mergeK : ∀ (more kvs : List (Key × V)), (mergeK kvs more).length <= kvs.length + more.length
  | [], kvs => by show kvs.length <= kvs.length + 0; omega
  | p :: r, kvs => by
    have h1 := length_mergeK r (putK kvs p.1 p.2)
    have h2 := length_putK kvs p.1 p.2
    show (mergeK (putK kvs p.1 p.2) r).length <= _
    rw [List.length_cons]; omega
structure M1 (X : Cx) (o : Expr) (m : Str) (apos : Pos) (e : Expr) (cpos : Pos) : Prop where
  base : attributeBase o m X.env (eval o X.env) = eval o X.env
  few : ((backTo cpos (starEach [e] X.env)).all (fun x => !x.1) && (backToKw cpos (keywordEach [] X.env)).all (fun x => x.1.isSome)
    && decide (([e] : List Expr).length + ([] : List Keyword).length + (if ([] : List Keyword).isEmpty then 0 else 1) < 30)) = true
  line : (apos.endLine == cpos.line) = true
  trees : backTo cpos (starEach [e] X.env) = [(false, eval e X.env)]
structure M2 (X : Cx) (o : Expr) (m : Str) (apos : Pos) (e f : Expr) (cpos : Pos) : Prop where
  base : attributeBase o m X.env (eval o X.env) = eval o X.env
  few : ((backTo cpos (starEach [e, f] X.env)).all (fun x => !x.1) && (backToKw cpos (keywordEach [] X.env)).all (fun x => x.1.isSome)
    && decide (([e, f] : List Expr).length + ([] : List Keyword).length + (if ([] : List Keyword).isEmpty then 0 else 1) < 30)) = true
  line : (apos.endLine == cpos.line) = true
  trees : backTo cpos (starEach [e, f] X.env) = [(false, eval e X.env), (false, eval f X.env)]
def IsD (H : Hp) (a : Addr) : Prop := (∃ kvs, Rd H a (.dK kvs)) ∨ ∃ kvs, Rd H a (.dT kvs)
theorem isD_at {X : Cx} {pins : List (Addr × Obj)} {σ : St} {H : Hp} {s : Shared} {a : Addr} (I : Inv X pins σ H s) (d : IsD H a) :
    s.TypeIs (.ref a) "dict" /\ (∀ b, Value.ref a = .ref b -> ∃ ob, s.heap.get? b = some ob /\ ob.dict = none) /\ (a == sysModules) = false := by
  rcases d with ⟨kvs, e⟩ | ⟨kvs, e⟩
  · obtain ⟨_, hd, vs, _, dd⟩ := dk_rd I.hok e
    refine ⟨dd.typeIs, fun b q => ?_, hd⟩
    cases q
    obtain ⟨ob, _, _, h1, h2, _⟩ := dd
    exact ⟨ob, h1, h2.2.1⟩
  · obtain ⟨_, hd, xs, _, dd⟩ := dt_rd I.hok e
    refine ⟨dd.typeIs, fun b q => ?_, hd⟩
    cases q
    obtain ⟨ob, _, _, h1, h2, _⟩ := dd
    exact ⟨ob, h1, h2.2.1⟩
section
variable {X : Cx} {pins : List (Addr × Obj)} {σ : St} {H : Hp} {s : Shared} {a : Addr} {y d : V} {u r : Value} {o : Option V} {A : Around} {E : Value -> Shared -> Prop}
end
section
variable {X : Cx} {o e f : Expr} {apos cpos : Pos} {td ty tx : TE}
end
section
variable {X : Cx} {pins : List (Addr × Obj)} {σ : St} {H : Hp} {s : Shared} {a : Addr} {kvs : List (Key × V)} {A : Around} {E : Value -> Shared -> Prop}
end
section
variable {X : Cx} {pins : List (Addr × Obj)} {σ : St} {H : Hp} {s : Shared} {a : Addr} {y : V} {u : Value} {A : Around} {E : Value -> Shared -> Prop}
end
end L2
namespace Att
open PySem PySem.W PySem.Calls PyProof.Rows
theorem ints_of_wellAll {P : Params} {h : Heap} : ∀ (ns : List Int) (vs : List Value), WellAll P h vs (ns.map WData.int) -> IntsAre vs ns := by
  intro ns
  induction ns with
  | nil =>
    intro vs w
    rw [List.map_nil] at w
    cases w
    exact .nil
  | cons n ns ih =>
    intro vs w
    rw [List.map_cons] at w
    cases w with
    | cons a b =>
      cases a
      exact .cons _ _ (ih _ b)
theorem script_of {l : OpenLaw} {n : Nat} (hn : l.most = some n) {P : Params} {h : Heap} {args : List WData} {vals : List Value}
    (hpre : l.row.toRowW.claim.pre args = true) (hwl : WellAll P h vals args) :
    ∃ a vs ns, vals = [Value.ref a] /\ args = [WData.list (ns.map WData.int)] /\ h.get? a = some { cls := .type "list", data := .seq vs.toArray } /\ IntsAre vs ns /\ ns.length <= n := by
  have hsh : WShape.hasAll [] args [.list .int] = true := (pre_splitW hpre).1
  have hc : l.pre.holds [] { args := args } = true := (pre_splitW hpre).2
  obtain ⟨d, r, rfl, h1, h2⟩ := hasAllW_cons hsh
  obtain rfl := hasAllW_nil h2
  obtain ⟨xs, rfl, h3⟩ := hasW_list h1
  obtain ⟨ns, rfl⟩ := items_int h3
  have hlen : ns.length <= n := by
    unfold OpenLaw.pre at hc
    have h4 : (WTm.not (.lt (.lit (.int (n : Int))) (.len (.arg 0)))).holds [] { args := [.list (ns.map .int)] } = true := by
      have h4 := (holds_andW hc).1
      rw [hn] at h4
      exact h4
    have h5 := condW_of h4 (w_not (w_lt w_lit (w_len_list (w_arg rfl))))
    rw [List.length_map] at h5
    refine Nat.le_of_not_lt fun q => ?_
    have q' : (n : Int) < ((ns.length : Nat) : Int) := by omega
    first
      | (rw [decide_eq_true q'] at h5; exact absurd h5 (by decide))
      | (simp at h5; omega)
  cases hwl with
  | cons w1 w2 =>
    cases w2
    cases w1 with
    | list ho hall => exact ⟨_, _, ns, rfl, rfl, ho, ints_of_wellAll ns _ hall, hlen⟩
theorem post_true (l : OpenLaw) (args : List WData) : l.row.toRowW.claim.post args (.bool true) args = true :=
  postW_of (r := l.row.toRowW) (X := (true == true))
    (show WShape.has [] (.bool true) .bool = true by first | rfl | decide | simp [WShape.has, WShape.arms, WShape.armsAll])
    (show (WTm.eq .res (.lit (.bool true))).value [] { args := args, res := some (.bool true), after := args } = some (.bool (true == true)) from w_eq_bool (w_res rfl) w_lit) rfl
theorem attach_call {l : OpenLaw} {n : Nat} {q : Program} {loose : List Str} {XP : (Str -> Option Value) -> Heap -> Prop} {YP : World -> Heap -> Prop} {d : DefRec}
    (hn : l.most = some n) (hdf : d.params.defaults = [])
    (call : ∀ (w : World) (s₀ s₁ : Shared) (mg mb : Str -> Option Value) (fa : Addr) (o : Obj) (pm cd doc : Value) (a : Addr) (vs : List Value) (ns : List Int),
      Ground q loose [] XP w s₀ mg mb s₁.heap -> YP w s₁.heap ->
      s₁.heap.get? fa = some o -> o.data = .func (docDef d.name d.params d.body d.scope pm cd doc) -> s₁.heap.CodeRec cd d.name -> mg d.name = some (.ref fa) ->
      s₁.heap.get? a = some { cls := .type "list", data := .seq vs.toArray } -> IntsAre vs ns -> ns.length <= n -> s₁.gens = #[] ->
      codeAny (model l.prog w) callerA (.call (.ref fa) ⟨[.ref a], []⟩) (fun r s' => r = .ok (.ret (.bool true)) /\ OldK s₁.heap s'.heap /\ s'.os = s₁.os /\ AllBare s'.gens) s₁) :
    WalkO q loose XP YP l.row.toRowW d [] (fun f vs => PySem.call f vs) := by
  intro w s₀ s₁ mg mb G Y fa o pm cd doc dV kV ho hd hcd hD hmg hg args vals as hpre hlay hrd hwl hlo
  obtain rfl : dV = .none := Dflts.none hD hdf
  obtain rfl : kV = .none := Dflts.noKw hD
  obtain ⟨a, vs, ns, rfl, rfl, hobj, hints, hlen⟩ := script_of hn hpre hwl
  refine enter_call (codeAny_mono (call w s₀ s₁ mg mb fa o pm cd doc a vs ns G Y ho (fd_plain hd) hcd hmg hobj hints hlen hg) fun r s' hq => ?_)
  obtain ⟨rfl, h2, h3, h4⟩ := hq
  exact ⟨.inl ⟨.bool true, .bool true, [], rfl, fun _ => rfl, .bool true, post_true l _, fun _ => ⟨List.Pairwise.nil, fun _ hm => (nomatch hm)⟩⟩, h2, h3, h4⟩
section
variable {prog : Program} {w : World} {A : Around} {E : Value -> Shared -> Prop} {s : Shared} {K : Frag}
end
end Att
namespace L2
open PySem PySem.Spec PyProof.Rows
theorem vals_ints : ∀ {vs : List Value} {ns : List Int}, IntsAre vs ns -> Vals (ns.map V.int) vs
  | _, _, .nil => .nil
  | _, _, .cons n t h => .cons ⟨t, rfl⟩ (vals_ints h)
end L2
namespace L2
open PySem PySem.Spec PyProof.Rows
end L2
/- THE LAST THEOREM (shape; LID, My.* are yours):
   My.Adr: a structure of the addresses that your layer names (classes, functions); My.Txt K t: a structure (Prop) of the equations over K;
   My.txt_mk : {K} {implicit addresses ..} (e1 : nsIn K mainGlobals "law" = some (some (.ref f))) (e2 : K.lookup f = some ⟨oc, od, .func (fnOf "law" "law" params body scope dV kV doc pm an cdv ct), sl⟩) (e3 : codeIn K cdv "law" = true) .. : ∃ t, My.Txt K t
set_option maxRecDepth 100000 in
set_option maxHeartbeats 0 in
theorem PySem.Challenge.cw_LID_holds : PySem.Challenge.rw_LID.Holds := by
  w_on; o_law; k_head; (case hw => w_witness2)
  k_fill
  refine L2.walk_of (l := PySem.Challenge.rw_LID) (n := 63) (k := 40) (x := "script") (CX := fun w => ..) (sp := fun _ => My.sp_law) rfl (by decide) rfl ⟨rfl, by decide, by decide⟩ (fun w h Y => PySem.W.kIn_of Y) ?F ?S ?C
  case F =>
    intro w mg fa h KX G hmg
    have T : ∃ t, My.Txt (L2.KOf KX) t := by
      dsimp only [L2.KOf]                          -- K must stand as «<heap const> w.params» for k_is
      refine' My.txt_mk ?e1 ?e2 ?e3 ..
      (case e1 => PySem.W.k_is)                    -- in the order: a name -> its address -> its object -> its parts
      (case e2 => PySem.W.k_is)
      ..
    obtain ⟨t, T⟩ := T
    have e0 := hmg.symm.trans (PySem.W.mg_of KX G T.law)
    cases e0                                       -- fa is the law's own address
    exact ⟨_, fun s u => .of_eq rfl, fun base kb nb => My.law_fn T kb nb⟩     -- if «.of_eq rfl» comes too early: refine' ⟨_, ?b, fun base kb nb => My.law_fn T kb nb⟩; exact fun s u => .of_eq rfl
  case S => exact fun w H a ns hl hO hS => ..
  case C => exact ..
(the tactic k_is has no namespace: write k_is) -/
namespace L2
open PySem PySem.Spec PyProof.Rows
def inClass (s : Stmt) (j : Nat) : Stmt := match s with
  | .ClassDef _ _ _ body _ _ _ _ _ _ _ => body.getD j (.Pass ⟨0, 0, 0, 0⟩)
  | _ => .Pass ⟨0, 0, 0, 0⟩
def defArgs (s : Stmt) : Arguments := match s with
  | .FunctionDef _ a _ _ _ _ _ _ _ _ => a
  | _ => { posonlyargs := [], args := [], vararg := none, kwonlyargs := [], kw_defaults := [], kwarg := none, defaults := [] }
def defBody (s : Stmt) : List Stmt := match s with
  | .FunctionDef _ _ b _ _ _ _ _ _ _ => b
  | _ => []
def defScope (s : Stmt) : Scope := match s with
  | .FunctionDef _ _ _ _ _ _ sc _ _ _ => sc
  | _ => { kind := .function, names := [], isGenerator := false, isCoroutine := false }
abbrev CX0 : CXT := fun _ _ _ _ _ _ => False
abbrev E0 : XK := fun _ _ _ => False
theorem pass0 {X : Cx} : Passes CX0 X E0 := fun _ _ _ _ _ _ _ h => h.elim
structure Fun (K : PySem.W.Frag) (x qual : Str) (st : Stmt) (f : Addr) (fd : FuncData) : Prop where
  ex : ∃ (oc : Value) (od : Option Addr) (kV doc pm : Value) (an : Option Addr) (cdv ct : Value) (osl : Array (Option Value)),
    fd = PySem.W.fnOf x qual (defArgs st) (defBody st) (defScope st) .none kV doc pm an cdv ct /\ K.lookup f = some ⟨oc, od, .func fd, osl⟩ /\ PySem.W.codeIn K cdv qual = true
  kp : PySem.W.keepIn K (.ref f) = true
section
variable {P : Program} {w : World} {K : PySem.W.Frag} {mg : Str -> Option Value} {base : Heap}
theorem Fun.ok {x qual : Str} {st : Stmt} {f : Addr} {fd : FuncData} {N ps : List Str} {k : Nat} {sp : Sp} (F : Fun K x qual st f fd) (S : FnScope N ps (defScope st)) (len : ∀ vs H Q E, sp vs H Q E -> vs.length = ps.length)
    (hbody : ∀ (cdv : Value) (A : Around) (outer : List Env) (s : Shared) (H : Hp) (vs : List V) (Q : VK) (E : XK), Room k (A.deeper (envOfC qual (defScope st) s.heap.objs.size f cdv)) -> sp vs H Q E ->
      ∃ t, PSs (cxOf CX0 P w K mg base N qual (defScope st) f cdv A outer s H E).nox (defBody st) t /\ t { nx := fun _ H' => Q .non H', rt := Q } (start N vs) H) : FnOk P w K mg base CX0 (k + 1) f fd ps sp := by
  obtain ⟨oc, od, kV, doc, pm, an, cdv, ct, osl, rfl, lk, hcd⟩ := F.ex
  refine fn_of lk hcd S len fun A outer s H vs Q E hr hsp => ?_
  obtain ⟨t, h, q⟩ := hbody cdv A outer s H vs Q E hr hsp
  exact ⟨t, h.nox, q⟩
theorem Fun.binds {x qual : Str} {st : Stmt} {f : Addr} {fd : FuncData} {ps : List Str} (F : Fun K x qual st f fd)
    (h : ∀ (kV doc pm : Value) (an : Option Addr) (cdv ct : Value) (us : List Value), us.length = ps.length -> bindArgs (PySem.W.fnOf x qual (defArgs st) (defBody st) (defScope st) .none kV doc pm an cdv ct) ⟨us, []⟩ = pure (ps.zip us)) : Binds K fd ps [] := by
  obtain ⟨oc, od, kV, doc, pm, an, cdv, ct, osl, rfl, lk, hcd⟩ := F.ex
  exact .all (h kV doc pm an cdv ct)
theorem fun_mk {x qual : Str} {st : Stmt} {f : Addr} {oc : Value} {od an : Option Addr} {osl : Array (Option Value)} {kV doc pm cdv ct : Value} (l : K.lookup f = some ⟨oc, od, .func (PySem.W.fnOf x qual (defArgs st) (defBody st) (defScope st) .none kV doc pm an cdv ct), osl⟩)
    (c : PySem.W.codeIn K cdv qual = true) (k : PySem.W.keepIn K (.ref f) = true) : Fun K x qual st f (PySem.W.fnOf x qual (defArgs st) (defBody st) (defScope st) .none kV doc pm an cdv ct) := ⟨⟨oc, od, kV, doc, pm, an, cdv, ct, osl, rfl, l, c⟩, k⟩
end
theorem hu_of {A : Around} {k : Nat} (hr : Room k A) : A.units + 1 < cLine := Nat.lt_of_le_of_lt (Nat.add_le_add_left (by decide : 1 <= 64) _) hr.units
section
variable {X : Cx}
theorem pv (i : Nat) {x : Str} {pos : Pos} (hN : X.N[i]? = some x := by rfl) (hv : Vis X.env.scope x := by first | exact Or.inl rfl | exact Or.inr (Or.inl rfl) | exact Or.inr (Or.inr rfl)) (hd : (x == ("__debug__" : Str)) = false := by decide)
    (hcd : (x == ("__classdict__" : Str)) = false := by decide) : PE X (.Name x pos) (tVar i) := pe_var hN hv hd hcd
end
theorem iteF {A B : Prop} (h : B) : if false = true then A else B := by
  rw [if_neg Bool.false_ne_true]
  exact h
theorem iteT {A B : Prop} (h : A) : if true = true then A else B := by
  rw [if_pos rfl]
  exact h
theorem ite2 {c A B : Prop} [Decidable c] (h1 : c -> A) (h2 : ¬ c -> B) : if c then A else B := by
  by_cases h : c
  · rw [if_pos h]
    exact h1 h
  · rw [if_neg h]
    exact h2 h
theorem iteNS {c A B : Prop} [Decidable c] (hc : c) (h : B) : if (!decide c) = true then A else B := by
  rw [decide_eq_true hc]
  exact iteF h
def Same (H H' : Hp) : Prop := ∀ b o, H b = some o -> H' b = some o
theorem Same.refl (H : Hp) : Same H H := fun _ _ h => h
theorem Same.trans {H H1 H2 : Hp} (a : Same H H1) (b : Same H1 H2) : Same H H2 := fun c o h => b c o (a c o h)
theorem Same.free {H H' : Hp} (e : Same H H') {l : Addr} (h : H' l = Option.none) : H l = Option.none := by
  cases q : H l with
  | none => rfl
  | some o =>
    rw [e l o q] at h
    cases h
section
variable {κ : Type} [DecidableEq κ]
theorem valV_in {kvs : List (κ × V)} {k : κ} {v : V} (h : valV kvs k = some v) : k ∈ kvs.map (·.1) := by
  have q : (kvs.any fun kv => decide (kv.1 = k)) = true := by
    rw [valV_any, h]
    all_goals rfl
  obtain ⟨p, hp, e⟩ := List.any_eq_true.mp q
  exact List.mem_map.mpr ⟨p, hp, of_decide_eq_true e⟩
end
end L2
set_option Elab.async false
set_option linter.all false
set_option maxRecDepth 100000
namespace L2
open PySem PySem.Spec PyProof.Rows
def closOf (env : Env) : List (Str × NameKind) -> List (Str × Addr) -> List (Str × Addr)
  | [], cs => cs
  | (n, k) :: r, cs => closOf env r (if k == .free then (n, (env.cells.lookup n).getD 0) :: cs else cs)
theorem closureFor_go {env : Env} (f : Str × NameKind -> List (Str × Addr) -> Sem (ForInStep (List (Str × Addr))))
    (hf : ∀ n k cs, f (n, k) cs = if (k == .free) = true then (do let a <- cellOf env n; pure (.yield ((n, a) :: cs))) else pure (.yield cs)) :
    ∀ (names : List (Str × NameKind)) (cs : List (Str × Addr)), (∀ x ∈ names, x.2 = .free -> ∃ c, env.cells.lookup x.1 = some c) -> forIn names cs f = (pure (closOf env names cs) : Sem _)
  | [], cs, _ => by rw [List.forIn_nil]; rfl
  | (n, k) :: r, cs, h => by
    rw [List.forIn_cons, hf]
    have hr : ∀ x ∈ r, x.2 = .free -> ∃ c, env.cells.lookup x.1 = some c := fun x hx => h x (List.mem_cons_of_mem _ hx)
    unfold closOf
    by_cases hk : (k == NameKind.free) = true
    · obtain ⟨c, hc⟩ := h (n, k) List.mem_cons_self (by simpa using hk)
      have hc : env.cells.lookup n = some c := hc
      rw [if_pos hk, if_pos hk]
      have e : cellOf env n = pure c := by unfold cellOf; rw [hc]
      rw [e]
      simp only [pure_bind]
      rw [closureFor_go f hf r _ hr, hc]
      rfl
    · rw [if_neg hk, if_neg hk]
      simp only [pure_bind]
      exact closureFor_go f hf r _ hr
theorem closureFor_eq {scope : Scope} {env : Env} (h : ∀ x ∈ scope.names, x.2 = .free -> ∃ c, env.cells.lookup x.1 = some c) : closureFor scope env = pure (closOf env scope.names []) := by
  simp only [closureFor]
  rw [closureFor_go (env := env) _ (fun n k cs => by by_cases hk : (k == NameKind.free) = true <;> simp [hk]) scope.names [] h]
  simp only [pure_bind]
theorem mem_closOf {env : Env} : ∀ {names : List (Str × NameKind)} {cs : List (Str × Addr)} {x : Str} {c : Addr}, (x, c) ∈ closOf env names cs -> (x, c) ∈ cs ∨ ((x, NameKind.free) ∈ names /\ c = (env.cells.lookup x).getD 0)
  | [], cs, x, c, h => .inl h
  | (n, k) :: r, cs, x, c, h => by
    unfold closOf at h
    rcases mem_closOf h with h | ⟨h, e⟩
    · by_cases hk : (k == NameKind.free) = true
      · rw [if_pos hk] at h
        rcases List.mem_cons.mp h with q | q
        · cases q
          have : k = .free := by simpa using hk
          subst this
          exact .inr ⟨List.mem_cons_self, rfl⟩
        · exact .inl q
      · rw [if_neg hk] at h
        exact .inl h
    · exact .inr ⟨List.mem_cons_of_mem _ h, e⟩
theorem closOf_has {env : Env} : ∀ {names : List (Str × NameKind)} {cs : List (Str × Addr)} {x : Str}, (x, NameKind.free) ∈ names ∨ (∃ c, (x, c) ∈ cs) -> ∃ c, (x, c) ∈ closOf env names cs
  | [], cs, x, h => by
    rcases h with h | h
    · cases h
    · exact h
  | (n, k) :: r, cs, x, h => by
    unfold closOf
    refine closOf_has ?_
    rcases h with h | ⟨c, h⟩
    · rcases List.mem_cons.mp h with e | h
      · cases e
        exact .inr ⟨(env.cells.lookup n).getD 0, by rw [if_pos (by decide)]; exact List.mem_cons_self⟩
      · exact .inl h
    · refine .inr ⟨c, ?_⟩
      split
      · exact List.mem_cons_of_mem _ h
      · exact h
theorem cellsFrom_app : ∀ (names : List (Str × NameKind)) (n : Nat) (acc cl : List (Str × Addr)), cellsFrom n names (acc ++ cl) = cellsFrom n names acc ++ cl
  | [], _, _, _ => rfl
  | (x, k) :: r, n, acc, cl => by
    unfold cellsFrom
    split
    · exact cellsFrom_app r (n + 1) ((x, n) :: acc) cl
    · exact cellsFrom_app r n acc cl
theorem mem_cellsFrom : ∀ {names : List (Str × NameKind)} {n : Nat} {acc : List (Str × Addr)} {x : Str} {c : Addr}, (x, c) ∈ cellsFrom n names acc -> (x, c) ∈ acc ∨ (x, NameKind.cell) ∈ names
  | [], _, _, _, _, h => .inl h
  | (y, k) :: r, n, acc, x, c, h => by
    unfold cellsFrom at h
    by_cases hk : (k == NameKind.cell) = true
    · rw [if_pos hk] at h
      rcases mem_cellsFrom h with h | h
      · rcases List.mem_cons.mp h with e | h
        · cases e
          have : k = .cell := by simpa using hk
          subst this
          exact .inr List.mem_cons_self
        · exact .inl h
      · exact .inr (List.mem_cons_of_mem _ h)
    · rw [if_neg hk] at h
      rcases mem_cellsFrom h with h | h
      · exact .inl h
      · exact .inr (List.mem_cons_of_mem _ h)
theorem lookup_of_mem {α : Type} : ∀ {l : List (Str × α)} {x : Str} {c : α}, (x, c) ∈ l -> ∃ c', l.lookup x = some c'
  | (k, v) :: r, x, c, h => by
    rw [List.lookup_cons]
    cases hb : x == k with
    | true => exact ⟨v, rfl⟩
    | false =>
      rcases List.mem_cons.mp h with e | h
      · cases e
        simp at hb
      · exact lookup_of_mem h
def cpEnv (scope : Scope) (C : Addr) (env : Env) : Env :=
  { scope := relabel scope env, locals := C, globals := env.globals, cells := cellsFrom (C + 1) scope.names (closOf env scope.names []), qual := env.qual, func := none, code := env.code, frame := env.frame, builtins := env.builtins }
theorem newEnv_comp {M : Model} {A : Around} {E : Value -> Shared -> Prop} {s : Shared} {scope : Scope} {cl : List (Str × Addr)} {env : Env} {Q : Env -> Shared -> Prop}
    (h : Q { scope := scope, locals := s.heap.objs.size, globals := env.globals, cells := cellsFrom (s.heap.objs.size + 1) scope.names cl, qual := env.qual, func := none, code := env.code, frame := env.frame, builtins := env.builtins }
      { s with heap := pushCells (s.heap.push { cls := .type "dict", data := .dict #[] }) scope.names }) :
    wpAny M A (newFunctionEnv scope env.globals cl [] env.qual none .none (some env)) Q E s := by
  simp only [newFunctionEnv, Option.isSome_some, if_true]
  refine wpAny_bind (wpAny_alloc ?_)
  refine wpAny_bind (wpAny_layCells _ (fun name kind cells => by cases hkc : kind == NameKind.cell <;> simp [hkc]) _ _ _ _ ?_)
  rw [show ({ s with heap := s.heap.push { cls := .type "dict", data := .dict #[] } } : Shared).heap.objs.size = s.heap.objs.size + 1 from Heap.size_push ..]
  rw [List.forIn_nil]
  exact wpAny_bind (wpAny_pure (wpAny_pure h))
def cpCheck (PN : List Str) (ps : Scope) (N : List Str) (own : Nat) (fr : List Nat) (scope : Scope) : Bool :=
  decide (scope.kind = .function) && decide N.Nodup && decide (own + fr.length = N.length)
  && (scope.names.all fun y => decide (scope.names.lookup y.1 = some y.2))
  && (scope.names.all fun y => if y.2 = .free then decide (ps.names.lookup y.1 = some .cell) || decide (ps.names.lookup y.1 = some .free) else true)
  && ((fr.map fun j => PN[j]?) == (N.drop own).map some)
  && ((N.drop own).all fun x => decide (scope.names.lookup x = some .free))
structure CpOk (PN : List Str) (ps : Scope) (N : List Str) (own : Nat) (fr : List Nat) (scope : Scope) : Prop where
  kind : scope.kind = .function
  nd : N.Nodup
  len : own + fr.length = N.length
  look : ∀ y ∈ scope.names, scope.names.lookup y.1 = some y.2
  par : ∀ y ∈ scope.names, y.2 = .free -> ps.names.lookup y.1 = some .cell ∨ ps.names.lookup y.1 = some .free
  frs : (fr.map fun j => PN[j]?) = (N.drop own).map some
  frk : ∀ x ∈ N.drop own, scope.names.lookup x = some .free
theorem CpOk.of {PN : List Str} {ps : Scope} {N : List Str} {own : Nat} {fr : List Nat} {scope : Scope} (h : cpCheck PN ps N own fr scope = true) : CpOk PN ps N own fr scope := by
  unfold cpCheck at h
  simp only [Bool.and_eq_true, decide_eq_true_eq, List.all_eq_true, beq_iff_eq] at h
  obtain ⟨⟨⟨⟨⟨⟨h1, h2⟩, h3⟩, h4⟩, h5⟩, h6⟩, h7⟩ := h
  refine ⟨h1, h2, h3, h4, fun y hy e => ?_, h6, h7⟩
  have q := h5 y hy
  rw [if_pos e] at q
  simpa using q
def cpStart (own : Nat) (fr : List Nat) (σ : St) : St := List.replicate own none ++ fr.map fun j => (σ[j]?).join
def cxComp (X : Cx) (N : List Str) (scope : Scope) (fp : List Addr) (s : Shared) (H : Hp) : Cx where
  prog := X.prog
  w := X.w
  K := X.K
  mg := X.mg
  base := X.base
  A := X.A
  N := N
  s₀ := s
  H₀ := H
  env := cpEnv scope s.heap.objs.size X.env
  outer := X.stack
  stack := X.stack
  ex := fp
  fn := fun x => decide (scope.names.lookup x = some .local) || decide (scope.names.lookup x = some .cell)
  calm := X.calm
  pn := []
  xe := fun _ _ => False
theorem relabel_look {ps : Scope} {env : Env} (he : env.scope = ps) {x : Str} : ∀ {names : List (Str × NameKind)} {k : NameKind}, names.lookup x = some k ->
    (names.map fun (n, k) => if (k == NameKind.free && env.scope.kind == .function && env.kindOf n == some .cell) then (n, NameKind.cell) else (n, k)).lookup x =
      some (if (k == NameKind.free && env.scope.kind == .function && env.kindOf x == some .cell) then .cell else k)
  | (n, k') :: r, k, h => by
    rw [List.lookup_cons] at h
    rw [List.map_cons]
    cases hb : x == n with
    | true =>
      rw [hb] at h
      cases h
      have e : x = n := by simpa using hb
      subst e
      dsimp only
      split <;> simp [List.lookup_cons]
    | false =>
      rw [hb] at h
      have ih := relabel_look he (env := env) h
      dsimp only
      split <;> (rw [List.lookup_cons, hb]; exact ih)
theorem relabel_of {env : Env} {x : Str} : ∀ {names : List (Str × NameKind)} {k : NameKind}, (names.map fun (n, k) => if (k == NameKind.free && env.scope.kind == .function && env.kindOf n == some .cell) then (n, NameKind.cell) else (n, k)).lookup x = some k -> ∃ k', names.lookup x = some k' /\ (k' = k ∨ (k' = .free /\ k = .cell))
  | (n, k') :: r, k, h => by
    rw [List.map_cons] at h
    rw [List.lookup_cons]
    dsimp only at h
    cases hb : x == n with
    | true =>
      refine ⟨k', rfl, ?_⟩
      by_cases hc : (k' == NameKind.free && env.scope.kind == .function && env.kindOf n == some .cell) = true
      · rw [if_pos hc, List.lookup_cons, hb] at h
        cases h
        simp only [Bool.and_eq_true, beq_iff_eq] at hc
        exact .inr ⟨hc.1.1, rfl⟩
      · rw [if_neg hc, List.lookup_cons, hb] at h
        cases h
        exact .inl rfl
    | false =>
      have h' : (r.map fun (n, k) => if (k == NameKind.free && env.scope.kind == .function && env.kindOf n == some .cell) then (n, NameKind.cell) else (n, k)).lookup x = some k := by
        split at h <;> (rw [List.lookup_cons, hb] at h; exact h)
      exact relabel_of h'
theorem of_lookup_app {α : Type} {x : Str} {c : α} : ∀ {l r : List (Str × α)}, (l ++ r).lookup x = some c -> (x, c) ∈ l ∨ (x, c) ∈ r := fun h => List.mem_append.mp (PySem.mem_of_lookup h)
section
variable {X : Cx} {pins : List (Addr × Obj)} {σ : St} {H : Hp} {s : Shared} {N : List Str} {own : Nat} {fr : List Nat} {scope : Scope} {fp : List Addr}
theorem closCell (I : Inv X pins σ H s) (S : CpOk X.N X.env.scope N own fr scope) {x : Str} {c : Addr} (h : (x, c) ∈ closOf X.env scope.names []) : X.env.cells.lookup x = some c /\ (x, NameKind.free) ∈ scope.names := by
  rcases mem_closOf h with h | ⟨h, e⟩
  · cases h
  · obtain ⟨c', hc⟩ := I.ok.has x (S.par _ h rfl)
    refine ⟨?_, h⟩
    rw [e, hc]
    rfl
theorem Inv.block (I : Inv X pins σ H s) (S : CpOk X.N X.env.scope N own fr scope) (hfp : ∀ b ∈ fp, FpOk X pins H b) (hfo : ∀ b ∈ fp, ∃ o, s.heap.get? b = some o) :
    Inv (cxComp X N scope fp s H) [] (cpStart own fr σ) H { s with heap := pushCells (s.heap.push { cls := .type "dict", data := .dict #[] }) scope.names } := by
  have kept : ∀ b o, s.heap.get? b = some o -> (pushCells (s.heap.push { cls := .type "dict", data := .dict #[] }) scope.names).get? b = some o := fun b o e => pushCells_keeps _ _ b o (Heap.get?_push_of_some _ e)
  have cok := cellsFrom_ok scope.names (s.heap.push { cls := .type "dict", data := .dict #[] }) (s.heap.objs.size + 1) [] ⟨fun _ _ hm => (nomatch hm), List.Pairwise.nil⟩ (by rw [Heap.size_push]; exact Nat.le_refl _)
  rw [Heap.size_push] at cok
  have ecs : cellsFrom (s.heap.objs.size + 1) scope.names (closOf X.env scope.names []) = cellsFrom (s.heap.objs.size + 1) scope.names [] ++ closOf X.env scope.names [] := cellsFrom_app _ _ [] _
  have lookC : ∀ {x c}, (cellsFrom (s.heap.objs.size + 1) scope.names (closOf X.env scope.names [])).lookup x = some c -> ((x, c) ∈ cellsFrom (s.heap.objs.size + 1) scope.names [] /\ (x, NameKind.cell) ∈ scope.names /\ s.heap.objs.size + 1 <= c) ∨ (X.env.cells.lookup x = some c /\ (x, NameKind.free) ∈ scope.names) := fun {x c} h => by
    rw [ecs] at h
    rcases of_lookup_app h with h | h
    · refine .inl ⟨h, ?_, (cok.empty _ _ h).2⟩
      rcases mem_cellsFrom h with q | q
      · cases q
      · exact q
    · exact .inr (closCell I S h)
  have oldC : ∀ {x c}, X.env.cells.lookup x = some c -> c < s.heap.objs.size := fun {x c} h => by
    obtain ⟨v, hv⟩ := I.cell x c h
    exact hv.lt
  have hb : ∀ b ∈ fp, b < s.heap.objs.size := fun b hb => let ⟨o, e⟩ := hfo b hb; Heap.lt_size e
  refine ⟨⟨I.ok.mod, S.kind, I.ok.glob, I.ok.blt, Nat.le_refl _, fun x y c h1 h2 => ?_, fun x hx => ?_, fun x c hf h => ?_, I.ok.hd, I.ok.frames, .inl rfl, fun b hb' => ⟨Nat.ne_of_lt (hb b hb'), fun x c h => ?_⟩, I.bs, ?_, fun b o e hb' => ?_, fun b hb' hs => ?_, I.stack, I.stkFree⟩,
    rfl, I.bare, Un.kept kept, ⟨_, (Heap.Ns.new s.heap (.type "dict")).keeps (pushCells_keeps _ _), fun i x v h1 h2 h3 => ?_⟩, fun x c h => ?_, I.hok.fresh (Nat.le_refl _), fun x c h => ?_, fun p hp => absurd (show p ∈ ([] : List (Addr × Obj)) from hp) (by simp), I.hok.kept kept, ?_⟩
  · -- inj
    rcases lookC h1 with ⟨m1, k1, l1⟩ | ⟨m1, k1⟩ <;> rcases lookC h2 with ⟨m2, k2, l2⟩ | ⟨m2, k2⟩
    · exact name_of_addr cok.apart m1 m2
    · exact absurd (oldC m2) (Nat.not_lt.mpr (Nat.le_of_succ_le l1))
    · exact absurd (oldC m1) (Nat.not_lt.mpr (Nat.le_of_succ_le l2))
    · exact I.ok.inj x y c m1 m2
  · -- has
    have key : (x, NameKind.cell) ∈ scope.names ∨ (x, NameKind.free) ∈ scope.names := by
      rcases hx with hx | hx
      · obtain ⟨k', e, q⟩ := relabel_of (env := X.env) (show _ = some NameKind.cell from hx)
        have m := PySem.mem_of_lookup e
        rcases q with q | ⟨q, _⟩
        · exact .inl (q ▸ m)
        · exact .inr (q ▸ m)
      · obtain ⟨k', e, q⟩ := relabel_of (env := X.env) (show _ = some NameKind.free from hx)
        have m := PySem.mem_of_lookup e
        rcases q with q | ⟨_, q⟩
        · exact .inr (q ▸ m)
        · cases q
    show ∃ c, (cellsFrom (s.heap.objs.size + 1) scope.names (closOf X.env scope.names [])).lookup x = some c
    have : ((cellsFrom (s.heap.objs.size + 1) scope.names (closOf X.env scope.names [])).lookup x).isSome = true := by
      refine PySem.W.cellsFrom_some _ _ _ ?_
      rcases key with q | q
      · exact .inl (S.look _ q)
      · obtain ⟨c, m⟩ := closOf_has (env := X.env) (names := scope.names) (cs := []) (x := x) (.inl q)
        obtain ⟨c', e⟩ := lookup_of_mem m
        exact .inr (by rw [e]; rfl)
    exact Option.isSome_iff_exists.mp this
  · -- cab
    rcases lookC h with ⟨_, _, l⟩ | ⟨_, k⟩
    · exact Nat.le_of_succ_le l
    · have e := S.look _ k
      have hf : (decide (scope.names.lookup x = some .local) || decide (scope.names.lookup x = some .cell)) = true := hf
      rw [show scope.names.lookup x = some .free from e] at hf
      exact absurd hf (by decide)
  · rcases lookC h with ⟨_, _, l⟩ | ⟨q, _⟩
    · exact Nat.ne_of_gt (Nat.lt_of_lt_of_le (hb b hb') (Nat.le_of_succ_le l))
    · exact (hfp b hb').2.2.2.2.1 x c q
  · exact Nat.le_trans I.ok.bsz I.sz
  · rcases (hfp b hb').2.2.2.1 with q | q
    · exact I.ok.noex b o e q
    · exact absurd (Nat.lt_of_lt_of_le (Heap.lt_size e) I.ok.bsz) (by omega)
  · rcases List.mem_cons.mp (I.stkSub b hs) with q | q
    · exact (hfp b hb').2.1 q
    · exact (hfp b hb').2.2.1 q
  · -- names
    have hi : own <= i := by
      refine Nat.le_of_not_lt fun hlt => ?_
      unfold cpStart at h2
      rw [List.getElem?_append_left (by rw [List.length_replicate]; exact hlt), List.getElem?_replicate, if_pos hlt] at h2
      cases h2
    have h2' : (fr.map fun j => (σ[j]?).join)[i - own]? = some (some v) := by
      unfold cpStart at h2
      rw [List.getElem?_append_right (by rw [List.length_replicate]; exact hi), List.length_replicate] at h2
      exact h2
    have h1 : N[i]? = some x := h1
    have hx : (N.drop own)[i - own]? = some x := by rw [List.getElem?_drop, show own + (i - own) = i by omega]; exact h1
    rw [List.getElem?_map] at h2'
    cases ej : fr[i - own]? with
    | none => rw [ej] at h2'; cases h2'
    | some j =>
      rw [ej] at h2'
      have h2' : (σ[j]?).join = some v := Option.some.inj h2'
      have hσ : σ[j]? = some (some v) := by
        cases q : σ[j]? with
        | none => rw [q] at h2'; cases h2'
        | some o => rw [q] at h2'; exact congrArg some h2'
      have hN : X.N[j]? = some x := by
        have q := congrArg (fun l => l[i - own]?) S.frs
        simp only [List.getElem?_map, ej, hx, Option.map_some] at q
        exact Option.some.inj q
      have kf := S.frk x (List.mem_of_getElem? hx)
      have mf := PySem.mem_of_lookup kf
      obtain ⟨m, hm, hv⟩ := I.loc
      have pk := S.par _ mf rfl
      obtain ⟨u, ru, lk⟩ := hv j x v hN hσ (pk.elim (fun q => .inr (.inl q)) fun q => .inr (.inr q))
      refine ⟨u, ru, ?_⟩
      have pk' : X.env.kindOf x = some .cell ∨ X.env.kindOf x = some .free := pk
      rcases lk with ⟨k, _⟩ | ⟨_, c, hc, hcell⟩
      · rw [k] at pk'
        rcases pk' with q | q <;> cases q
      · obtain ⟨c', m1⟩ := closOf_has (env := X.env) (names := scope.names) (cs := []) (x := x) (.inl mf)
        have e1 := (closCell I S m1).1
        rw [hc] at e1
        cases e1
        refine .inr ⟨?_, c, ?_, hcell.keeps kept⟩
        · have q := relabel_look (env := X.env) rfl kf
          show (relabel scope X.env).names.lookup x = some .cell ∨ (relabel scope X.env).names.lookup x = some .free
          unfold relabel
          rw [q]
          split
          · exact .inl rfl
          · exact .inr rfl
        · obtain ⟨c2, e2⟩ := Option.isSome_iff_exists.mp (PySem.W.cellsFrom_some (x := x) scope.names (s.heap.objs.size + 1) (closOf X.env scope.names []) (.inr (by obtain ⟨c', e⟩ := lookup_of_mem m1; rw [e]; rfl)))
          show (cellsFrom (s.heap.objs.size + 1) scope.names (closOf X.env scope.names [])).lookup x = some c
          rcases lookC e2 with ⟨_, q, _⟩ | ⟨q, _⟩
          · have := S.look _ q
            rw [show scope.names.lookup x = some .free from kf] at this
            cases this
          · rw [hc] at q
            cases q
            exact e2
  · -- cells
    rcases lookC h with ⟨q, _, _⟩ | ⟨q, _⟩
    · exact ⟨_, (cok.empty _ _ q).1⟩
    · obtain ⟨v, hv⟩ := I.cell x c q
      exact ⟨v, hv.keeps kept⟩
  · rcases lookC h with ⟨q, _, l⟩ | ⟨q, _⟩
    · exact I.hok.fresh (by omega)
    · exact I.freeC x c q
  · show (cpStart own fr σ).length = N.length
    unfold cpStart
    rw [List.length_append, List.length_replicate, List.length_map]
    exact S.len
end
def PTs (X : Cx) (ifs : List Expr) (t : TT) : Prop :=
  ∀ (pins : List (Addr × Obj)) (s : Shared) (σ : St) (H : Hp) (Q : Bool -> Hp -> Prop), Inv X pins σ H s -> t σ H Q ->
    wpAny (model X.prog X.w) X.A (forIn ifs true fun c r => if r = true then do let ok <- isTrue c X.env (eval c X.env); pure (ForInStep.yield ok) else pure (ForInStep.yield r)) (TP X pins σ Q) X.xe s
def tYes : TT := fun _ H Q => Q true H
theorem yesT {σ : St} {H : Hp} {A B : Hp -> Prop} (h : A H) : tYes σ H fun b H4 => if b = true then A H4 else B H4 := by
  unfold tYes
  exact iteT h
theorem pts_nil {X : Cx} : PTs X [] tYes := fun _ _ _ H _ I h => wpAny_tests_nil ⟨H, I, h⟩
theorem pts_one {X : Cx} {c : Expr} {t : TT} (h : PT X c t) : PTs X [c] t := fun pins s σ H Q I q => wpAny_tests_one (h pins s σ H Q I q)
def CompW (J : It) (g : TG) (tc : TT) (te : TE) (σ0 : St) (D : Addr) (H1 : Hp) (Q : VK) : Prop := ∃ W : Nat -> Nat -> St -> Hp -> Prop,
  (∃ m, W 0 m σ0 (upd H1 D (.lst []))) /\ ∀ i m σ' H', W i m σ' H' -> (J.stop i H' /\ Q (.ref D) H') ∨
    (J.go i H' /\ ∃ Nx : St -> Hp -> Prop, (∀ σ2 H2, Nx σ2 H2 -> ∃ m', m' < m /\ W (i + 1) m' σ2 H2) /\
      ∀ x H2, J.yld i H' x H2 -> g x σ' H2 fun σ3 H3 => tc σ3 H3 fun b H4 => if b = true then te σ3 H4 fun y H5 => ∃ out, H5 D = some (.lst out) /\ out.length < sizeLine /\ Nx σ3 (upd H5 D (.lst (out ++ [y]))) else Nx σ3 H4)
def tComp (wi : TI) (own : Nat) (fr : List Nat) (g : TG) (tc : TT) (te : TE) : TE := fun σ H Q => wi σ H fun J H1 => ∀ D, H1 D = none -> CompW J g tc te (cpStart own fr σ) D H1 Q
section
variable {X : Cx} {tg iter elt : Expr} {ifs : List Expr} {scope : Scope} {pos : Pos} {wi : TI} {g : TG} {tc : TT} {te : TE} {N : List Str}
theorem comp_go {R : Result -> Shared -> Prop} {own : Nat} {fr : List Nat} {pins : List (Addr × Obj)} {σ : St} {H1 : Hp} {s2 : Shared} {it : Addr} {fp : List Addr} {tn : Nat -> Heap -> Prop} {J : It} {D : Addr} {Q : VK}
    (S : CpOk X.N X.env.scope N own fr scope) (hc : X.calm = true) (hg : ∀ fp s H, PG (cxComp X N scope fp s H) tg g) (ht : ∀ fp s H, PTs (cxComp X N scope fp s H) ifs tc) (he : ∀ fp s H, PE (cxComp X N scope fp s H) elt te)
    (I3 : Inv X pins σ (upd H1 D (.lst [])) s2) (T : Turn X.prog X.w X.K tg J fp it tn) (st : tn 0 s2.heap) (f2 : ∀ b ∈ fp, FpOk X pins (upd H1 D (.lst [])) b)
    (k : CompW J g tc te (cpStart own fr σ) D H1 Q)
    (hR : ∀ H' s', Inv X pins σ H' s' -> (∃ m, s'.heap.Ns s2.heap.objs.size m) -> H' s2.heap.objs.size = none -> Q (.ref D) H' -> R (.ok .next) s') :
    codeAny (model X.prog X.w) X.A (.compStart (.ListComp elt [⟨tg, iter, ifs, 0⟩] scope pos) 0 (.ref it) (.ref D) (cpEnv scope s2.heap.objs.size X.env)) R
      { s2 with heap := pushCells (s2.heap.push { cls := .type "dict", data := .dict #[] }) scope.names } := by
  obtain ⟨W, ⟨m0, w0⟩, turn⟩ := k
  have I4 := I3.block (N := N) S f2 (fun b hb => let ⟨o, e, _⟩ := T.obj _ _ st b hb; ⟨o, e⟩)
  have kept : ∀ b o, s2.heap.get? b = some o -> (pushCells (s2.heap.push { cls := .type "dict", data := .dict #[] }) scope.names).get? b = some o := fun b o e => pushCells_keeps _ _ b o (Heap.get?_push_of_some _ e)
  have st4 : tn 0 (pushCells (s2.heap.push { cls := .type "dict", data := .dict #[] }) scope.names) := T.keep _ _ _ st fun b hb o e => kept b o e
  have fx : ∀ {H' : Hp}, (∀ b ∈ fp, H' b = none) -> ∀ b ∈ fp, FpOk (cxComp X N scope fp s2 (upd H1 D (.lst []))) [] H' b := fun hn b hb =>
    ⟨hn b hb, (I4.ok.exf b hb).1, I4.ok.exfs b hb, .inl hb, (I4.ok.exf b hb).2, fun p hp => absurd (show p ∈ ([] : List (Addr × Obj)) from hp) (by simp)⟩
  have loop : codeAny (model X.prog X.w) X.A (.compLoop (.ListComp elt [⟨tg, iter, ifs, 0⟩] scope pos) 0 (.ref it) (.ref D) (cpEnv scope s2.heap.objs.size X.env)) R
      { s2 with heap := pushCells (s2.heap.push { cls := .type "dict", data := .dict #[] }) scope.names } := by
    refine codeAny_loop rfl (fun n s' => ∃ i σ' H', Inv (cxComp X N scope fp s2 (upd H1 D (.lst []))) [] σ' H' s' /\ tn i s'.heap /\ (∀ b ∈ fp, H' b = none) /\ W i n σ' H') (fun n s' hI => ?_) m0 ⟨0, _, _, I4, st4, fun b hb => (f2 b hb).1, w0⟩
    obtain ⟨i, σ', H', I5, st5, fr5, w5⟩ := hI
    show wpAny _ X.A ((compTurn (.ListComp elt [⟨tg, iter, ifs, 0⟩] scope pos) 0 (.ref it) (.ref D) (cpEnv scope s2.heap.objs.size X.env)).onRaise (fun x => do noteFrame x (cpEnv scope s2.heap.objs.size X.env); theTreesLotGoes x)) _ _ s'
    refine wpAny_noted (wpAny_mono (E := fun _ _ => False) ?_ (fun _ _ q => q) fun _ _ q => q.elim)
    rw [compTurn_list]
    refine wpAny_bind (wpAny_standAt (wpAny_bind ?_))
    rcases turn i n σ' H' w5 with ⟨stop, q⟩ | ⟨go, Nx, hN, step⟩
    · refine thn (T.done (cxComp X N scope fp s2 (upd H1 D (.lst []))) rfl rfl rfl hc i [] s' σ' H' _ I5 (fx fr5) st5 stop) fun r s6 ⟨hr, I6⟩ => ?_
      subst hr
      refine wpAny_pure (hR H' s6 (I3.call' I6.os I6.base I6.hok I6.bare fun b hb => ?_) ?_ I6.free q)
      · exact ⟨(f2 b hb).2.2.2.1, (f2 b hb).2.1, (f2 b hb).2.2.2.2.1, (f2 b hb).2.2.2.2.2⟩
      · obtain ⟨m, hm, _⟩ := I6.loc
        exact ⟨m, hm⟩
    · refine thn (T.item (cxComp X N scope fp s2 (upd H1 D (.lst []))) rfl rfl rfl hc i [] s' σ' H' _ I5 (fx fr5) st5 go) fun r s6 ⟨u, hr, h6⟩ => ?_
      subst hr
      refine wpAny_bind (thn h6 fun _ s7 ⟨x, H7, I7, r7, y7, st7, fr7⟩ => ?_)
      have I7' := I7.pinned (fx fr7) (T.obj _ _ st7)
      have back : ∀ {σ8 : St} {H8 : Hp} {s8 : Shared}, Inv (cxComp X N scope fp s2 (upd H1 D (.lst []))) ([] ++ pinsAt fp s7.heap) σ8 H8 s8 -> Nx σ8 H8 -> ∃ m, m < n /\ ∃ i σ' H', Inv (cxComp X N scope fp s2 (upd H1 D (.lst []))) [] σ' H' s8 /\ tn i s8.heap /\ (∀ b ∈ fp, H' b = none) /\ W i m σ' H' := fun {σ8 H8 s8} I8 n8 => by
        obtain ⟨m', hm, w8⟩ := hN σ8 H8 n8
        refine ⟨m', hm, i + 1, σ8, H8, I8.unpinned, T.keep _ _ _ st7 fun b hb o e => (I8.pin (b, o) (List.mem_append_right _ (List.mem_append_right _ (mem_pinsAt hb e)))).1, fun b hb => ?_, w8⟩
        obtain ⟨o, e, d⟩ := T.obj _ _ st7 b hb
        exact (I8.pin (b, o) (List.mem_append_right _ (List.mem_append_right _ (mem_pinsAt hb e)))).2.1
      refine wpAny_bind (thn (hg fp s2 (upd H1 D (.lst [])) _ s7 σ' H7 x u _ I7' r7 (step x H7 y7)) fun _ s8 ⟨σ8, H8, I8, q8⟩ => ?_)
      refine wpAny_bind (thn (ht fp s2 (upd H1 D (.lst [])) _ s8 σ8 H8 _ I8 q8) fun b s9 ⟨H9, I9, q9⟩ => ?_)
      cases b with
      | false =>
        simp only [Bool.false_eq_true, if_false] at q9 ⊢
        exact wpAny_pure ⟨rfl, back I9 q9⟩
      | true =>
        simp only [if_true] at q9 ⊢
        refine wpAny_bind (wpAny_bind (thn (he fp s2 (upd H1 D (.lst [])) _ s9 σ8 H9 _ I9 q9) fun y s10 ⟨yv, H10, I10, r10, out, hD, hz, q10⟩ => ?_))
        refine wpAny_bind (thn (mt_append (X := cxComp X N scope fp s2 (upd H1 D (.lst []))) _ s10 σ8 H10 (.ref D) [yv] (.ref D) [y] (fun _ H' => Nx σ8 H') I10 rfl (.cons r10 .nil) ⟨D, out, yv, rfl, rfl, hD, hz, q10⟩) fun _ s11 ⟨_, H11, I11, _, q11⟩ => ?_)
        exact wpAny_pure (wpAny_pure ⟨rfl, back I11 q11⟩)
  exact codeAny_compStart_list loop (T.self _ 0 _ _ _ st4 loop)
theorem pe_comp (N : List Str) (own : Nat) (fr : List Nat) (hi : PI X tg iter wi) (hg : ∀ fp s H, PG (cxComp X N scope fp s H) tg g) (ht : ∀ fp s H, PTs (cxComp X N scope fp s H) ifs tc) (he : ∀ fp s H, PE (cxComp X N scope fp s H) elt te)
    (S : cpCheck X.N X.env.scope N own fr scope = true := by kernel_rfl) (hc : X.calm = true := by rfl) (hs : ∀ x, foldedSetIterable iter X.env x = pure x := by intro _; rfl) :
    PE X (.ListComp elt [⟨tg, iter, ifs, 0⟩] scope pos) (tComp wi own fr g tc te) := by
  intro pins s σ H Q I h
  have S' := CpOk.of S
  rw [eval_ListComp]
  have hclos : closureFor scope X.env = pure (closOf X.env scope.names []) := closureFor_eq fun x hx e => I.ok.has x.1 (S'.par x hx e)
  refine wpAny_comprehension_free (use := none) rfl hs hclos S'.kind (fun x hx e => by rw [S'.look x hx, e]) (thn (hi pins s σ H _ I h) fun v s1 h1 => thn h1 fun itv s2 h2 => ?_)
  obtain ⟨it, fp, tn, J, H1, rfl, I2, T, st2, f2, k⟩ := h2
  refine wpAny_newObj_type (newEnv_comp ?_)
  have hD : H1 s2.heap.objs.size = none := I2.fresh
  have I3 := I2.lnew (ys := []) (its := []) (t' := s2.toks) .nil (Nat.zero_le _)
  have kept : ∀ b o, s2.heap.get? b = some o -> (s2.heap.push { cls := .type "list", data := .seq ([] : List Value).toArray }).get? b = some o := fun b o e => Heap.get?_push_of_some _ e
  refine comp_go (own := own) (fr := fr) (Q := Q) S' hc hg ht he I3 T (T.keep _ _ _ st2 fun b hb o e => kept b o e) (fun b hb => ?_) (k _ hD) ?_
  · refine ⟨?_, (f2 b hb).2⟩
    obtain ⟨o, e, _⟩ := T.obj _ _ st2 b hb
    rw [upd_ne (Nat.ne_of_lt (Heap.lt_size e))]
    exact (f2 b hb).1
  · rintro H' s' I' ⟨m, hm⟩ hn q
    refine ⟨m, hm, fun h' hs' => ⟨.ref s2.heap.objs.size, H', ?_, rfl, q⟩⟩
    exact I'.turned (t' := s'.toks) (fun b o hb e => hs'.extBut b o hb e) hn (Nat.ne_of_gt I3.lt) (.inr I3.sz) (fun x c hcx e => by
      obtain ⟨v, hv⟩ := I3.cell x c hcx
      exact absurd hv.lt (by rw [e]; exact Nat.lt_irrefl _)) fun p hp e => by
        have := (I3.pin p hp).1
        rw [e] at this
        exact absurd (Heap.lt_size this) (Nat.lt_irrefl _)
def tAsgC (i : Nat) (te : TE) : TS := fun D σ H => te σ H fun x H1 => D.nx (σ.set i (some x)) H1
theorem ps_setC {i : Nat} {x : Str} {px : Pos} (N : List Str) (own : Nat) (fr : List Nat) (hN : X.N.Nodup) (hi' : X.N[i]? = some x) (hx : Loc X.env.scope x)
    (hi : PI X tg iter wi) (hg : ∀ fp s H, PG (cxComp X N scope fp s H) tg g) (ht : ∀ fp s H, PTs (cxComp X N scope fp s H) ifs tc) (he : ∀ fp s H, PE (cxComp X N scope fp s H) elt te) {pos' : Pos}
    (S : cpCheck X.N X.env.scope N own fr scope = true := by kernel_rfl) (hc : X.calm = true := by rfl) (hs : ∀ x, foldedSetIterable iter X.env x = pure x := by intro _; rfl)
    (hf : X.fn x = true ∨ X.env.scope.names.lookup x = some .local := by first | exact .inl rfl | exact .inr rfl | assumption)
    (hsw : swapsWith (.ListComp elt [⟨tg, iter, ifs, 0⟩] scope pos) (some (.Name x px)) pos'.line X.env = pure true := by rfl) :
    PS X (.Assign [.Name x px] (.ListComp elt [⟨tg, iter, ifs, 0⟩] scope pos) pos') (tAsgC i (tComp wi own fr g tc te)) := by
  intro pins s σ H E I h
  have S' := CpOk.of S
  rw [exec_Assign_Name_used _ _ _ _ hsw]
  refine wpAny_bind (wpAny_standAt (wpAny_bind ?_))
  show wpAny _ X.A (do let _ <- comprehension (.ListComp elt [⟨tg, iter, ifs, 0⟩] scope pos) scope X.env _ (newList []) false (eval iter X.env) (some (assign (.Name x px) X.env))) _ _ s
  have hclos : closureFor scope X.env = pure (closOf X.env scope.names []) := closureFor_eq fun x hx e => I.ok.has x.1 (S'.par x hx e)
  refine wpAny_bind (wpAny_mono (wpAny_comprehension_free (use := some (assign (.Name x px) X.env)) (Q := fun _ s' => SP X pins E .next s') rfl hs hclos S'.kind (fun x hx e => by rw [S'.look x hx, e]) (thn (hi pins s σ H _ I h) fun v s1 h1 => thn h1 fun itv s2 h2 => ?_))
    (fun _ s' hq => wpAny_pure (wpAny_pure hq)) fun _ _ e => e)
  obtain ⟨it, fp, tn, J, H1, rfl, I2, T, st2, f2, k⟩ := h2
  refine wpAny_newObj_type (newEnv_comp ?_)
  have hD : H1 s2.heap.objs.size = none := I2.fresh
  have I3 := I2.lnew (ys := []) (its := []) (t' := s2.toks) .nil (Nat.zero_le _)
  have kept : ∀ b o, s2.heap.get? b = some o -> (s2.heap.push { cls := .type "list", data := .seq ([] : List Value).toArray }).get? b = some o := fun b o e => Heap.get?_push_of_some _ e
  refine comp_go (own := own) (fr := fr) (Q := fun x H1 => E.nx (σ.set i (some x)) H1) S' hc hg ht he I3 T (T.keep _ _ _ st2 fun b hb o e => kept b o e) (fun b hb => ?_) (k _ hD) ?_
  · refine ⟨?_, (f2 b hb).2⟩
    obtain ⟨o, e, _⟩ := T.obj _ _ st2 b hb
    rw [upd_ne (Nat.ne_of_lt (Heap.lt_size e))]
    exact (f2 b hb).1
  · rintro H' s' I' ⟨m, hm⟩ hn q
    have cne : ∀ y c, X.env.cells.lookup y = some c -> c ≠ (s2.heap.push { cls := .type "list", data := .seq ([] : List Value).toArray }).objs.size := fun y c hcx e => by
      obtain ⟨v, hv⟩ := I3.cell y c hcx
      exact absurd hv.lt (by rw [e]; exact Nat.lt_irrefl _)
    show wpAny _ X.A (assign (.Name x px) X.env (.ref s2.heap.objs.size)) _ _ s'
    refine wpAny_assign_Name (store_ok2 (v := V.ref s2.heap.objs.size) I' hN hi' hx rfl (fun s'' I'' ⟨a, hs2, ha⟩ => ?_) hf)
    have hCa : (s2.heap.push { cls := .type "list", data := .seq ([] : List Value).toArray }).objs.size ≠ a := by
      rcases ha with e | e
      · rw [e]
        exact Nat.ne_of_gt I3.lt
      · exact (cne x a e).symm
    refine ⟨m, hm.sameBut hs2 hCa, fun h' hs' => ⟨_, H', ?_, q⟩⟩
    exact I''.turned (t' := s''.toks) (fun b o hb e => hs'.extBut b o hb e) hn (Nat.ne_of_gt I3.lt) (.inr I3.sz) cne fun p hp e => by
        have := (I3.pin p hp).1
        rw [e] at this
        exact absurd (Heap.lt_size this) (Nat.lt_irrefl _)
end
def GOk (g : TG) (own : Nat) (fv : List (Option V)) (dec : V -> Hp -> List (Option V) -> Prop) : Prop :=
  ∀ (x : V) (o : List (Option V)) (H : Hp) (k : St -> Hp -> Prop) (o3 : List (Option V)), o.length = own -> dec x H o3 -> k (o3 ++ fv) H -> g x (o ++ fv) H k
theorem gok1 {fv : List (Option V)} : GOk (gName 0) 1 fv (fun x _ o3 => o3 = [some x]) := fun x o H k o3 hl e h => by
  subst e
  match o, hl with
  | [a], _ => exact h
def dec2 (K : PySem.W.Frag) : V -> Hp -> List (Option V) -> Prop := fun x H o3 => ∃ p u v, x = .ref p /\ SqT K H p [u, v] /\ o3 = [some u, some v]
theorem gok2 {K : PySem.W.Frag} {fv : List (Option V)} : GOk (gTup K 2 (gCons (gName 0) (gCons (gName 1) gNil))) 2 fv (dec2 K) := fun x o H k o3 hl e h => by
  obtain ⟨p, u, v, rfl, hp, rfl⟩ := e
  match o, hl with
  | [a, b], _ => exact ⟨p, [u, v], rfl, hp, rfl, u, [v], rfl, v, [], rfl, rfl, h⟩
theorem comp_it {J : It} {g : TG} {tc : TT} {te : TE} {own : Nat} {fv : List (Option V)} {dec : V -> Hp -> List (Option V) -> Prop} {D : Addr} {H : Hp} {Q : VK} {σ0 : St} (hσ : σ0 = List.replicate own none ++ fv) (G : GOk g own fv dec) (n : Nat) (Pv : Nat -> List V -> Hp -> Prop)
    (h0 : Pv 0 [] (upd H D (.lst []))) (hstop : ∀ out H', Pv n out H' -> J.stop n H' /\ Q (.ref D) H')
    (hgo : ∀ i out H', i < n -> Pv i out H' -> J.go i H' /\ ∀ x H2, J.yld i H' x H2 -> ∃ o3, dec x H2 o3 /\ o3.length = own /\ ∀ Nx : Hp -> Prop, (∀ out' H2, Pv (i + 1) out' H2 -> Nx H2) ->
      tc (o3 ++ fv) H2 fun b H4 => if b = true then te (o3 ++ fv) H4 fun y H5 => ∃ out2, H5 D = some (.lst out2) /\ out2.length < sizeLine /\ Nx (upd H5 D (.lst (out2 ++ [y]))) else Nx H4) :
    CompW J g tc te σ0 D H Q := by
  subst hσ
  refine ⟨fun i m σ' H' => m = n - i /\ i <= n /\ (∃ o : List (Option V), σ' = o ++ fv /\ o.length = own) /\ ∃ out, Pv i out H', ⟨n, by simp, Nat.zero_le _, ⟨_, rfl, List.length_replicate⟩, _, h0⟩, ?_⟩
  rintro i m σ' H' ⟨rfl, hi, ⟨o, rfl, ho⟩, out, p⟩
  by_cases hlt : i < n
  · obtain ⟨go, k⟩ := hgo i out H' hlt p
    refine .inr ⟨go, fun σ2 H2 => (∃ o : List (Option V), σ2 = o ++ fv /\ o.length = own) /\ ∃ out, Pv (i + 1) out H2, fun σ2 H2 q => ⟨n - (i + 1), by omega, rfl, hlt, q⟩, fun x H2 y => ?_⟩
    obtain ⟨o3, d, l3, q⟩ := k x H2 y
    exact G x o H2 _ o3 ho d (q (fun H2 => (∃ o : List (Option V), o3 ++ fv = o ++ fv /\ o.length = own) /\ ∃ out, Pv (i + 1) out H2) fun out' H2 z => ⟨⟨o3, rfl, l3⟩, out', z⟩)
  · have e : i = n := by omega
    subst e
    exact .inl (hstop out H' p)
theorem comp_list {K : PySem.W.Frag} {a : Addr} {xs : List V} {g : TG} {tc : TT} {te : TE} {own : Nat} {fv : List (Option V)} {dec : V -> Hp -> List (Option V) -> Prop} {D : Addr} {H : Hp} {Q : VK} {σ0 : St} (hσ : σ0 = List.replicate own none ++ fv) (G : GOk g own fv dec) (Pv : Nat -> List V -> Hp -> Prop)
    (h0 : Pv 0 [] (upd H D (.lst []))) (hl : ∀ i out H', i <= xs.length -> Pv i out H' -> SqL K H' a xs) (hd : ∀ out H', Pv xs.length out H' -> Q (.ref D) H')
    (hgo : ∀ i x out H', xs[i]? = some x -> Pv i out H' -> ∃ o3, dec x H' o3 /\ o3.length = own /\ ∀ Nx : Hp -> Prop, (∀ out' H2, Pv (i + 1) out' H2 -> Nx H2) ->
      tc (o3 ++ fv) H' fun b H4 => if b = true then te (o3 ++ fv) H4 fun y H5 => ∃ out2, H5 D = some (.lst out2) /\ out2.length < sizeLine /\ Nx (upd H5 D (.lst (out2 ++ [y]))) else Nx H4) :
    CompW (Itl K a) g tc te σ0 D H Q := by
  refine comp_it hσ G xs.length Pv h0 (fun out H' p => ⟨⟨xs, hl _ _ _ (Nat.le_refl _) p, Nat.le_refl _⟩, hd out H' p⟩) fun i out H' hi p => ?_
  have q := hl i out H' (Nat.le_of_lt hi) p
  refine ⟨⟨xs, xs[i], q, by simp [hi]⟩, fun x H2 y => ?_⟩
  obtain ⟨e, y⟩ := y
  subst e
  exact hgo i x out _ (y xs q) p
end L2
set_option Elab.async false
set_option linter.all false
set_option maxRecDepth 100000
namespace EvS
open PySem PySem.W PyProof.Rows
def Ok {α : Type} (f : Nat -> Nat -> Bool) (n : Nat) : KasT α -> (α -> Prop) -> Prop
  | .ret a, Q => Q a
  | .ask i j k, Q => i < n /\ j < n /\ Ok f n (k (f i j)) Q
theorem Ok.bind {α β : Type} {f : Nat -> Nat -> Bool} {n : Nat} {g : α -> KasT β} {Q : β -> Prop} : ∀ {t : KasT α} {R : α -> Prop}, Ok f n t R -> (∀ a, R a -> Ok f n (g a) Q) -> Ok f n (t.bind g) Q
  | .ret a, R, h, k => k a h
  | .ask i j t, R, h, k => ⟨h.1, h.2.1, Ok.bind h.2.2 k⟩
theorem Ok.imp {α : Type} {f : Nat -> Nat -> Bool} {n : Nat} {Q R : α -> Prop} (k : ∀ a, Q a -> R a) : ∀ {t : KasT α}, Ok f n t Q -> Ok f n t R
  | .ret a, h => k a h
  | .ask i j t, h => ⟨h.1, h.2.1, Ok.imp k h.2.2⟩
theorem Ok.wp {α : Type} {f : Nat -> Nat -> Bool} {n : Nat} {cmp : Nat -> Nat -> (Bool -> Shared -> Prop) -> Shared -> Prop} {s : Shared} (hc : ∀ i j C, i < n -> j < n -> C (f i j) s -> cmp i j C s) {Q : α -> Prop} {G : α -> Shared -> Prop} (k : ∀ a, Q a -> G a s) :
    ∀ {t : KasT α}, Ok f n t Q -> t.kasWp cmp G s
  | .ret a, h => k a h
  | .ask i j t, h => hc i j _ h.1 h.2.1 (Ok.wp hc k h.2.2)
structure Ord (f : Nat -> Nat -> Bool) : Prop where
  rfl' : ∀ i, f i i = false
  trans : ∀ {i j k}, f j i = false -> f k j = false -> f k i = false
  tot : ∀ {i j}, f i j = true -> f j i = false
section
variable {f : Nat -> Nat -> Bool} (O : Ord f) {N : Nat}
abbrev at' (p : Array Nat) (i : Nat) : Nat := p.getD i 0
def Up (f : Nat -> Nat -> Bool) (p : Array Nat) (k : Nat) : Prop := ∀ i j, i <= j -> j < k -> f (at' p j) (at' p i) = false
def Down (f : Nat -> Nat -> Bool) (p : Array Nat) (k : Nat) : Prop := ∀ i j, i <= j -> j < k -> f (at' p i) (at' p j) = false
def Like (f : Nat -> Nat -> Bool) (p : Array Nat) (lo k : Nat) : Prop := ∀ i, lo <= i -> i < k -> f (at' p i) (at' p (k - 1)) = false /\ f (at' p (k - 1)) (at' p i) = false
def Good (N : Nat) (p : Array Nat) : Prop := p.Perm (List.range N).toArray
theorem Good.size {p : Array Nat} (h : Good N p) : p.size = N := by
  have := h.size_eq
  simpa using this
theorem Good.lt {p : Array Nat} (h : Good N p) (hN : 0 < N) (i : Nat) : at' p i < N := by
  unfold at'
  by_cases hi : i < p.size
  · have e : p.getD i 0 = p[i] := by simp [Array.getD, hi]
    rw [e]
    have m : p[i] ∈ (List.range N).toArray := h.mem_iff.mp (Array.getElem_mem hi)
    simpa using m
  · have e : p.getD i 0 = 0 := by simp [Array.getD, hi]
    rw [e]
    exact hN
theorem Good.rev {p : Array Nat} (h : Good N p) (i j : Nat) : Good N (kas_rev p i j) := (mirror_perm _ _ _ _).trans h
theorem Good.bub {p : Array Nat} (h : Good N p) (i j : Nat) : Good N (bubble p i j) := (bubble_perm _ _ _).trans h
theorem getD_of {p q : Array Nat} {i j : Nat} (h : p[i]? = q[j]?) : at' p i = at' q j := by
  unfold at'
  rw [Array.getD_eq_getD_getElem?, Array.getD_eq_getD_getElem?, h]
theorem at_rev {p : Array Nat} {i j : Nat} (hj : j <= p.size) (k : Nat) : at' (kas_rev p i j) k = if i <= k /\ k < j then at' p (i + j - 1 - k) else at' p k := by
  have e := getElem?_mirror_all (i := i) hj k
  unfold kas_rev
  split
  · rename_i c
    rw [if_pos c] at e
    exact getD_of e
  · rename_i c
    rw [if_neg c] at e
    exact getD_of e
theorem at_bub {p : Array Nat} {k l : Nat} (hk : k < p.size) (hl : l <= k) (i : Nat) : at' (bubble p k (k - l)) i = if i = l then at' p k else if l < i /\ i <= k then at' p (i - 1) else at' p i := by
  have e := getElem?_bubble hk (k - l) (by omega) i
  rw [show k - (k - l) = l by omega] at e
  by_cases c : i = l
  · rw [if_pos c] at e ⊢
    exact getD_of e
  · rw [if_neg c] at e ⊢
    split
    · rename_i d
      rw [if_pos d] at e
      exact getD_of e
    · rename_i d
      rw [if_neg d] at e
      exact getD_of e
include O
theorem Up.more {p : Array Nat} {n : Nat} (h : Up f p n) (h1 : 1 <= n) (c : f (at' p n) (at' p (n - 1)) = false) : Up f p (n + 1) := fun i j hij hj => by
  by_cases e : j < n
  · exact h i j hij e
  · have e : j = n := by omega
    subst e
    by_cases e2 : i = j
    · subst e2
      exact O.rfl' _
    · exact O.trans (h i (j - 1) (by omega) (by omega)) c
theorem Down.more {p : Array Nat} {n : Nat} (h : Down f p n) (h1 : 1 <= n) (c : f (at' p (n - 1)) (at' p n) = false) : Down f p (n + 1) := fun i j hij hj => by
  by_cases e : j < n
  · exact h i j hij e
  · have e : j = n := by omega
    subst e
    by_cases e2 : i = j
    · subst e2
      exact O.rfl' _
    · exact O.trans c (h i (j - 1) (by omega) (by omega))
theorem asc_ok {p : Array Nat} (g : Good N p) (hN : 0 < N) : ∀ (m n : Nat), 1 <= n -> Up f p n -> Ok f N (kas_asc p m n) fun r => n <= r /\ r <= n + m /\ Up f p r /\ (r < n + m -> f (at' p r) (at' p (r - 1)) = true)
  | 0, n, _, h => ⟨Nat.le_refl _, Nat.le_refl _, h, fun q => absurd q (by omega)⟩
  | m + 1, n, h1, h => by
    refine ⟨g.lt hN _, g.lt hN _, ?_⟩
    dsimp only
    by_cases c : f (at' p n) (at' p (n - 1)) = true
    · rw [if_pos c]
      exact ⟨Nat.le_refl _, by omega, h, fun _ => c⟩
    · rw [if_neg c]
      refine (asc_ok g hN m (n + 1) (by omega) (h.more O h1 (by simpa using c))).imp fun r ⟨a, b, u, z⟩ => ⟨by omega, by omega, u, fun q => z (by omega)⟩
theorem Like.rev {p : Array Nat} {lo k : Nat} (h : Like f p lo k) (hk : k <= p.size) (i : Nat) : f (at' (kas_rev p lo k) i) (at' p i) = false /\ f (at' p i) (at' (kas_rev p lo k) i) = false := by
  rw [at_rev hk]
  split
  · rename_i c
    obtain ⟨a1, a2⟩ := h i c.1 c.2
    obtain ⟨b1, b2⟩ := h (lo + k - 1 - i) (by omega) (by omega)
    exact ⟨O.trans a2 b1, O.trans b2 a1⟩
  · exact ⟨O.rfl' _, O.rfl' _⟩
theorem Down.rev {p : Array Nat} {lo k n : Nat} (h : Down f p n) (l : Like f p lo k) (hk : k <= p.size) : Down f (kas_rev p lo k) n := fun i j hij hj => by
  obtain ⟨a1, _⟩ := l.rev O hk i
  obtain ⟨_, b2⟩ := l.rev O hk j
  exact O.trans (O.trans b2 (h i j hij hj)) a1
theorem desc_ok (hN : 0 < N) : ∀ (m : Nat) (p : Array Nat) (n q : Nat), Good N p -> 1 <= n -> q + 1 <= n -> n + m <= N -> Down f p n -> Like f p (n - (q + 1)) n ->
    Ok f N (kas_desc m p n q) fun r => Good N r.1 /\ n <= r.2.1 /\ r.2.1 <= n + m /\ Down f r.1 r.2.1 /\ r.2.2 + 1 <= r.2.1 /\ Like f r.1 (r.2.1 - (r.2.2 + 1)) r.2.1
  | 0, p, n, q, g, h1, hq, hn, d, l => ⟨g, Nat.le_refl _, Nat.le_refl _, d, hq, l⟩
  | m + 1, p, n, q, g, h1, hq, hn, d, l => by
    refine ⟨g.lt hN _, g.lt hN _, ?_⟩
    dsimp only
    by_cases c : f (at' p n) (at' p (n - 1)) = true
    · rw [if_pos c]
      have d2 : Down f p (n + 1) := d.more O h1 (O.tot c)
      have one : ∀ p' : Array Nat, Like f p' (n + 1 - (0 + 1)) (n + 1) := fun p' i h2 h3 => by
        have e : i = n + 1 - 1 := by omega
        subst e
        exact ⟨O.rfl' _, O.rfl' _⟩
      by_cases hq0 : q > 0
      · rw [if_pos hq0]
        have hk : n <= p.size := by rw [g.size]; omega
        exact (desc_ok hN m _ (n + 1) 0 (g.rev _ _) (by omega) (by omega) (by omega) (d2.rev O l hk) (one _)).imp fun r ⟨a, b, b2, z⟩ => ⟨a, by omega, by omega, z⟩
      · rw [if_neg hq0]
        exact (desc_ok hN m _ (n + 1) 0 g (by omega) (by omega) (by omega) d2 (one _)).imp fun r ⟨a, b, b2, z⟩ => ⟨a, by omega, by omega, z⟩
    · rw [if_neg c]
      refine ⟨g.lt hN _, g.lt hN _, ?_⟩
      dsimp only
      have c : f (at' p n) (at' p (n - 1)) = false := by simpa using c
      by_cases e : f (at' p (n - 1)) (at' p n) = true
      · rw [if_pos e]
        exact ⟨g, Nat.le_refl _, by show n <= n + (m + 1); omega, d, hq, l⟩
      · rw [if_neg e]
        have e : f (at' p (n - 1)) (at' p n) = false := by simpa using e
        refine (desc_ok hN m p (n + 1) (q + 1) g (by omega) (by omega) (by omega) (d.more O h1 e) fun i h2 h3 => ?_).imp fun r ⟨a, b, b2, z⟩ => ⟨a, by omega, by omega, z⟩
        show f (at' p i) (at' p n) = false /\ f (at' p n) (at' p i) = false
        by_cases ei : i = n
        · subst ei
          exact ⟨O.rfl' _, O.rfl' _⟩
        · obtain ⟨a1, a2⟩ := l i (by omega) (by omega)
          exact ⟨O.trans e a1, O.trans a2 c⟩
def Counted (f : Nat -> Nat -> Bool) (N nrem : Nat) (r : Nat × Array Nat) : Prop := Good N r.2 /\ 1 <= r.1 /\ r.1 <= nrem /\ Up f r.2 r.1
theorem tail_ok (hN : 0 < N) {p : Array Nat} {n nrem : Nat} (g : Good N p) (h1 : 1 <= n) (hn : n <= nrem) (hr : nrem <= N) (d : Down f p n) : Ok f N (kas_tail3 n nrem p) (Counted f N nrem) := by
  unfold kas_tail3
  have u : Up f (kas_rev p 0 n) n := fun i j hij hj => by
    rw [at_rev (by rw [g.size]; omega), at_rev (by rw [g.size]; omega), if_pos (by omega), if_pos (by omega)]
    exact d _ _ (by omega) (by omega)
  exact (asc_ok O (g.rev _ _) hN (nrem - n) n h1 u).bind fun m ⟨a, b, u, _⟩ => ⟨g.rev _ _, by show 1 <= m; omega, by show m <= nrem; omega, u⟩
theorem descPart_ok (hN : 0 < N) {p : Array Nat} {n nrem : Nat} (g : Good N p) (hn : n + 1 <= nrem) (hr : nrem <= N) (d : Down f p (n + 1)) : Ok f N (kas_descPart n nrem p) (Counted f N nrem) := by
  unfold kas_descPart
  refine (desc_ok O hN (nrem - (n + 1)) p (n + 1) 0 g (by omega) (by omega) (by omega) d fun i h2 h3 => ?_).bind fun r ⟨g', a, b, d', hq, l⟩ => ?_
  · have e : i = n + 1 - 1 := by omega
    subst e
    exact ⟨O.rfl' _, O.rfl' _⟩
  · split
    · exact tail_ok O hN (g'.rev _ _) (by omega) (by omega) hr (d'.rev O l (by rw [g'.size]; omega))
    · exact tail_ok O hN g' (by omega) (by omega) hr d'
theorem count_ok (hN : 0 < N) {p : Array Nat} {nrem : Nat} (g : Good N p) (h1 : 1 <= nrem) (hr : nrem <= N) : Ok f N (kas_count nrem p) (Counted f N nrem) := by
  unfold kas_count
  refine (asc_ok O g hN (nrem - 1) 1 (Nat.le_refl _) fun i j hij hj => ?_).bind fun n ⟨a, b, u, st⟩ => ?_
  · have e : i = j := by omega
    subst e
    exact O.rfl' _
  · by_cases e : (n == nrem) = true
    · rw [if_pos e]
      exact ⟨g, a, by show n <= nrem; omega, u⟩
    · rw [if_neg e]
      have e : n ≠ nrem := by simpa using e
      have c := st (by omega)
      by_cases h2 : n > 1
      · rw [if_pos h2]
        refine ⟨g.lt hN _, g.lt hN _, ?_⟩
        dsimp only
        by_cases c2 : f (at' p 0) (at' p (n - 1)) = true
        · rw [if_pos c2]
          exact ⟨g, a, by show n <= nrem; omega, u⟩
        · rw [if_neg c2]
          have c2 : f (at' p 0) (at' p (n - 1)) = false := by simpa using c2
          refine descPart_ok O hN (g.rev _ _) (by omega) hr fun i j hij hj => ?_
          by_cases ej : j < n
          · rw [at_rev (by rw [g.size]; omega), at_rev (by rw [g.size]; omega), if_pos (by omega), if_pos (by omega)]
            exact u _ _ (by omega) (by omega)
          · have ej : j = n := by omega
            subst ej
            by_cases ei : i = j
            · subst ei
              exact O.rfl' _
            · rw [at_rev (by rw [g.size]; omega), at_rev (by rw [g.size]; omega), if_pos (by omega), if_neg (by omega)]
              exact O.trans (O.trans (O.tot c) c2) (u 0 _ (by omega) (by omega))
      · rw [if_neg h2]
        have e1 : n = 1 := by omega
        subst e1
        refine descPart_ok O hN g (by omega) hr fun i j hij hj => ?_
        by_cases ei : i = j
        · subst ei
          exact O.rfl' _
        · have q1 : i = 0 := by omega
          have q2 : j = 1 := by omega
          subst q1
          subst q2
          exact O.tot c
theorem place_ok (hN : 0 < N) {p : Array Nat} {k : Nat} (g : Good N p) (u : Up f p k) : ∀ (m l r : Nat), r - l <= m -> l <= r -> r <= k -> (∀ i, i < l -> f (at' p k) (at' p i) = false) -> (∀ i, r <= i -> i < k -> f (at' p k) (at' p i) = true) ->
    Ok f N (kas_place p k m l r) fun x => x <= k /\ (∀ i, i < x -> f (at' p k) (at' p i) = false) /\ ∀ i, x <= i -> i < k -> f (at' p k) (at' p i) = true
  | 0, l, r, hm, hl, hr, h1, h2 => by
    have e : l = r := by omega
    subst e
    exact ⟨hr, h1, h2⟩
  | m + 1, l, r, hm, hl, hr, h1, h2 => by
    unfold kas_place
    by_cases e : l ≥ r
    · rw [if_pos e]
      have e : l = r := by omega
      subst e
      exact ⟨hr, h1, h2⟩
    · rw [if_neg e]
      refine ⟨g.lt hN _, g.lt hN _, ?_⟩
      dsimp only
      by_cases c : f (at' p k) (at' p ((l + r) / 2)) = true
      · rw [if_pos c]
        refine place_ok hN g u m l _ (by omega) (by omega) (by omega) h1 fun i h3 h4 => ?_
        by_cases ei : f (at' p k) (at' p i) = true
        · exact ei
        · have ei : f (at' p k) (at' p i) = false := by simpa using ei
          have := O.trans (u _ i h3 h4) ei
          rw [c] at this
          cases this
      · rw [if_neg c]
        have c : f (at' p k) (at' p ((l + r) / 2)) = false := by simpa using c
        exact place_ok hN g u m _ r (by omega) (by omega) hr (fun i h3 => O.trans (u i _ (by omega) (by omega)) c) h2
theorem bin_ok (hN : 0 < N) : ∀ (m : Nat) (p : Array Nat) (k : Nat), Good N p -> k + m = N -> Up f p k -> Ok f N (kas_bin m p k) fun r => Good N r /\ Up f r N
  | 0, p, k, g, e, u => by
    have e : k = N := by omega
    subst e
    exact ⟨g, u⟩
  | m + 1, p, k, g, e, u => by
    unfold kas_bin
    refine (place_ok O hN g u k 0 k (by omega) (by omega) (Nat.le_refl _) (fun i h => absurd h (by omega)) fun i h1 h2 => absurd h2 (by omega)).bind fun l ⟨hl, h1, h2⟩ => ?_
    have hk : k < p.size := by rw [g.size]; omega
    refine bin_ok hN m _ (k + 1) (g.bub _ _) (by omega) fun i j hij hj => ?_
    rw [at_bub hk hl, at_bub hk hl]
    by_cases ej : j = l
    · rw [if_pos ej]
      by_cases ei : i = l
      · rw [if_pos ei]
        exact O.rfl' _
      · rw [if_neg ei, if_neg (by omega)]
        exact h1 i (by omega)
    · rw [if_neg ej]
      by_cases ej2 : l < j /\ j <= k
      · rw [if_pos ej2]
        by_cases ei : i = l
        · rw [if_pos ei]
          exact O.tot (h2 (j - 1) (by omega) (by omega))
        · rw [if_neg ei]
          by_cases ei2 : l < i /\ i <= k
          · rw [if_pos ei2]
            exact u _ _ (by omega) (by omega)
          · rw [if_neg ei2]
            exact u _ _ (by omega) (by omega)
      · rw [if_neg ej2]
        rw [if_neg (show ¬ i = l by omega), if_neg (show ¬ (l < i /\ i <= k) by omega)]
        exact u _ _ (by omega) (by omega)
theorem sort_ok (hN : 0 < N) : Ok f N (kas_sort N) fun p => Good N p /\ Up f p N := by
  unfold kas_sort
  refine (count_ok O hN (p := (List.range N).toArray) (Array.Perm.refl _) hN (Nat.le_refl _)).bind fun r ⟨g, h1, h2, u⟩ => ?_
  split
  · rename_i c
    rw [show max r.1 1 = r.1 by omega]
    exact bin_ok O hN _ _ _ g (by omega) u
  · rename_i c
    have e : r.1 = N := by omega
    exact ⟨g, e ▸ u⟩
end
end EvS
set_option Elab.async false
set_option linter.all false
set_option maxRecDepth 100000
namespace EvS
open PySem PySem.W PyProof.Rows
section
variable {prog : Program} {w : World} {A : Around} {E : Value -> Shared -> Prop} {s : Shared}
def Asks (prog : Program) (w : World) (A : Around) (f : Nat -> Nat -> Bool) (vs : List Value) (s : Shared) : Prop :=
  ∃ κ, (∀ Q : SortKind -> Shared -> Prop, Q κ s -> wpAny (model prog w) A (keyKind' vs.toArray) Q (fun _ _ => False) s) /\ ∀ i j C, i < vs.length -> j < vs.length -> C (f i j) s -> kas_ask prog w A κ vs i j C s
def KeptBut (a : Addr) (h h' : Heap) : Prop := ∀ b o, b ≠ a -> h.get? b = some o -> h'.get? b = some o
def putBy (p : Array Nat) (vs : List Value) : List Value := p.toList.map fun i => vs.getD i Value.none
theorem putBy_range (vs : List Value) : putBy (List.range vs.length).toArray vs = vs := by
  unfold putBy
  apply List.ext_getElem?
  intro i
  simp only [List.getElem?_map]
  by_cases h : i < vs.length
  · simp [h]
  · simp [Nat.le_of_not_lt h]
theorem sort_raw {a : Addr} {vs : List Value} {n : Nat} {f : Nat -> Nat -> Bool} {P : Fin -> Shared -> Prop} (O : Ord f) (ho : s.heap.get? a = some (seqObj "list" vs.toArray n)) (h64 : vs.length < 64)
    (hask : 2 <= vs.length -> ∀ h', KeptBut a s.heap h' -> Asks prog w A f vs { s with heap := h' })
    (h : ∀ (p : Array Nat) (h' : Heap) (e : Nat), Good vs.length p -> Up f p vs.length -> h'.get? a = some (seqObj "list" (putBy p vs).toArray e) -> KeptBut a s.heap h' -> P (.done (.ret .none)) { s with heap := h' }) :
    wpAny (model prog w) A (Builtin.«list.sort» ⟨[.ref a], []⟩) P E s := by
  have haz : a < s.heap.objs.size := Heap.lt_size ho
  obtain ⟨e1, ho1⟩ : ∃ e1, (s.heap.update a (Obj.mapSeq fun _ => (#[] : Array Value))).get? a = some (seqObj "list" #[] e1) := ⟨_, get?_update_seq ho (fun _ => #[])⟩
  have l64 : vs.length <= sizeLine := by
    have := sizeLine_eq
    omega
  rw [list_sort_plain]
  refine wpAny_bind (listItems_at ho rfl (wpAny_bind (listUpdate_at ho rfl (wpAny_bind (seqEpoch_at ho1 rfl (wpAny_bind (wpAny_newTuple (wpAny_bind (wpAny_newList (wpAny_holding ?_) (Nat.zero_le _))) l64)))) (by simpa using l64) (Nat.zero_le _))))
  have keep : ∀ g : Array Value -> Array Value, KeptBut a s.heap ((((s.heap.update a (Obj.mapSeq fun _ => (#[] : Array Value))).push (seqObj "tuple" vs.toArray 0)).push (seqObj "list" #[] 0)).update a (Obj.mapSeq g)) := fun g b o hb e => by
    refine (Heap.get?_update_other _ _ (Ne.symm hb)).trans (Heap.get?_push_of_some _ (Heap.get?_push_of_some _ ?_))
    exact (Heap.get?_update_other _ _ (Ne.symm hb)).trans e
  have keep0 : KeptBut a s.heap (((s.heap.update a (Obj.mapSeq fun _ => (#[] : Array Value))).push (seqObj "tuple" vs.toArray 0)).push (seqObj "list" #[] 0)) := fun b o hb e =>
    Heap.get?_push_of_some _ (Heap.get?_push_of_some _ ((Heap.get?_update_other _ _ (Ne.symm hb)).trans e))
  have hoB : (((s.heap.update a (Obj.mapSeq fun _ => (#[] : Array Value))).push (seqObj "tuple" vs.toArray 0)).push (seqObj "list" #[] 0)).get? a = some (seqObj "list" #[] e1) := Heap.get?_push_of_some _ (Heap.get?_push_of_some _ ho1)
  show wpAny (model prog w) A _ P E { s with heap := ((s.heap.update a (Obj.mapSeq fun _ => (#[] : Array Value))).push (seqObj "tuple" vs.toArray 0)).push (seqObj "list" #[] 0) }
  dsimp only
  by_cases h2 : vs.toArray.size < 2
  · rw [if_pos h2, if_pos h2]
    refine wpAny_bind (wpAny_pure ?_)
    rw [StateT.run_pure]
    have eout : ((vs.toArray.zip vs.toArray).map fun x : Keyed => x.2) = (putBy (List.range vs.length).toArray vs).toArray := by
      rw [putBy_range]
      apply Array.ext'
      simp [List.map_snd_zip]
    refine wpAny_bind (wpAny_pure (wpAny_bind (seqEpoch_at hoB rfl (wpAny_bind (listUpdate_at hoB rfl ?_ (Nat.zero_le _) ?_)))))
    · simp only [bne_self_eq_false, Bool.false_eq_true, if_false]
      refine wpAny_pure (h (List.range vs.length).toArray _ _ (Array.Perm.refl _) (fun i j hij hj => ?_) ((get?_update_seq hoB _).trans (congrArg (fun z => some (seqObj "list" z _)) eout)) (keep _))
      · have e : i = j := by
          simp only [List.size_toArray] at h2
          omega
        subst e
        exact O.rfl' _
    · have e : ((vs.toArray.zip vs.toArray).map fun x : Keyed => x.2).size <= sizeLine + 1 := by
        simp only [Array.size_map, Array.size_zip, List.size_toArray]
        omega
      exact e
  · rw [if_neg h2, if_neg h2]
    have h2' : 2 <= vs.length := by
      simp only [List.size_toArray] at h2
      omega
    obtain ⟨κ, hk, hc⟩ := hask h2' _ keep0
    refine wpAny_bind (wpAny_mono (hk (fun k s' => k = κ /\ s' = _) ⟨rfl, rfl⟩) (fun k s' hks => ?_) fun _ _ x => x.elim)
    obtain ⟨rfl, rfl⟩ := hks
    refine wpAny_bind (wpAny_mono (kat_run (ks := vs) (vs := vs) (G := fun p s' => s' = { s with heap := ((s.heap.update a (Obj.mapSeq fun _ => (#[] : Array Value))).push (seqObj "tuple" vs.toArray 0)).push (seqObj "list" #[] 0) } /\ Good vs.length p /\ Up f p vs.length)
      (Q := fun st' s' => ∃ p : Array Nat, arrOf st' = p.map (kas_item (vs.toArray.zip vs.toArray)) /\ failedOf st' = none /\ s' = { s with heap := ((s.heap.update a (Obj.mapSeq fun _ => (#[] : Array Value))).push (seqObj "tuple" vs.toArray 0)).push (seqObj "list" #[] 0) } /\ Good vs.length p /\ Up f p vs.length)
      rfl h2' h64 (fun p st' s' _ q1 q2 q3 => ⟨p, q1, q2, q3⟩) (Ok.wp hc (fun p q => ⟨rfl, q⟩) (sort_ok O (by omega)))) ?_ fun _ _ x => x)
    rintro ⟨⟨⟩, st'⟩ s' ⟨p, har, hf, hs', g, u⟩
    have hs' : s' = { s with heap := ((s.heap.update a (Obj.mapSeq fun _ => (#[] : Array Value))).push (seqObj "tuple" vs.toArray 0)).push (seqObj "list" #[] 0) } := hs'
    subst hs'
    have eout : ((arrOf st').map fun x : Keyed => x.2) = (putBy p vs).toArray := by
      rw [har]
      apply Array.ext'
      unfold putBy
      simp only [Array.map_map, Array.toList_map, List.toList_toArray]
      refine List.map_congr_left fun i _ => ?_
      show (kas_item (vs.toArray.zip vs.toArray) i).2 = _
      unfold kas_item
      by_cases hi : i < vs.length
      · simp [Array.getD, hi]
      · simp [Array.getD, hi, Nat.le_of_not_lt hi]
    have esz : ((arrOf st').map fun x : Keyed => x.2).size = vs.length := by
      rw [eout]
      unfold putBy
      simp only [List.size_toArray, List.length_map, Array.length_toList]
      exact g.size
    refine wpAny_bind (seqEpoch_at hoB rfl (wpAny_bind (listUpdate_at hoB rfl ?_ (Nat.zero_le _) (by rw [esz]; omega))))
    rw [hf]
    simp only [bne_self_eq_false, Bool.false_eq_true, if_false]
    exact wpAny_pure (h p _ _ g u ((get?_update_seq hoB _).trans (congrArg (fun z => some (seqObj "list" z _)) eout)) (keep _))
theorem sorted_raw {x : Value} {f : Nat -> Nat -> Bool} {Q : Value -> Shared -> Prop} (O : Ord f)
    (hcol : wpAny (model prog w) A.in1 (collect x) (fun vs s1 => vs.length < 64 /\ (2 <= vs.length -> ∀ h' : Heap, (∀ b o, s1.heap.get? b = some o -> h'.get? b = some o) -> Asks prog w A.in1.in1 f vs { s1 with heap := h' }) /\
      ∀ (p : Array Nat) (h' : Heap) (e : Nat), Good vs.length p -> Up f p vs.length -> h'.get? s1.heap.objs.size = some (seqObj "list" (putBy p vs).toArray e) -> (∀ b o, s1.heap.get? b = some o -> h'.get? b = some o) -> Q (.ref s1.heap.objs.size) { s1 with heap := h' }) E s) :
    wpAny (model prog w) A (call (.builtin "sorted") [x]) Q E s := by
  refine Calls.call_function_entry kind_sorted plain_sorted entry_sorted (args_sorted1 _) ?_
  unfold Builtin.«sorted»
  refine wpAny_bind (m := checkCount "sorted" 1 1 _) (wpAny_pure (wpAny_bind (wpAny_mono hcol (fun vs s1 q => ?_) fun _ _ z => z)))
  obtain ⟨h64, hask, hQ⟩ := q
  refine wpAny_bind (wpAny_newList ?_ (by have := sizeLine_eq; omega))
  have hn : (s1.heap.push (seqObj "list" vs.toArray 0)).get? s1.heap.objs.size = some (seqObj "list" vs.toArray 0) := Heap.get?_push_size _ rfl
  have old : ∀ h', KeptBut s1.heap.objs.size (s1.heap.push (seqObj "list" vs.toArray 0)) h' -> ∀ b o, s1.heap.get? b = some o -> h'.get? b = some o := fun h' k b o e =>
    k b o (Nat.ne_of_lt (Heap.lt_size e)) (Heap.get?_push_of_some _ e)
  refine wpAny_bind (wpAny_holding (wpAny_call_entry slot_list_sort ⟨_, hn, rfl⟩ entry_list_sort (sort_raw O hn h64 (fun h2 h' k => hask h2 h' (old h' k)) fun p h' e g u q k => ⟨_, rfl, ?_⟩) (args_list_sort _)))
  exact wpAny_pure ⟨_, rfl, hQ p h' e g u q (old h' k)⟩
end
end EvS
set_option Elab.async false
set_option linter.all false
set_option maxRecDepth 100000
namespace L2
open PySem PySem.Spec PyProof.Rows PySem.W EvS
def kLt : Key -> Key -> Bool
  | .inl i, .inl j => decide (i < j)
  | .inl _, .inr _ => true
  | .inr _, .inl _ => false
  | .inr x, .inr y => decide (x.cps.toList < y.cps.toList)
def lexK : List Key -> List Key -> Bool
  | [], [] => false
  | [], _ :: _ => true
  | _ :: _, [] => false
  | a :: r, b :: q => if a = b then lexK r q else kLt a b
theorem kLt_irr : ∀ a : Key, kLt a a = false
  | .inl i => by simp [kLt]
  | .inr x => by simp [kLt, List.lt_irrefl]
theorem kLt_asymm : ∀ {a b : Key}, kLt a b = true -> kLt b a = false
  | .inl i, .inl j, h => by
    simp only [kLt, decide_eq_true_eq, decide_eq_false_iff_not] at *
    omega
  | .inl _, .inr _, _ => rfl
  | .inr _, .inl _, h => by cases h
  | .inr x, .inr y, h => by
    simp only [kLt, decide_eq_true_eq, decide_eq_false_iff_not] at *
    exact fun q => List.lt_irrefl _ (List.lt_trans h q)
theorem kLt_tot : ∀ {a b : Key}, kLt a b = false -> kLt b a = false -> a = b
  | .inl i, .inl j, h, h2 => by
    simp only [kLt, decide_eq_false_iff_not] at *
    rw [show i = j by omega]
  | .inl _, .inr _, h, _ => by cases h
  | .inr _, .inl _, _, h => by cases h
  | .inr x, .inr y, h, h2 => by
    simp only [kLt, decide_eq_false_iff_not] at *
    rw [ext_toList (List.le_antisymm (List.not_lt.mp h2) (List.not_lt.mp h))]
theorem kLt_trans : ∀ {a b c : Key}, kLt a b = true -> kLt b c = true -> kLt a c = true
  | .inl i, .inl j, .inl k, h, h2 => by
    simp only [kLt, decide_eq_true_eq] at *
    omega
  | .inl _, .inl _, .inr _, _, _ => rfl
  | .inl _, .inr _, .inr _, _, _ => rfl
  | .inl _, .inr _, .inl _, _, h => by cases h
  | .inr _, .inl _, _, h, _ => by cases h
  | .inr _, .inr _, .inl _, _, h => by cases h
  | .inr x, .inr y, .inr z, h, h2 => by
    simp only [kLt, decide_eq_true_eq] at *
    exact List.lt_trans h h2
theorem lexK_irr : ∀ a : List Key, lexK a a = false
  | [] => rfl
  | a :: r => by
    unfold lexK
    rw [if_pos rfl]
    exact lexK_irr r
theorem lexK_asymm : ∀ {a b : List Key}, lexK a b = true -> lexK b a = false
  | [], [], h => by cases h
  | [], _ :: _, _ => rfl
  | _ :: _, [], h => by cases h
  | a :: r, b :: q, h => by
    unfold lexK at h ⊢
    by_cases e : a = b
    · rw [if_pos e] at h
      rw [if_pos e.symm]
      exact lexK_asymm h
    · rw [if_neg e] at h
      rw [if_neg (Ne.symm e)]
      exact kLt_asymm h
theorem lexK_tot : ∀ {a b : List Key}, lexK a b = false -> lexK b a = false -> a = b
  | [], [], _, _ => rfl
  | [], _ :: _, h, _ => by cases h
  | _ :: _, [], _, h => by cases h
  | a :: r, b :: q, h, h2 => by
    unfold lexK at h h2
    by_cases e : a = b
    · rw [if_pos e] at h
      rw [if_pos e.symm] at h2
      rw [e, lexK_tot h h2]
    · rw [if_neg e] at h
      rw [if_neg (Ne.symm e)] at h2
      exact absurd (kLt_tot h h2) e
theorem lexK_ltTrans : ∀ {a b c : List Key}, lexK a b = true -> lexK b c = true -> lexK a c = true
  | [], _, [], h, h2 => by
    rename_i b
    cases b with
    | nil => cases h
    | cons _ _ => cases h2
  | [], _, _ :: _, _, _ => rfl
  | _ :: _, [], _, h, _ => by cases h
  | _ :: _, _ :: _, [], _, h => by cases h
  | a :: r, b :: q, c :: t, h, h2 => by
    unfold lexK at h h2 ⊢
    by_cases e : a = b
    · subst e
      rw [if_pos rfl] at h
      by_cases e2 : a = c
      · rw [if_pos e2] at h2 ⊢
        exact lexK_ltTrans h h2
      · rw [if_neg e2] at h2 ⊢
        exact h2
    · rw [if_neg e] at h
      by_cases e2 : b = c
      · subst e2
        rw [if_neg e]
        exact h
      · rw [if_neg e2] at h2
        have h3 := kLt_trans h h2
        rw [if_neg (fun q => by rw [q, kLt_irr] at h3; cases h3)]
        exact h3
theorem lexK_trans {a b c : List Key} (h : lexK b a = false) (h2 : lexK c b = false) : lexK c a = false := by
  cases e : lexK c a with
  | false => rfl
  | true =>
    by_cases e1 : lexK a b = true
    · have := lexK_ltTrans e e1
      rw [h2] at this
      cases this
    · have e1 : lexK a b = false := by simpa using e1
      have := lexK_tot e1 h
      subst this
      rw [h2] at e
      cases e
def Asc (ks : List (List Key)) : Prop := ks.Pairwise fun a b => lexK b a = false
theorem asc_unique : ∀ {a b : List (List Key)}, a.Perm b -> Asc a -> Asc b -> a = b
  | [], b, p, _, _ => by
    have := p.length_eq
    cases b with
    | nil => rfl
    | cons _ _ => cases this
  | x :: r, [], p, _, _ => by
    have := p.length_eq
    cases this
  | x :: r, y :: q, p, h1, h2 => by
    obtain ⟨a1, a2⟩ := List.pairwise_cons.mp h1
    obtain ⟨b1, b2⟩ := List.pairwise_cons.mp h2
    have e : x = y := by
      rcases List.mem_cons.mp (p.mem_iff.mp List.mem_cons_self) with m | m
      · exact m
      · rcases List.mem_cons.mp (p.mem_iff.mpr List.mem_cons_self) with m2 | m2
        · exact m2.symm
        · exact lexK_tot (b1 _ m) (a1 _ m2)
    subst e
    rw [asc_unique ((List.perm_cons _).mp p) a2 b2]
def sortKs (ks : List (List Key)) : List (List Key) := ks.mergeSort fun a b => !lexK b a
theorem sortKs_perm (ks : List (List Key)) : (sortKs ks).Perm ks := List.mergeSort_perm _ _
theorem sortKs_asc (ks : List (List Key)) : Asc (sortKs ks) := by
  have := List.pairwise_mergeSort (le := fun a b => !lexK b a) (fun a b c h1 h2 => by
    simp only [Bool.not_eq_true'] at *
    exact lexK_trans h1 h2) (fun a b => by
    simp only [Bool.or_eq_true, Bool.not_eq_true']
    by_cases e : lexK b a = true
    · exact .inr (lexK_asymm e)
    · exact .inl (by simpa using e)) ks
  exact this.imp fun h => by simpa using h
theorem sortKs_eq {ks ks' : List (List Key)} (p : ks'.Perm ks) (h : Asc ks') : ks' = sortKs ks := asc_unique (p.trans (sortKs_perm ks).symm) h (sortKs_asc ks)
theorem map_put_perm {α : Type} {p : Array Nat} {n : Nat} (g : Good n p) (F : Nat -> α) : (p.toList.map F).Perm ((List.range n).map F) := by
  have e : p.toList.Perm (List.range n) := by
    have := Array.perm_iff_toList_perm.mp g
    simpa using this
  exact e.map F
theorem asc_put {p : Array Nat} {ks : List (List Key)} {f : Nat -> Nat -> Bool} (hf : ∀ i j, i < ks.length -> j < ks.length -> f i j = lexK (ks.getD i []) (ks.getD j [])) (g : Good ks.length p) (u : Up f p ks.length) : Asc (p.toList.map fun i => ks.getD i []) := by
  unfold Asc
  rw [List.pairwise_map, List.pairwise_iff_getElem]
  intro i j hi hj hij
  have hs := g.size
  rw [Array.length_toList] at hi hj
  have hj' : j < ks.length := by omega
  have q := u i j (Nat.le_of_lt hij) hj'
  have hN : 0 < ks.length := by omega
  rw [hf _ _ (g.lt hN _) (g.lt hN _)] at q
  have e1 : at' p i = p.toList[i] := by simp [at', Array.getD, hi]
  have e2 : at' p j = p.toList[j] := by simp [at', Array.getD, hj]
  rw [e1, e2] at q
  exact q
theorem ord_keys (ks : List (List Key)) : Ord fun i j => lexK (ks.getD i []) (ks.getD j []) := ⟨fun _ => lexK_irr _, fun h h2 => lexK_trans h h2, fun h => lexK_asymm h⟩
theorem map_range_getD {α : Type} (d : α) (l : List α) : ((List.range l.length).map fun i => l.getD i d) = l := by
  apply List.ext_getElem?
  intro i
  simp only [List.getElem?_map]
  by_cases h : i < l.length
  · simp [h]
  · simp [Nat.le_of_not_lt h]
theorem vals_put {ys : List V} {vs : List Value} (r : Vals ys vs) {p : Array Nat} (g : Good vs.length p) : Vals (p.toList.map fun i => ys.getD i .non) (putBy p vs) := by
  unfold putBy
  have key : ∀ l : List Nat, (∀ i ∈ l, i < vs.length) -> Vals (l.map fun i => ys.getD i .non) (l.map fun i => vs.getD i Value.none) := fun l => by
    induction l with
    | nil => exact fun _ => .nil
    | cons i l ih =>
      intro h
      refine .cons ?_ (ih fun j hj => h j (List.mem_cons_of_mem _ hj))
      have hi := h i List.mem_cons_self
      have hy : i < ys.length := by rw [r.length]; exact hi
      obtain ⟨u, hu, ru⟩ := r.get (List.getElem?_eq_getElem hy)
      have e1 : ys.getD i .non = ys[i] := by simp [hy]
      have e2 : vs.getD i Value.none = u := by simp [hu]
      show RelV (ys.getD i .non) (vs.getD i Value.none)
      rw [e1, e2]
      exact ru
  refine key p.toList fun i hi => ?_
  have m : i ∈ (List.range vs.length).toArray := g.mem_iff.mp (by simpa using hi)
  simpa using m
def isS : Key -> Bool
  | .inl _ => false
  | .inr _ => true
theorem oneLt_key {prog : Program} {w : World} {A : Around} {E : Value -> Shared -> Prop} {s : Shared} {c : Bool} {a b : Key} {p q : Value} {Q : Bool -> Shared -> Prop} (ra : RelV (kV a) p) (rb : RelV (kV b) q) (hk : isS a = isS b) (h : Q (kLt a b) s) :
    wpAny (model prog w) A (oneLt' c p q) Q E s := by
  cases a with
  | inl i =>
    cases b with
    | inr y => cases hk
    | inl j =>
      obtain ⟨t, rfl⟩ := ra
      obtain ⟨u, rfl⟩ := rb
      cases c with
      | true => exact oneLt_int h
      | false => exact kat_one _ _ (lt_int (show PySem.W.BoolBack Q (.bool _) s from h))
  | inr x =>
    cases b with
    | inl j => cases hk
    | inr y =>
      obtain ⟨t, rfl⟩ := ra
      obtain ⟨u, rfl⟩ := rb
      cases c with
      | true => exact oneLt_str h
      | false => exact kat_one _ _ (PyProof.Rows.lt_str (show PySem.W.BoolBack Q (.bool _) s from h))
theorem eqV_key {a b : Key} (hk : isS a = isS b) : eqV (kV a) (kV b) = decide (a = b) := by
  cases a with
  | inl i =>
    cases b with
    | inr y => cases hk
    | inl j =>
      show (i == j) = _
      by_cases e : i = j
      · subst e
        simp
      · rw [decide_eq_false (fun q => e (Sum.inl.inj q))]
        simpa using e
  | inr x =>
    cases b with
    | inl j => cases hk
    | inr y =>
      show (x == y) = _
      by_cases e : x = y
      · subst e
        simp
      · rw [decide_eq_false (fun q => e (Sum.inr.inj q))]
        simpa using e
theorem flat_key (a : Key) : flatV (kV a) = true := by cases a <;> rfl
theorem katlex_keys {prog : Program} {w : World} {A : Around} {s : Shared} {Q : Bool -> Shared -> Prop} : ∀ {k1 k2 : List Key} {us vs : List Value} (i : Nat), Vals (k1.map kV) us -> Vals (k2.map kV) vs -> k1.map isS = k2.map isS -> Q (lexK k1 k2) s -> KatLex prog w A true false Q (us.zip vs) i s
  | [], [], _, _, i, .nil, .nil, _, h => h
  | [], _ :: _, _, _, _, _, _, h, _ => by cases h
  | _ :: _, [], _, _, _, _, _, h, _ => by cases h
  | a :: k1, b :: k2, u :: us, v :: vs, i, .cons ra r1, .cons rb r2, hk, h => by
    obtain ⟨e1, e2⟩ := List.cons.inj hk
    refine kat_cons ?_
    refine eqAt_V ra rb (flat_key a) (flat_key b) prog w _ _ ?_
    rw [eqV_key e1]
    unfold lexK at h
    by_cases e : a = b
    · rw [if_pos e] at h
      rw [decide_eq_true e]
      exact kat_yes (katlex_keys (i + 1) r1 r2 e2 h)
    · rw [if_neg e] at h
      rw [decide_eq_false e]
      exact kat_no (oneLt_key ra rb e1 h)
def TupsAt (K : PySem.W.Frag) (H : Hp) : List V -> List (List Key) -> Prop := Paired fun y k => ∃ a, y = V.ref a /\ H a = some (.tup (k.map kV))
def Alike (ks : List (List Key)) (sh : List Bool) : Prop := sh ≠ [] /\ ∀ k ∈ ks, k.map isS = sh
theorem asks_tups {X : Cx} {pins : List (Addr × Obj)} {σ : St} {H : Hp} {s s' : Shared} {A : Around} {ys : List V} {ks : List (List Key)} {sh : List Bool} {vs : List Value} (I : Inv X pins σ H s) (r : Vals ys vs) (t : TupsAt X.K H ys ks) (al : Alike ks sh) (h2 : 2 <= vs.length)
    (kp : ∀ b o, s.heap.get? b = some o -> s'.heap.get? b = some o) : Asks X.prog X.w A (fun i j => lexK (ks.getD i []) (ks.getD j [])) vs s' := by
  have look : ∀ k, k < vs.length -> ∃ a its, vs.getD k Value.none = .ref a /\ Vals ((ks.getD k []).map kV) its /\ IsTup s'.heap a its.toArray /\ ks.getD k [] ∈ ks := fun k hk => by
    have hy : k < ys.length := by rw [r.length]; exact hk
    have hk2 : k < ks.length := by rw [<- Paired.length t]; exact hy
    obtain ⟨u, hu, ru⟩ := r.get (List.getElem?_eq_getElem hy)
    have gen : ∀ {ys : List V} {ks : List (List Key)} (k : Nat) (hy : k < ys.length) (hk2 : k < ks.length), TupsAt X.K H ys ks -> ∃ a, ys[k] = V.ref a /\ H a = some (.tup (ks[k].map kV)) := fun {ys ks} k hy hk2 t => by
      induction t generalizing k with
      | nil => exact absurd hy (by simp)
      | cons h t ih =>
        cases k with
        | zero => exact h
        | succ k => exact ih k (by simpa using hy) (by simpa using hk2)
    obtain ⟨a, e, sq⟩ := gen k hy hk2 t
    obtain ⟨its, ri, ti, _⟩ := I.tuple (SqT.of sq)
    rw [e] at ru
    cases ru
    have e2 : ks.getD k [] = ks[k] := by simp [hk2]
    refine ⟨a, its, by simp [hu], by rw [e2]; exact ri, ti.keeps kp, ?_⟩
    rw [e2]
    exact List.getElem_mem hk2
  obtain ⟨hne, hal⟩ := al
  obtain ⟨c, sh', rfl⟩ : ∃ c sh', sh = c :: sh' := by
    cases sh with
    | nil => exact absurd rfl hne
    | cons c sh' => exact ⟨c, sh', rfl⟩
  refine ⟨tuples' true, fun Q q => ?_, fun i j C hi hj hC => ?_⟩
  · have firsts : ∀ l : List Value, (∀ v ∈ l, ∃ (a : Addr) (its : List Value) (k : List Key), v = .ref a /\ Vals (k.map kV) its /\ IsTup s'.heap a its.toArray /\ k.map isS = c :: sh') -> ∃ fs, KatTups s'.heap l fs /\ fs.length = l.length /\ ∀ v ∈ fs, Looks (model X.prog X.w) s'.heap (typeOf v) (.type (if c then "str" else "int")) := fun l => by
      induction l with
      | nil => exact fun _ => ⟨[], .nil, rfl, fun _ h => nomatch h⟩
      | cons v l ih =>
        intro h
        obtain ⟨fs, h1, h2, h3⟩ := ih fun v hv => h v (List.mem_cons_of_mem _ hv)
        obtain ⟨a, its, k, rfl, rv, ⟨o, ho, hc, n, hd⟩, hk⟩ := h v List.mem_cons_self
        match k, its, rv, hk with
        | k0 :: k, u :: its, .cons r0 _, hk =>
          refine ⟨u :: fs, .cons ho hc hd (by simp) h1, by simp [h2], fun v hv => ?_⟩
          rcases List.mem_cons.mp hv with e | hv
          · subst e
            have e0 := (List.cons.inj hk).1
            cases k0 with
            | inl i =>
              obtain ⟨t, rfl⟩ := r0
              rw [<- e0]
              exact .now
            | inr x =>
              obtain ⟨t, rfl⟩ := r0
              rw [<- e0]
              exact .now
          · exact h3 v hv
    obtain ⟨fs, h1, h3, h4⟩ := firsts vs fun v hv => by
      obtain ⟨k, hk, rfl⟩ := List.getElem_of_mem hv
      obtain ⟨a, its, e, rv, ti, m⟩ := look k hk
      refine ⟨a, its, _, ?_, rv, ti, hal _ m⟩
      rw [<- e]
      simp [hk]
    refine kat_kind h1 (by omega) h4 (by cases c <;> decide) ?_
    have e : ((Value.type (if c then "str" else "int")) != Value.type "tuple") = true := by cases c <;> decide
    rw [e]
    exact q
  · unfold kas_ask
    obtain ⟨a, its, e1, r1, ⟨o, ho, _, n, hd⟩, m1⟩ := look i hi
    obtain ⟨b, its2, e2, r2, ⟨o2, ho2, _, n2, hd2⟩, m2⟩ := look j hj
    rw [e1, e2]
    refine kat_lt ho hd ho2 hd2 ?_
    have l1 := r1.length
    have l2 := r2.length
    have l3 := congrArg List.length ((hal _ m1).trans (hal _ m2).symm)
    simp only [List.length_map] at l1 l2 l3
    rw [show decide (its.toArray.size < its2.toArray.size) = false by simp; omega]
    exact katlex_keys 0 r1 r2 ((hal _ m1).trans (hal _ m2).symm) hC
end L2
set_option Elab.async false
set_option linter.all false
set_option maxRecDepth 100000
namespace EvD
open PySem PySem.W PyProof.Rows
section
variable {prog : Program} {w : World} {A : Around} {E : Value -> Shared -> Prop} {s : Shared}
def Raw (h : Heap) (d : Addr) (es : Array DictEntry) (ep : Nat) : Prop := ∃ o, h.get? d = some o /\ o.ExactDict /\ o.data = .dict es ep
theorem Raw.stay {h h' : Heap} {d : Addr} {es : Array DictEntry} {ep : Nat} (x : Raw h d es ep) (k : ∀ o, h.get? d = some o -> h'.get? d = some o) : Raw h' d es ep := let ⟨o, e, r⟩ := x; ⟨o, k o e, r⟩
theorem Raw.ty {d : Addr} {es : Array DictEntry} {ep : Nat} (x : Raw s.heap d es ep) : s.TypeIs (.ref d) "dict" := let ⟨o, e, c, _⟩ := x; ⟨o, e, c.1⟩
theorem raw_iter {d : Addr} {es : Array DictEntry} {ep : Nat} {Q : Value -> Shared -> Prop} (hd : (d == sysModules) = false) (x : Raw s.heap d es ep)
    (q : Q (.ref s.heap.objs.size) { s with heap := s.heap.push { cls := .type "dict_keyiterator", data := .fields #[.ref d, .int 0 0, .int es.size 0, .int ep 0] } }) :
    wpAny (model prog w) A (pyIter (.ref d)) Q E s := by
  obtain ⟨o, ho, hc, hdat⟩ := id x
  refine wpAny_pyIter_slot x.ty F.slot_dict_iter (wpAny_call_entry F.slot_dict_iter x.ty F.entry_dict_iter ?_ (F.args_dict_iter_1 _))
  unfold Builtin.«dict.__iter__» Builtin.Dict.dictSlotNone
  refine wpAny_bind (wpAny_bind (wpAny_notOrdered_dict x.ty (show wpAny _ _ (pure (Value.ref d)) _ _ s from wpAny_pure (show wpAny _ _ (Builtin.Dict.showsAll d >>= _) _ _ s from ?_))))
  unfold Builtin.Dict.showsAll
  rw [if_neg (by rw [hd]; decide)]
  refine wpAny_bind (wpAny_pure (wpAny_bind (wpAny_dictEntries ho hdat (wpAny_bind (wpAny_dictEpoch ho hdat (wpAny_bind (wpAny_newObj_type (wpAny_pure ⟨_, rfl, "dict_keyiterator", _, ⟨_, Heap.get?_push_size _ rfl, rfl⟩, F.slot_dict_keyiterator_next.lookup, ?_⟩))))))))
  exact q
theorem raw_next {it d : Addr} {i ep : Nat} {es : Array DictEntry} {Q : Option Value -> Shared -> Prop} (hit : s.heap.IsKeyIter it d i es.size ep) (x : Raw s.heap d es ep) (hi : i < es.size)
    (q : ∀ h', h'.IsKeyIter it d (i + 1) es.size ep -> Heap.SameBut it s.heap h' -> Q (some es[i].key) { s with heap := h' }) : wpAny (model prog w) A (pyNext (.ref it)) Q E s := by
  obtain ⟨o, ho, hc, hd⟩ := id hit
  obtain ⟨od, hod, hcd, hdd⟩ := id x
  unfold pyNext
  refine wpAny_bind (wpAny_attempt (wpAny_callSpecial?_slot (name := Str.ofString "__next__") hit.typeIs F.slot_dict_keyiterator_next (wpAny_call_entry F.slot_dict_keyiterator_next hit.typeIs F.entry_dict_keyiterator_next ?_ (F.args_dict_keyiterator_next_1 _))))
  refine wpAny_bind (wpAny_pure (wpAny_bind (wpAny_bind ?_)))
  first | refine wpAny_bind (wpAny_typeNameOfWhole_keyiter hit.typeIs (wpAny_pure (wpAny_bind (wpAny_fieldsOf ho hd ?_)))) | refine wpAny_bind (wpAny_typeNameOf_keyiter hit.typeIs (wpAny_pure (wpAny_bind (wpAny_fieldsOf ho hd ?_))))
  simp only [show Builtin.Dict_items.ownsTuple "dict_keyiterator" = false by decide, Bool.false_eq_true, if_false]
  refine (show wpAny _ _ (if (Value.ref d == Value.none) = true then _ else _) _ _ s from ?_)
  rw [if_neg (fun z => by cases z)]
  refine wpAny_bind (wpAny_pure (wpAny_bind (wpAny_dictEntries hod hdd ?_)))
  rw [if_neg (by simp)]
  refine wpAny_bind (wpAny_pure (wpAny_bind (wpAny_dictEpoch hod hdd ?_)))
  rw [if_neg (by simp)]
  refine wpAny_pure ?_
  simp only [show ¬ ((i : Int) < 0) from by omega, if_false, Int.toNat_natCast, Array.getElem?_eq_getElem hi]
  refine wpAny_bind ?_
  first | refine wpAny_bind (wpAny_typeNameOfWhole_keyiter hit.typeIs (wpAny_pure (wpAny_bind (wpAny_isOneOf_keyiter hit.typeIs ?_)))) | refine wpAny_bind (wpAny_typeNameOf_keyiter hit.typeIs (wpAny_pure (wpAny_bind (wpAny_isOneOf_keyiter hit.typeIs ?_))))
  refine (show wpAny _ _ (setField (.ref it) 1 (rawInt ((i : Int) + 1)) >>= _) _ _ s from wpAny_bind (wpAny_setField ho hd (by simp) ?_))
  have turned : (s.heap.update it (Obj.mapFields (·.setIfInBounds 1 (rawInt ((i : Int) + 1))))).IsKeyIter it d (i + 1) es.size ep :=
    ⟨_, Heap.get?_update_self _ ho (Obj.isFreed_of_fields (Obj.data_mapFields hd _)), (Obj.cls_mapFields ..).trans hc, by rw [Obj.data_mapFields hd]; simp [rawInt]⟩
  refine wpAny_bind (wpAny_holding (wpAny_bind (wpAny_isOneOf_keyiter (s := { s with heap := s.heap.update it (Obj.mapFields (·.setIfInBounds 1 (rawInt ((i : Int) + 1)))) }) turned.typeIs ?_)))
  exact (show wpAny _ _ (pure es[i].key) _ _ _ from wpAny_pure (wpAny_pure ⟨_, rfl, wpAny_pure (q _ turned (Heap.SameBut.update ..))⟩))
theorem raw_stop {it d : Addr} {ep : Nat} {es : Array DictEntry} {Q : Option Value -> Shared -> Prop} (hh : A.handled = none) (hit : s.heap.IsKeyIter it d es.size es.size ep) (x : Raw s.heap d es ep)
    (q : ∀ h', Heap.ExtBut it s.heap h' -> Q none { s with heap := h' }) : wpAny (model prog w) A (pyNext (.ref it)) Q E s := by
  obtain ⟨o, ho, hc, hd⟩ := id hit
  obtain ⟨od, hod, hcd, hdd⟩ := id x
  unfold pyNext
  refine wpAny_bind (wpAny_attempt (wpAny_callSpecial?_slot (name := Str.ofString "__next__") hit.typeIs F.slot_dict_keyiterator_next (wpAny_call_entry F.slot_dict_keyiterator_next hit.typeIs F.entry_dict_keyiterator_next ?_ (F.args_dict_keyiterator_next_1 _))))
  refine wpAny_bind (wpAny_pure (wpAny_bind (wpAny_bind ?_)))
  first | refine wpAny_bind (wpAny_typeNameOfWhole_keyiter hit.typeIs (wpAny_pure (wpAny_bind (wpAny_fieldsOf ho hd ?_)))) | refine wpAny_bind (wpAny_typeNameOf_keyiter hit.typeIs (wpAny_pure (wpAny_bind (wpAny_fieldsOf ho hd ?_))))
  simp only [show Builtin.Dict_items.ownsTuple "dict_keyiterator" = false by decide, Bool.false_eq_true, if_false]
  refine (show wpAny _ _ (if (Value.ref d == Value.none) = true then _ else _) _ _ s from ?_)
  rw [if_neg (fun z => by cases z)]
  refine wpAny_bind (wpAny_pure (wpAny_bind (wpAny_dictEntries hod hdd ?_)))
  rw [if_neg (by simp)]
  refine wpAny_bind (wpAny_pure (wpAny_bind (wpAny_dictEpoch hod hdd ?_)))
  rw [if_neg (by simp)]
  refine wpAny_pure ?_
  simp only [show ¬ ((es.size : Int) < 0) from by omega, if_false, Int.toNat_natCast, Array.getElem?_eq_none (Nat.le_refl _)]
  refine wpAny_bind ?_
  first | refine wpAny_bind (wpAny_typeNameOfWhole_keyiter hit.typeIs (wpAny_pure ?g)) | refine wpAny_bind (wpAny_typeNameOf_keyiter hit.typeIs (wpAny_pure ?g))
  refine (show wpAny _ _ (setField (.ref it) 0 .none >>= _) _ _ s from wpAny_bind (wpAny_setField ho hd (by simp) (show wpAny _ _ (newExc (.type "StopIteration") [] >>= _) _ _ _ from wpAny_bind ?_)))
  simp only [newExc, newTuple]
  refine wpAny_bind (wpAny_newObj_type (wpAny_bind (m := firstArgMember _ _) (wpAny_of_eq (a := Value.none) (by first | rfl | (simp only [firstArgMember]; rfl)) (wpAny_newObj_type ?_ (by size_fits)))) (by size_fits))
  simp only [raiseNew]
  refine wpAny_bind (wpAny_handled ?_)
  rw [show A.in1.handled = none from hh]
  refine wpAny_bind (wpAny_pure (wpAny_throw ?_))
  exact wpAny_bind (wpAny_isInstance (T := "StopIteration") (b := true) ⟨_, Heap.get?_push_size _ rfl, rfl⟩ isSubtype_stop (wpAny_pure (q _ (((Heap.SameBut.update ..).extBut.push _).push _))))
theorem raw_walks (hh : A.handled = none) (I d : Addr) (hne : d ≠ I) (es : Array DictEntry) (ep : Nat) :
    Walks prog w A I [I, d] [I] es.size (fun i v => ∃ h : i < es.size, v = es[i].key) (fun i h => h.IsKeyIter I d i es.size ep /\ Raw h d es ep) where
  sub := fun b hb => by simp only [List.mem_singleton] at hb; simp [hb]
  frame := fun _ _ _ st k => ⟨st.1.at fun o e => k I (by simp) o e, st.2.stay fun o e => k d (by simp) o e⟩
  item := fun i s Q E hi st hQ => raw_next st.1 st.2 hi fun h' hit' hs' => hQ _ h' s.toks ⟨hi, rfl⟩ ⟨hit', st.2.stay fun o e => hs'.extBut d o hne e⟩ fun b o hb e => hs'.extBut b o (fun h => hb (by simp [h])) e
  done := fun s Q E st hQ => raw_stop hh st.1 st.2 fun h' he' => hQ h' s.toks fun b o hb e => he' b o (fun h => hb (by simp [h])) e
  self := fun _ _ _ _ st hQ => wpAny_pyIter_keyiter st.1 hQ
theorem raw_src {d : Addr} {es : Array DictEntry} {ep : Nat} (lo : (d == sysModules) = false) : KdlSrc prog w "dict" d d es.size (fun i v => ∃ h : i < es.size, v = es[i].key) (fun h => Raw h d es ep) where
  type := fun s x => x.ty
  there := fun h x => let ⟨o, e, _⟩ := x; ⟨Heap.lt_size e, Heap.lt_size e⟩
  keep := fun h h' x k => x.stay fun o e => k d (.inl rfl) o e
  notList := by decide
  notTuple := by decide
  hint := fun _ _ s _ x q => kdl_hint_dict x.ty q
  iter := fun A s hh x => ⟨_, _, fun E Q q => raw_iter lo x q, raw_walks hh _ d (let ⟨o, e, _⟩ := x; Nat.ne_of_lt (Heap.lt_size e)) es ep, ⟨⟨_, Heap.get?_push_size _ rfl, rfl, rfl⟩, x.stay fun o e => Heap.get?_push_of_some _ e⟩⟩
end
end EvD
set_option Elab.async false
set_option linter.all false
set_option maxRecDepth 100000
namespace EvD
open PySem PySem.W PyProof.Rows
theorem list_keys_none : typeLookup (.type "list") "keys" = pure none := by rw [typeLookup_type, builtinLookup_eq_fast]; kernel_rfl
theorem miss_keys {prog : Program} {w : World} {A : Around} {s : Shared} {a : Addr} {xs : Array Value} {k : Nat} {tk : Tok} {R : Result -> Shared -> Prop} (hx : s.heap.get? a = some (seqObj "list" xs k)) (h : raisesAttr (.ref a) "keys" A R s) :
    codeAny (model prog w) A (.call (.builtin "list.__getattribute__") ⟨[.ref a, .str "keys" tk], []⟩) R s := by
  refine codeAny_call_builtin F.slot_list_getattribute.plain am_entry_list_getattribute (F.slot_list_getattribute.check _ _ _ _ _ _ _ _ ⟨_, hx, rfl⟩ (F.args_list_getattribute_2 _ _) ?_)
  exact meets_getattribute_miss_list a xs k #[] "keys" tk list_keys_none (by decide) (by size_fits) prog w A R s ⟨hx, h⟩
theorem noKeys {prog : Program} {w : World} {A : Around} {E : Value -> Shared -> Prop} {s : Shared} {a : Addr} {xs : Array Value} {k : Nat} {Q : Option Value -> Shared -> Prop} (hx : s.heap.get? a = some (seqObj "list" xs k)) (hA : A.handled = none)
    (h : ∀ h' tk, (∀ b o, s.heap.get? b = some o -> h'.get? b = some o) -> Q none { s with heap := h', toks := tk }) : wpAny (model prog w) A (getAttr? (.ref a) "keys") Q E s := by
  obtain ⟨hp, g, d, tk, os⟩ := s
  have ty : ∀ tk', (⟨hp, g, d, tk', os⟩ : Shared).TypeIs (.ref a) "list" := fun _ => ⟨_, hx, rfl⟩
  have f1 := sub_AttributeError
  have f2 := F.slot_list_getattribute.lookup
  have f3 := F.slot_list_getattribute.bind (.ref a)
  have f4 := am_list_getattr_none
  unfold getAttr? getAttrBy? getAttrBy
  repeat (any_goals (first | assumption | exact ty _ | wp_step))
  refine miss_keys hx ⟨hA, fun h' tk' e hx' => ?_⟩
  obtain ⟨t', u', he⟩ := hx'.there
  show wpAny _ _ (getattributeRaised _ _ _ _ _ _ _) _ _ _
  unfold getattributeRaised
  repeat (any_goals (first | assumption | wp_step))
  exact h _ _ hx'.keeps
end EvD
set_option Elab.async false
set_option linter.all false
set_option maxRecDepth 100000
namespace EvD
open PySem PySem.W PyProof.Rows
theorem entry_upl : entryFor table "dict.update.loop" = some Builtin.«dict.update.loop» := entryFor_of_tree (by kernel_rfl)
theorem plain_upl : plainId "dict.update.loop" = true := by decide +kernel
theorem upl_eq (d it : Addr) (i : Int) (tk : Tok) : Builtin.«dict.update.loop» ⟨[.ref d, .ref it, .int i tk, .none], []⟩ = (do
    let r <- pyNext (.ref it)
    match r with
    | none => do Builtin.Dict.addKeywords d []; ret .none
    | some item => do
      holding [item] (do
        let pair <- (Builtin.Dict.pairItems item).tryCatch fun e => do
          if !(<- isInstance e (.type "TypeError")) then throw e
          rule "dict.update.element-no-sequence"
          raiseError "TypeError" s!"cannot convert dictionary update sequence element #{i} to a sequence"
        match pair with
        | [k, v] => holding [k, v] (dictSet d k v)
        | l => do
          rule "dict.update.element-length"
          raiseError "ValueError" s!"dictionary update sequence element #{i} has length {l.length}; 2 is required")
      again (.builtin "dict.update.loop" ⟨[.ref d, .ref it, rawInt (i + 1), .none], []⟩)) := by
  unfold Builtin.«dict.update.loop»
  refine congrArg (fun f => pyNext (.ref it) >>= f) (funext fun r => ?_)
  cases r <;> rfl
section
variable {prog : Program} {w : World} {K : Type} [DecidableEq K] {knd : PySem.KeyKind prog w K} {A : Around}
def PairsIn (knd : PySem.KeyKind prog w K) (h : Heap) : List Value -> List (K × Value) -> Prop := Paired fun v p => ∃ a key, v = .ref a /\ IsTup h a #[key, p.2] /\ knd.is p.1 key = true
def mergeP (kvs : List (K × Value)) (ps : List (K × Value)) : List (K × Value) := ps.foldl (fun acc p => stored acc p.1 p.2) kvs
theorem stored_len (kvs : List (K × Value)) (k : K) (v : Value) : (stored kvs k v).length <= kvs.length + 1 := by
  unfold stored
  split
  · simp
  · simp
theorem tup_ne_iter {h : Heap} {b it l : Addr} {i : Nat} {ys : Array Value} (t : IsTup h b ys) (q : h.IsListIter it l i) : b ≠ it := fun z => by
  obtain ⟨o, ho, hc, _⟩ := t
  obtain ⟨o2, ho2, hc2, _⟩ := q
  subst z
  rw [ho] at ho2
  cases ho2
  rw [hc] at hc2
  exact absurd hc2 (by decide)
theorem tup_ne_dict {h : Heap} {b d : Addr} {ys : Array Value} {kvs : List (K × Value)} (t : IsTup h b ys) (q : h.DictOf knd d kvs) : b ≠ d := fun z => by
  obtain ⟨o, ho, hc, _⟩ := t
  obtain ⟨o2, es, ep, ho2, hc2, _⟩ := q
  subst z
  rw [ho] at ho2
  cases ho2
  have hc3 := hc2.1
  rw [hc] at hc3
  exact absurd hc3 (by decide)
theorem dict_stay {h h' : Heap} {d : Addr} {kvs : List (K × Value)} (q : h.DictOf knd d kvs) (k : ∀ o, h.get? d = some o -> h'.get? d = some o) : h'.DictOf knd d kvs := by
  obtain ⟨o, es, ep, ho, r⟩ := q
  exact ⟨o, es, ep, k _ ho, r⟩
theorem upl_step {it l d a : Addr} {i : Nat} {its : List Value} {key x : Value} {k : K} {kvs : List (K × Value)} {s : Shared} {R : Result -> Shared -> Prop} {tk : Tok} (hdi : d ≠ it) (hi : its.toArray[i]? = some (.ref a)) (ht : IsTup s.heap a #[key, x]) (hk : knd.is k key = true)
    (hit : s.heap.IsListIter it l i) (hl : s.heap.IsList l its.toArray) (hd : s.heap.DictOf knd d kvs) (hz : kvs.length <= 1000)
    (hR : ∀ h2, h2.DictOf knd d (stored kvs k x) -> (∀ b o, b ≠ d -> b ≠ it -> s.heap.get? b = some o -> h2.get? b = some o) -> h2.IsListIter it l (i + 1) -> codeAny (model prog w) A (.builtin "dict.update.loop" ⟨[.ref d, .ref it, rawInt ((i : Int) + 1), .none], []⟩) R { s with heap := h2, toks := s.toks + 1 }) :
    codeAny (model prog w) A (.builtin "dict.update.loop" ⟨[.ref d, .ref it, .int i tk, .none], []⟩) R s := by
  refine codeAny_builtin entry_upl ?_
  rw [Around.under_plainId plain_upl _, upl_eq]
  refine wpAny_bind (wpAny_pyNext_list_item hit hl hi fun h1 hit1 hs1 => ?_)
  obtain ⟨ot, hot, hct, nt, hdt⟩ := id ht
  have hot1 : h1.get? a = some ot := hs1.extBut _ _ (tup_ne_iter ht hit) hot
  refine wpAny_bind (wpAny_holding (wpAny_bind (wpAny_tryCatch ?_)))
  unfold Builtin.Dict.pairItems
  refine wpAny_bind (wpAny_typeOf (T := "tuple") ⟨ot, hot1, hct⟩ ?_)
  rw [if_pos (by decide)]
  unfold seqItems?
  refine wpAny_bind (wpAny_bind (wpAny_load hot1 ?_))
  rw [hdt]
  refine wpAny_pure (wpAny_pure ?_)
  refine (show wpAny _ _ (holding [key, x] (dictSet d key x)) _ _ _ from wpAny_holding (wpAny_dictSet_pairs hk (dict_stay hd fun o q => hs1.extBut _ _ hdi q) (fun h2 hd2 hs2 => ?_) (by have := sizeLine_eq; omega)))
  exact wpAny_pure ⟨plainId_quiet plain_upl _, hR h2 hd2 (fun b o h3 h4 q => hs2.extBut _ _ h3 (hs1.extBut _ _ h4 q)) (hit1.extBut hs2.extBut (Ne.symm hdi))⟩
theorem upl_end {it l d : Addr} {i : Nat} {its : List Value} {kvs : List (K × Value)} {s : Shared} {R : Result -> Shared -> Prop} {tk : Tok} (hdi : d ≠ it) (hh : A.handled = none) (hi : its.toArray[i]? = none)
    (hit : s.heap.IsListIter it l i) (hl : s.heap.IsList l its.toArray) (hd : s.heap.DictOf knd d kvs)
    (hR : ∀ h', h'.DictOf knd d kvs -> (∀ b o, b ≠ it -> s.heap.get? b = some o -> h'.get? b = some o) -> R (.ok (.ret .none)) { s with heap := h' }) :
    codeAny (model prog w) A (.builtin "dict.update.loop" ⟨[.ref d, .ref it, .int i tk, .none], []⟩) R s := by
  refine codeAny_builtin entry_upl ?_
  rw [Around.under_plainId plain_upl _, upl_eq]
  refine wpAny_bind (wpAny_pyNext_list_end hh hit hl hi fun h' he => ?_)
  exact wpAny_bind (m := Builtin.Dict.addKeywords d []) (wpAny_pure (wpAny_pure (hR h' (dict_stay hd fun o q => he _ _ hdi q) fun b o hb q => he b o hb q)))
theorem upl_go {it l d : Addr} (hil : l ≠ it) (hdi : d ≠ it) (hdl : d ≠ l) (hh : A.handled = none) {its : List Value} (rest : List Value) : ∀ (ps : List (K × Value)) (i : Nat) (kvs : List (K × Value)) (s : Shared) (R : Result -> Shared -> Prop) (tk : Tok), its.drop i = rest -> PairsIn knd s.heap rest ps ->
    s.heap.IsListIter it l i -> s.heap.IsList l its.toArray -> s.heap.DictOf knd d kvs -> kvs.length + ps.length <= 1000 ->
    (∀ h' tk', h'.DictOf knd d (mergeP kvs ps) -> (∀ b o, b ≠ d -> b ≠ it -> s.heap.get? b = some o -> h'.get? b = some o) -> R (.ok (.ret .none)) { s with heap := h', toks := tk' }) ->
    codeAny (model prog w) A (.builtin "dict.update.loop" ⟨[.ref d, .ref it, .int i tk, .none], []⟩) R s := by
  induction rest with
  | nil =>
    intro ps i kvs s R tk e hp hit hl hd hz hR
    cases hp
    have hi : its.toArray[i]? = none := by
      have := congrArg List.length e
      simp only [List.length_drop, List.length_nil] at this
      simp
      omega
    exact upl_end hdi hh hi hit hl hd fun h' hd' kp => hR h' s.toks hd' fun b o _ hb q => kp b o hb q
  | cons v rest ih =>
    intro ps i kvs s R tk e hp hit hl hd hz hR
    cases hp with
    | @cons _ p _ ps h0 hr =>
    obtain ⟨a, key, hv, ht, hk⟩ := h0
    obtain ⟨k, x⟩ := p
    subst hv
    have hi : its.toArray[i]? = some (.ref a) := by
      have q : (its.drop i)[0]? = some (.ref a) := by rw [e]; rfl
      rw [List.getElem?_drop] at q
      simpa using q
    have e' : its.drop (i + 1) = rest := by
      rw [<- List.drop_drop, e]
      rfl
    simp only [List.length_cons] at hz
    refine upl_step hdi hi ht hk hit hl hd (by omega) fun h2 hd2 kp hit2 => ?_
    have c1 : ((i : Int) + 1) = ((i + 1 : Nat) : Int) := by omega
    rw [c1]
    refine ih ps (i + 1) (stored kvs k x) _ R 0 e' (L2.Paired.mapP hr fun v p ⟨b, ky, e1, t1, k1⟩ => ⟨b, ky, e1, ?_, k1⟩) hit2 (hl.at fun o q => kp _ _ (Ne.symm hdl) hil q) hd2 (by have := stored_len kvs k x; omega) fun h' tk' hd' kp' => hR h' tk' hd' fun b o h3 h4 q => kp' b o h3 h4 (kp b o h3 h4 q)
    obtain ⟨o, ho, r⟩ := id t1
    exact ⟨o, kp _ _ (tup_ne_dict t1 hd) (tup_ne_iter t1 hit) ho, r⟩
theorem call_dict_of {E : Value -> Shared -> Prop} {s : Shared} {l : Addr} {its : List Value} {n : Nat} {ps : List (K × Value)} {Q : Value -> Shared -> Prop} (hh : A.handled = none) (ho : s.heap.get? l = some (seqObj "list" its.toArray n)) (hp : PairsIn knd s.heap its ps) (hz : ps.length <= 1000)
    (h : ∀ h' tk', h'.DictOf knd s.heap.objs.size (mergeP [] ps) -> (∀ b o, s.heap.get? b = some o -> h'.get? b = some o) -> Q (.ref s.heap.objs.size) { s with heap := h', toks := tk' }) :
    wpAny (model prog w) A (call (.type "dict") [.ref l]) Q E s := by
  refine callType_codes (Q₁ := fun obj s₁ => obj = .ref s.heap.objs.size /\ s₁ = { s with heap := s.heap.push { cls := .type "dict", data := .dict #[] } }) F.kt_called_dict (F.kt_typeCall_dict_1 _) F.entry_dict_init (kt_code_dict_new _ ⟨rfl, rfl⟩) ?_
  rintro obj s₁ ⟨rfl, rfl⟩
  have hnew : (s.heap.push { cls := .type "dict", data := .dict #[] }).DictOf knd s.heap.objs.size [] := Heap.DictOf.new s.heap
  have hl1 : (s.heap.push { cls := .type "dict", data := .dict #[] }).get? l = some (seqObj "list" its.toArray n) := Heap.get?_push_of_some _ ho
  refine ⟨hnew.typeIs, F.args_dict_init_2 _ _, ?_⟩
  unfold Builtin.«dict.__init__» Builtin.Dict.selfAndRest
  refine wpAny_bind (wpAny_bind (wpAny_notOrdered_dict hnew.typeIs ?_))
  refine (show wpAny _ _ (pure (s.heap.objs.size, [Value.ref l])) _ _ _ from wpAny_pure ?_)
  refine (show wpAny _ _ (Builtin.Dict.updateFrom "dict.__init__" s.heap.objs.size (.ref l) [] .none) _ _ _ from ?_)
  unfold Builtin.Dict.updateFrom
  refine wpAny_bind (wpAny_typeOf (T := "list") ⟨_, hl1, rfl⟩ ?_)
  rw [if_pos (by decide)]
  refine wpAny_bind (noKeys hl1 hh fun h2 tk2 k2 => ?_)
  simp only [Option.isNone_none, if_true]
  have hl2 : h2.get? l = some (seqObj "list" its.toArray n) := k2 _ _ hl1
  refine wpAny_bind (wpAny_rule (wpAny_bind (wpAny_pyIter_list ⟨_, hl2, rfl, _, rfl⟩ ?_)))
  refine wpAny_pure ⟨plainId_quiet plain_upl _, ?_⟩
  have all : ∀ {b o}, s.heap.get? b = some o -> (h2.push { cls := .type "list_iterator", data := .fields #[.ref l, .int 0 0] }).get? b = some o := fun q => Heap.get?_push_of_some _ (k2 _ _ (Heap.get?_push_of_some _ q))
  have hd2 : h2.DictOf knd s.heap.objs.size [] := by
    obtain ⟨o, es, ep, ho, r⟩ := hnew
    exact ⟨o, es, ep, k2 _ _ ho, r⟩
  have sz2 : s.heap.objs.size < h2.objs.size := by
    obtain ⟨o, es, ep, ho, r⟩ := hd2
    exact Heap.lt_size ho
  have lz : l < s.heap.objs.size := Heap.lt_size ho
  refine upl_go (A := A.in1) (knd := knd) (its := its) (it := h2.objs.size) (l := l) (d := s.heap.objs.size) (Nat.ne_of_lt (Nat.lt_trans lz sz2)) (Nat.ne_of_lt sz2) (Nat.ne_of_gt lz) hh its ps 0 [] _ _ 0 rfl (L2.Paired.mapP hp fun v p ⟨b, ky, e1, t1, k1⟩ => ⟨b, ky, e1, t1.keeps fun b o q => all q, k1⟩)
    ⟨_, Heap.get?_push_size _ rfl, rfl, rfl⟩ ⟨_, Heap.get?_push_of_some _ hl2, rfl, _, rfl⟩ (by
      obtain ⟨o, es, ep, ho, r⟩ := hd2
      exact ⟨o, es, ep, Heap.get?_push_of_some _ ho, r⟩) (by simpa using hz) fun h' tk' hd' kp => ⟨rfl, h h' tk' hd' fun b o q => ?_⟩
  have bl : b < s.heap.objs.size := Heap.lt_size q
  exact kp b o (Nat.ne_of_lt bl) (Nat.ne_of_lt (Nat.lt_trans bl sz2)) (all q)
end
end EvD
set_option Elab.async false
set_option linter.all false
set_option maxRecDepth 100000
namespace L2
open PySem PySem.Spec PyProof.Rows PySem.W EvS EvD
theorem TupsAt.same {K : PySem.W.Frag} {H H' : Hp} {ys : List V} {ks : List (List Key)} (t : TupsAt K H ys ks) (e : Same H H') : TupsAt K H' ys ks := Paired.mapP t fun y k ⟨a, z, q⟩ => ⟨a, z, e _ _ q⟩
theorem Same.new {H : Hp} {l : Addr} {o : HO} (h : H l = none) : Same H (upd H l o) := fun b u e => by rw [upd_ne (ne_of_none e h)]; exact e
section
variable {X : Cx} {pins : List (Addr × Obj)} {σ : St} {H H' : Hp} {s : Shared} {h' : Heap} {t' : Nat}
theorem Inv.many (I : Inv X pins σ H s) (k : ∀ b o, s.heap.get? b = some o -> h'.get? b = some o) (hold : Same H H') (hnew : ∀ b, H b = none -> b < s.heap.objs.size -> H' b = none)
    (hob : ∀ b o, H' b = some o -> H b = none -> ∃ xs its, o = .tup xs /\ xs.length <= sizeLine /\ Vals xs its /\ IsTup h' b its.toArray /\ ∃ o, h'.get? b = some o /\ o.dict = none) : Inv X pins σ H' { s with heap := h', toks := t' } := by
  refine I.un ⟨fun b o q _ _ _ => k b o q, fun b o q _ _ _ => ⟨o.slots, k b o q⟩, fun b o q n _ => hnew b n (Heap.lt_size q), fun b o q _ => ⟨o, k b o q⟩, fun b xs q => hold b _ q, fun b o u q => hold b _ q, fun b ps q => ⟨#[], by rw [Array.append_empty]; exact hold b _ q⟩⟩ fun b o q => ?_
  cases e : H b with
  | some u =>
    have e2 := hold b u e
    rw [q] at e2
    cases e2
    exact (I.hok b o e).stay (fun c v _ z => k c v z) (fun c z => hold c _ z) fun c xs z => hold c _ z
  | none =>
    obtain ⟨xs, its, rfl, z, r, t⟩ := hob b o q e
    exact ⟨z, its, r, t⟩
end
section
variable {X : Cx} {pins : List (Addr × Obj)} {σ : St} {H : Hp} {s : Shared} {A : Around} {E : Value -> Shared -> Prop}
theorem items_vals {P : Nat -> Value -> Prop} {acc : Array Value} {ys : List V} (h : ItemsOf P acc ys.length) (hp : ∀ (j : Nat) v, P j v -> ∀ y, ys[j]? = some y -> RelV y v) : Vals ys acc.toList := by
  have gen : ∀ (ys : List V) (vs : List Value), ys.length = vs.length -> (∀ (j : Nat) y v, ys[j]? = some y -> vs[j]? = some v -> RelV y v) -> Vals ys vs := fun ys => by
    induction ys with
    | nil =>
      intro vs hl _
      cases vs with
      | nil => exact .nil
      | cons _ _ => cases hl
    | cons y ys ih =>
      intro vs hl h
      cases vs with
      | nil => cases hl
      | cons v vs => exact .cons (h 0 y v rfl rfl) (ih vs (by simpa using hl) fun j y v a b => h (j + 1) y v (by simpa using a) (by simpa using b))
  refine gen ys acc.toList (by rw [Array.length_toList]; exact h.1.symm) fun j y v a b => hp j v (h.2 j v ?_) y a
  rw [<- Array.getElem?_toList]
  exact b
theorem src_dK {d : Addr} {kvs : List (Key × V)} (I : Inv X pins σ H s) (h : Rd H d (.dK kvs)) : ∃ (P : Nat -> Value -> Prop) (OK : Heap -> Prop), KdlSrc X.prog X.w "dict" d d (kvs.map fun kv => kV kv.1).length P OK /\ OK s.heap /\ ∀ (j : Nat) v, P j v -> ∀ y, (kvs.map fun kv => kV kv.1)[j]? = some y -> RelV y v := by
  obtain ⟨z, hd, vs, rel, dd⟩ := dk_rd I.hok h
  obtain ⟨ep, dat⟩ := dd.dictAt
  have hl := rel.length
  refine ⟨fun i v => ∃ k x, vs[i]? = some (k, x) /\ (mixKind X.prog X.w).is k v = true, fun h => h.DictAt (mixKind X.prog X.w) d vs ep, (by rw [List.length_map, hl]; exact kdl_dict (knd := mixKind X.prog X.w) (kvs := vs) (ep := ep) hd), dat, fun j v ⟨k, x, e, hk⟩ y hy => ?_⟩
  rw [List.getElem?_map] at hy
  have ek : kvs.map (·.1) = vs.map (·.1) := rel.keys
  have e2 : (kvs.map (·.1))[j]? = (vs.map (·.1))[j]? := by rw [ek]
  rw [List.getElem?_map, List.getElem?_map, e] at e2
  cases e3 : kvs[j]? with
  | none => rw [e3] at e2; cases e2
  | some kv =>
    rw [e3] at e2 hy
    have e4 : kv.1 = k := Option.some.inj e2
    have e5 : kV kv.1 = y := Option.some.inj hy
    rw [<- e5, e4]
    have hk : keyIs k v = true := hk
    rcases keyIs_shape hk with ⟨i, t, rfl, rfl⟩ | ⟨x, t, rfl, rfl⟩
    · exact ⟨t, rfl⟩
    · exact ⟨t, rfl⟩
theorem src_dT {d : Addr} {kvs : List (List Key × V)} (I : Inv X pins σ H s) (h : Rd H d (.dT kvs)) : ∃ (ys : List V) (P : Nat -> Value -> Prop) (OK : Heap -> Prop), TupsAt X.K H ys (kvs.map (·.1)) /\ ys.length <= sizeLine /\ KdlSrc X.prog X.w "dict" d d ys.length P OK /\ OK s.heap /\ ∀ (j : Nat) v, P j v -> ∀ y, ys[j]? = some y -> RelV y v := by
  obtain ⟨z, hd, xs, rel, o, es, ep, ho, hc, hdat, hes, nd⟩ := h.ok I.hok
  have l1 : es.size = xs.length := by
    have := congrArg List.length hes
    simpa using this
  have l2 := Paired.length rel
  refine ⟨xs.map fun x => V.ref x.2.1, fun i v => ∃ h : i < es.size, v = es[i].key, fun h => Raw h d es ep, ?_, by rw [List.length_map]; omega, (by rw [List.length_map, <- l1]; exact raw_src (es := es) (ep := ep) hd), ⟨o, ho, hc, hdat⟩, fun j v ⟨hj, e⟩ y hy => ?_⟩
  · have gen : ∀ {kvs : List (List Key × V)} {xs : List (List Key × Addr × Value)}, KT H kvs xs -> TupsAt X.K H (xs.map fun x => V.ref x.2.1) (kvs.map (·.1)) := fun {kvs xs} r => by
      induction r with
      | nil => exact .nil
      | cons h _ ih => exact .cons ⟨_, rfl, h.2.1⟩ ih
    exact gen rel
  · rw [List.getElem?_map] at hy
    have hx : j < xs.length := by omega
    rw [List.getElem?_eq_getElem hx] at hy
    have e1 : V.ref xs[j].2.1 = y := Option.some.inj hy
    have e2 : es[j] = entryOfKey (tupleKind (mixKind X.prog X.w)) xs[j] := by
      have e3 : es.toList[j]? = (xs.map (entryOfKey (tupleKind (mixKind X.prog X.w))))[j]? := by rw [hes]
      rw [List.getElem?_map, List.getElem?_eq_getElem hx, Array.getElem?_toList, Array.getElem?_eq_getElem hj] at e3
      exact Option.some.inj e3
    rw [<- e1, e, e2]
    rfl
theorem col_dT {d : Addr} {kvs : List (List Key × V)} {R : List Value -> Shared -> Prop} (hh : A.handled = none) (I : Inv X pins σ H s) (h : Rd H d (.dT kvs)) (q : ∀ ys vs s1, Inv X pins σ H s1 -> Vals ys vs -> TupsAt X.K H ys (kvs.map (·.1)) -> R vs s1) : wpAny (model X.prog X.w) A (collect (.ref d)) R E s := by
  obtain ⟨ys, P, OK, t, z, S, ok, hp⟩ := src_dT I h
  exact kdu_collect S hh ok z fun h' tk acc k a => q ys _ _ (I.kept k) (items_vals a hp) t
def itemsV (v d : Addr) : HO := .ext fun h => h.IsItemsView v d
def PairsAt (K : PySem.W.Frag) (H : Hp) : List V -> List (Key × V) -> Prop := Paired fun y p => ∃ a, y = V.ref a /\ H a = some (.tup [kV p.1, p.2])
theorem col_items {v d : Addr} {kvs : List (Key × V)} {R : List Value -> Shared -> Prop} (hh : A.handled = none) (I : Inv X pins σ H s) (hv : H v = some (itemsV v d)) (h : Rd H d (.dK kvs)) (q : ∀ H1 ys vs s1, Inv X pins σ H1 s1 -> Same H H1 -> Vals ys vs -> PairsAt X.K H1 ys kvs -> R vs s1) :
    wpAny (model X.prog X.w) A (collect (.ref v)) R E s := by
  obtain ⟨z, hd, vs, rel, dd⟩ := dk_rd I.hok h
  obtain ⟨ep, dat⟩ := dd.dictAt
  obtain ⟨iv, _, _⟩ := I.hok v _ hv
  have hl := rel.length
  refine kdx_collect (knd := mixKind X.prog X.w) (kvs := vs) (ep := ep) hh iv dat (by omega) fun h' tk as k la G => ?_
  have up : ∀ b, b ∈ as -> s.heap.objs.size < b := G.above
  have at1 : ∀ (j : Nat) b p, as[j]? = some b -> kvs[j]? = some p -> ∃ its, Vals [kV p.1, p.2] its /\ IsTup h' b its.toArray /\ ∃ o, h'.get? b = some o /\ o.dict = none := fun j b p hj hp => by
    obtain ⟨key, kk, x, e1, e2, e3⟩ := G.pairs j b hj
    have gen : ∀ {kvs : List (Key × V)} {vs : List (Key × Value)}, KV kvs vs -> ∀ (j : Nat), vs[j]? = some (kk, x) -> kvs[j]? = some p -> p.1 = kk /\ RelV p.2 x := fun {kvs vs} r => by
      induction r with
      | nil => intro j e; simp at e
      | @cons p' q _ _ h _ ih =>
        intro j e e'
        cases j with
        | zero =>
          have e : q = (kk, x) := by simpa using e
          have e' : p' = p := by simpa using e'
          subst e'
          rw [e] at h
          exact h
        | succ j => exact ih j (by simpa using e) (by simpa using e')
    obtain ⟨g1, g2⟩ := gen rel j e1 hp
    refine ⟨[key, x], .cons ?_ (.cons g2 .nil), ⟨_, e3, rfl, _, rfl⟩, _, e3, rfl⟩
    rw [g1]
    have e2 : keyIs kk key = true := e2
    rcases keyIs_shape e2 with ⟨i, t, rfl, rfl⟩ | ⟨x, t, rfl, rfl⟩
    · exact ⟨t, rfl⟩
    · exact ⟨t, rfl⟩
  have look : ∀ {as : List Addr} {kvs : List (Key × V)}, as.Pairwise (· < ·) -> ∀ (j : Nat) b p, as[j]? = some b -> kvs[j]? = some p -> (as.zip kvs).lookup b = some p := fun {as} => by
    induction as with
    | nil => intro kvs _ j b p e; simp at e
    | cons a as ih =>
      intro kvs pw j b p e e'
      cases kvs with
      | nil => simp at e'
      | cons q kvs =>
        obtain ⟨p1, p2⟩ := List.pairwise_cons.mp pw
        show ((a, q) :: as.zip kvs).lookup b = some p
        cases j with
        | zero =>
          have e : a = b := by simpa using e
          have e' : q = p := by simpa using e'
          subst e
          subst e'
          rw [List.lookup_cons_self]
        | succ j =>
          have e : as[j]? = some b := by simpa using e
          have e' : kvs[j]? = some p := by simpa using e'
          have lt := p1 b (List.mem_of_getElem? e)
          rw [List.lookup_cons, show (b == a) = false by simp only [beq_eq_false_iff_ne]; exact Nat.ne_of_gt lt]
          exact ih p2 j b p e e'
  have lk : as.length = kvs.length := by omega
  let H1 : Hp := fun b => if b ∈ as then ((as.zip kvs).lookup b).map fun p => HO.tup [kV p.1, p.2] else H b
  have h1in : ∀ (j : Nat) b p, as[j]? = some b -> kvs[j]? = some p -> H1 b = some (.tup [kV p.1, p.2]) := fun j b p e e' => by
    show (if b ∈ as then _ else _) = _
    rw [if_pos (List.mem_of_getElem? e), look G.rise j b p e e']
    rfl
  have h1out : ∀ b, b ∉ as -> H1 b = H b := fun b hb => if_neg hb
  have old : ∀ b, b < s.heap.objs.size -> b ∉ as := fun b hb m => absurd (up b m) (by omega)
  refine q H1 (as.map V.ref) _ _ (I.many (t' := tk) k (fun b o e => by rw [h1out b (old b (I.hok.lt e))]; exact e) (fun b e hb => by rw [h1out b (old b hb)]; exact e) fun b o e e0 => ?_) (fun b o e => by rw [h1out b (old b (I.hok.lt e))]; exact e) ?_ ?_
  · by_cases m : b ∈ as
    · obtain ⟨j, hj⟩ := List.mem_iff_getElem?.mp m
      have jl : j < kvs.length := by
        have := (List.getElem?_eq_some_iff.mp hj).1
        omega
      have e' := h1in j b kvs[j] hj (List.getElem?_eq_getElem jl)
      rw [e] at e'
      cases e'
      obtain ⟨its, r, t⟩ := at1 j b _ hj (List.getElem?_eq_getElem jl)
      exact ⟨_, its, rfl, by show 2 <= sizeLine; decide, r, t⟩
    · rw [h1out b m, e0] at e
      cases e
  · have gen : ∀ as : List Addr, Vals (as.map V.ref) (as.map Value.ref) := fun as => by
      induction as with
      | nil => exact .nil
      | cons a as ih => exact .cons rfl ih
    exact gen as
  · have gen : ∀ (as' : List Addr) (kvs' : List (Key × V)), as'.length = kvs'.length -> (∀ (j : Nat) b p, as'[j]? = some b -> kvs'[j]? = some p -> H1 b = some (.tup [kV p.1, p.2])) -> PairsAt X.K H1 (as'.map V.ref) kvs' := fun as' => by
      induction as' with
      | nil =>
        intro kvs' hl _
        cases kvs' with
        | nil => exact .nil
        | cons _ _ => cases hl
      | cons a as' ih =>
        intro kvs' hl h
        cases kvs' with
        | nil => cases hl
        | cons p kvs' => exact .cons ⟨a, rfl, h 0 a p rfl rfl⟩ (ih kvs' (by simpa using hl) fun j b p e e' => h (j + 1) b p (by simpa using e) (by simpa using e'))
    exact gen as kvs lk h1in
end
end L2
set_option Elab.async false
set_option linter.all false
set_option maxRecDepth 100000
namespace L2
open PySem PySem.Spec PyProof.Rows PySem.W EvS EvD
section
variable {X : Cx} {pins : List (Addr × Obj)} {σ : St} {H : Hp} {s : Shared}
theorem tups_put {K : PySem.W.Frag} {H : Hp} {ys : List V} {ks : List (List Key)} (t : TupsAt K H ys ks) : ∀ l : List Nat, (∀ i ∈ l, i < ys.length) -> TupsAt K H (l.map fun i => ys.getD i .non) (l.map fun i => ks.getD i []) := fun l => by
  induction l with
  | nil => exact fun _ => .nil
  | cons i l ih =>
    intro h
    refine .cons ?_ (ih fun j hj => h j (List.mem_cons_of_mem _ hj))
    have hi := h i List.mem_cons_self
    have gen : ∀ {ys : List V} {ks : List (List Key)} (i : Nat), i < ys.length -> TupsAt K H ys ks -> ∃ a, ys.getD i .non = V.ref a /\ H a = some (.tup ((ks.getD i []).map kV)) := fun {ys ks} i hy t => by
      induction t generalizing i with
      | nil => exact absurd hy (by simp)
      | cons h t ih =>
        cases i with
        | zero => exact h
        | succ i => exact ih i (by simpa using hy)
    exact gen i hi t
theorem sorted_tups' {u : Value} {ks : List (List Key)} {sh : List Bool} {Q : VK} (h64 : ks.length < 64) (al : Alike ks sh)
    (hcol : wpAny (model X.prog X.w) X.A.in1 (collect u) (fun vs s1 => ∃ H1 ys, Inv X pins σ H1 s1 /\ Vals ys vs /\ TupsAt X.K H1 ys ks /\ ∀ l zs, H1 l = none -> TupsAt X.K H1 zs (sortKs ks) -> zs.Perm ys -> Q (.ref l) (upd H1 l (.lst zs))) X.xe s) :
    wpAny (model X.prog X.w) X.A (call (.builtin "sorted") [u]) (EP X pins σ Q) X.xe s := by
  refine sorted_raw (ord_keys ks) (thn hcol fun vs s1 ⟨H1, ys, I1, r, t, q⟩ => ?_)
  have l1 := r.length
  have l2 := Paired.length t
  have hl : vs.length = ks.length := by omega
  refine ⟨by omega, fun h2 h' k => asks_tups I1 r t al h2 k, fun p h' e g up hD kp => ?_⟩
  have g' : Good ks.length p := by rw [<- hl]; exact g
  have asc := asc_put (ks := ks) (fun i j _ _ => rfl) g' (by rw [<- hl]; exact up)
  have perm : (p.toList.map fun i => ks.getD i []).Perm ks := by
    have := map_put_perm g' fun i => ks.getD i []
    rwa [map_range_getD] at this
  have es := sortKs_eq perm asc
  have inr : ∀ i ∈ p.toList, i < ys.length := fun i hi => by
    have m : i ∈ (List.range vs.length).toArray := g.mem_iff.mp (by simpa using hi)
    rw [<- l1] at m
    simpa using m
  have tz := tups_put t p.toList inr
  rw [es] at tz
  have rv := vals_put r g
  have pz : (p.toList.map fun i => ys.getD i .non).Perm ys := by
    have := map_put_perm (n := ys.length) (by rw [l1]; exact g) fun i => ys.getD i .non
    rwa [map_range_getD] at this
  refine ⟨.ref s1.heap.objs.size, _, I1.laid (t' := s1.toks) kp (Nat.le_refl _) (show ObjOk X.prog X.w _ h' _ (.lst (p.toList.map fun i => ys.getD i .non)) from ⟨?_, putBy p vs, e, rv, hD⟩), rfl, q _ _ (I1.hok.fresh (Nat.le_refl _)) tz pz⟩
  rw [pz.length_eq]
  have := sizeLine_eq
  omega
end
section
variable {X : Cx}
def rSortDT (K : PySem.W.Frag) : List V -> Hp -> VK -> Prop := fun xs H Q => ∃ d kvs sh, xs = [.ref d] /\ H d = some (.dT kvs) /\ Alike (kvs.map (·.1)) sh /\ kvs.length < 64 /\ ∀ l zs, H l = none -> TupsAt K H zs (sortKs (kvs.map (·.1))) -> Q (.ref l) (upd H l (.lst zs))
theorem call_sortDT (hc : X.calm = true) : CallR X (.builtin "sorted") (rSortDT X.K) := by
  intro pins s σ H xs us Q I r h
  obtain ⟨d, kvs, sh, rfl, hd, al, h64, q⟩ := h
  obtain ⟨u, rfl, ru⟩ := vals1 r
  cases ru
  exact sorted_tups' (by rw [List.length_map]; exact h64) al (col_dT (I.ok.hd hc) I (.inl hd) fun ys vs s1 I1 r1 t => ⟨H, ys, I1, r1, t, fun l zs n t' _ => q l zs n t'⟩)
def rSortI (K : PySem.W.Frag) : List V -> Hp -> VK -> Prop := fun xs H Q => ∃ (v d : Addr) (kvs : List (Key × V)) (ks : List (Key × Key)) (sh : List Bool), xs = [.ref v] /\ H v = some (itemsV v d) /\ H d = some (.dK kvs) /\ kvs = ks.map (fun k : Key × Key => (k.1, kV k.2)) /\ Alike (ks.map fun k => [k.1, k.2]) sh /\ ks.length < 64 /\
  ∀ l H1 zs, Same H H1 -> H1 l = none -> TupsAt K H1 zs (sortKs (ks.map fun k => [k.1, k.2])) -> Q (.ref l) (upd H1 l (.lst zs))
theorem call_sortI (hc : X.calm = true) : CallR X (.builtin "sorted") (rSortI X.K) := by
  intro pins s σ H xs us Q I r h
  obtain ⟨v, d, kvs, ks, sh, rfl, hv, hd, ek, al, h64, q⟩ := h
  obtain ⟨u, rfl, ru⟩ := vals1 r
  cases ru
  refine sorted_tups' (by rw [List.length_map]; exact h64) al (col_items (I.ok.hd hc) I hv (.inl hd) fun H1 ys vs s1 I1 sm r1 t => ⟨H1, ys, I1, r1, ?_, fun l zs n t' _ => q l H1 zs sm n t'⟩)
  subst ek
  have gen : ∀ (ks : List (Key × Key)) (ys : List V), PairsAt X.K H1 ys (ks.map (fun k : Key × Key => (k.1, kV k.2))) -> TupsAt X.K H1 ys (ks.map fun k => [k.1, k.2]) := fun ks => by
    induction ks with
    | nil =>
      intro ys t
      cases t
      exact .nil
    | cons k ks ih =>
      intro ys t
      cases t with
      | cons h t => exact .cons h (ih _ t)
  exact gen ks ys t
def rListD : List V -> Hp -> VK -> Prop := fun xs H Q => ∃ d kvs, xs = [.ref d] /\ Rd H d (.dK kvs) /\ ∀ l, H l = none -> Q (.ref l) (upd H l (.lst (kvs.map fun kv => kV kv.1)))
theorem call_listD (hc : X.calm = true) : CallR X (.type "list") rListD := by
  intro pins s σ H xs us Q I r h
  obtain ⟨d, kvs, rfl, hd, q⟩ := h
  obtain ⟨u, rfl, ru⟩ := vals1 r
  cases ru
  obtain ⟨P, OK, S, ok, hp⟩ := src_dK I hd
  have z := (dk_rd I.hok hd).1
  refine kdl_call S (I.ok.hd hc) ok (by rw [List.length_map]; exact z) fun h' tk acc c k hD a => ?_
  refine ⟨.ref s.heap.objs.size, _, I.laid (t' := tk) k (Nat.le_refl _) (show ObjOk X.prog X.w _ h' _ (.lst (kvs.map fun kv => kV kv.1)) from ⟨by rw [List.length_map]; exact z, acc.toList, c, items_vals a hp, by rw [Array.toArray_toList]; exact hD⟩), rfl, q _ I.fresh⟩
theorem KV.mergeP {κ : Type} [DecidableEq κ] : ∀ {more : List (κ × V)} {rs : List (κ × Value)} {kvs : List (κ × V)} {vs : List (κ × Value)}, KV more rs -> KV kvs vs -> KV (more.foldl (fun acc kv => putK acc kv.1 kv.2) kvs) (EvD.mergeP vs rs) := fun {more rs kvs vs} h => by
  induction h generalizing kvs vs with
  | nil => exact fun h => h
  | @cons p q _ _ h _ ih =>
    intro h2
    obtain ⟨k, y⟩ := p
    obtain ⟨k', u⟩ := q
    obtain ⟨h1, h3⟩ := h
    have h1 : k = k' := h1
    subst h1
    exact ih (h2.put k h3)
def rDictOf (K : PySem.W.Frag) : List V -> Hp -> VK -> Prop := fun xs H Q => ∃ p ys kvs, xs = [.ref p] /\ H p = some (.lst ys) /\ PairsAt K H ys kvs /\ kvs.length <= 1000 /\ ∀ l, H l = none -> Q (.ref l) (upd H l (.dK (mergeK [] kvs)))
theorem call_dictOf (hc : X.calm = true) : CallR X (.type "dict") (rDictOf X.K) := by
  intro pins s σ H xs us Q I r h
  obtain ⟨p, ys, kvs, rfl, hp, t, hz, q⟩ := h
  obtain ⟨u, rfl, ru⟩ := vals1 r
  cases ru
  obtain ⟨z, its, n, rv, hl, ho⟩ := I.lstM hp
  have gen : ∀ {ys : List V} {its : List Value} {kvs : List (Key × V)}, Vals ys its -> PairsAt X.K H ys kvs -> ∃ ps, KV kvs ps /\ PairsIn (mixKind X.prog X.w) s.heap its ps := fun {ys its kvs} rv t => by
    induction t generalizing its with
    | nil =>
      cases rv
      exact ⟨[], .nil, .nil⟩
    | @cons y p ys kvs h t ih =>
      cases rv with
      | cons r0 rv =>
        obtain ⟨ps, h1, h2⟩ := ih rv
        obtain ⟨a, e, sq⟩ := h
        subst e
        cases r0
        obtain ⟨tv, rt, it, _⟩ := I.tuple (SqT.of sq)
        obtain ⟨key, x, e2, rk, rx⟩ := vals2 rt
        subst e2
        refine ⟨(p.1, x) :: ps, Paired.cons (show p.1 = p.1 /\ RelV p.2 x from ⟨rfl, rx⟩) h1, Paired.cons (show ∃ a' key', Value.ref a = .ref a' /\ IsTup s.heap a' #[key', x] /\ (mixKind X.prog X.w).is p.1 key' = true from ⟨a, key, rfl, it, kV_is rk⟩) h2⟩
  obtain ⟨ps, h1, h2⟩ := gen rv t
  have lp := KV.length h1
  refine call_dict_of (knd := mixKind X.prog X.w) (I.ok.hd hc) ho h2 (by omega) fun h' tk hd kp => ?_
  refine ⟨.ref s.heap.objs.size, _, I.laid (t' := tk) kp (Nat.le_refl _) (dk_new ?_ (beq_eq_false_iff_ne.mpr (Ne.symm (Nat.ne_of_lt I.big))) (KV.mergeP h1 .nil) hd), rfl, q _ I.fresh⟩
  have := length_mergeK kvs []
  have := sizeLine_eq
  simp only [List.length_nil] at *
  show (mergeK [] kvs).length <= sizeLine
  omega
theorem bools_of : ∀ {bs : List Bool} {vs : List Value}, Vals (bs.map V.bl) vs -> vs = bs.map Value.bool
  | [], _, .nil => rfl
  | b :: bs, _, .cons h t => by
    cases h
    rw [bools_of t]
    rfl
def rAll (K : PySem.W.Frag) (g : List Bool -> Bool) : List V -> Hp -> VK -> Prop := fun xs H Q => ∃ p bs, xs = [.ref p] /\ SqL K H p (bs.map V.bl) /\ Q (.bl (g bs)) H
theorem call_all (hc : X.calm = true) : CallR X (.builtin "all") (rAll X.K fun bs => bs.all id) := by
  intro pins s σ H xs us Q I r h
  obtain ⟨p, bs, rfl, hp, q⟩ := h
  obtain ⟨u, rfl, ru⟩ := vals1 r
  cases ru
  obtain ⟨its, rv, pl, z⟩ := I.list hp
  obtain rfl := bools_of rv
  have hl := pl.isList
  have lt : p < s.heap.objs.size := by obtain ⟨_, e, _⟩ := hl; exact Heap.lt_size e
  refine call_all_walk (wpAny_pyIter_list hl ⟨s.heap.objs.size, [s.heap.objs.size, p], [s.heap.objs.size], (bs.map Value.bool).toArray.size, _, _, fun i => (bs[i]?).getD true, rfl, Walks.list (A := X.A.in1) (I.ok.hd hc) _ p (Nat.ne_of_lt lt) _, ⟨⟨_, Heap.get?_push_size _ rfl, rfl, rfl⟩, hl.push _⟩, fun i v s' Q' E' hP hQ => ?_, fun h' tk hk => ?_⟩)
  · have hP : (bs.map Value.bool).toArray[i]? = some v := hP
    simp only [List.getElem?_toArray, List.getElem?_map] at hP
    cases e : bs[i]? with
    | none => rw [e] at hP; cases hP
    | some b =>
      have hQ : Q' ((bs[i]?).getD true) s' := hQ
      rw [e] at hP hQ
      cases hP
      exact wpAny_truthy_bool hQ
  · have e : ((List.range (bs.map Value.bool).toArray.size).all fun i => (bs[i]?).getD true) = bs.all id := by
      rw [List.size_toArray, List.length_map]
      exact LSm.range_all bs
    rw [e]
    exact ⟨.bl _, H, I.kept (LSm.kept_iter hk), rfl, q⟩
end
end L2
set_option Elab.async false
set_option linter.all false
set_option maxRecDepth 100000
namespace EvN
open PySem PySem.SeqAt PyProof.Rows
open AutoSeq1 (wpAny_loadPart')
open MeetsSeq MeetsSeq2 MeetsSeq3 SeqRoads2
theorem ne_go (l b : Addr) (xs ys : Array Value) (n m : Nat) (dl db : Option Addr) (sl sb : Array (Option Value)) (hs : xs.size = ys.size) (e : Nat -> Bool) (k : Nat) :
    ∀ i : Nat, xs.size - i = k -> Meets (Builtin.«list.__eq__.loop» ⟨[.ref l, .ref b, rawInt i, rawInt 3], []⟩)
      (fun A R s => (s.heap.get? l = some { cls := .type "list", dict := dl, data := .seq xs n, slots := sl } /\ s.heap.get? b = some { cls := .type "list", dict := db, data := .seq ys m, slots := sb }) /\
        (∀ j (h1 : j < xs.size) (h2 : j < ys.size), EqAt A.in1 s xs[j] ys[j] (e j)) /\ R (.ok (.ret (.bool (!((List.range xs.size).drop i).all e)))) s) := by
  induction k with
  | zero =>
    intro i hk prog w A R s ⟨⟨gl, gb⟩, he, h⟩
    obtain ⟨hp, g, d, tk, os⟩ := s
    wp_walk using wpAny_loadPart' gl, wpAny_loadPart' gb
    rw [show xs[((i : Nat) : Int).toNat]? = none by simp; omega, show ys[((i : Nat) : Int).toNat]? = none by simp; omega]
    rw [show (List.range xs.size).drop i = [] by simp; omega] at h
    wp_walk using wpAny_loadPart' gl, wpAny_loadPart' gb
    refine (show R (.ok (.ret (.bool (xs.size != ys.size)))) _ from ?_)
    rw [show (xs.size != ys.size) = false by simp [hs]]
    exact h
  | succ k ih =>
    intro i hk prog w A R s ⟨⟨gl, gb⟩, he, h⟩
    obtain ⟨hp, g, d, tk, os⟩ := s
    wp_walk using wpAny_loadPart' gl, wpAny_loadPart' gb
    have z1 : i < xs.size := by omega
    have z2 : i < ys.size := by omega
    have q1 : xs[((i : Nat) : Int).toNat]? = some xs[i] := by simp [z1]
    have q2 : ys[((i : Nat) : Int).toNat]? = some ys[i] := by simp [z2]
    rw [show (List.range xs.size).drop i = i :: (List.range xs.size).drop (i + 1) by simp [List.drop_eq_getElem_cons, z1], List.all_cons] at h
    rw [q1, q2]
    refine wpAny_bind (he i z1 z2 prog w _ _ ?_)
    cases c : e i with
    | true =>
      rw [c] at h
      wp_walk
      rw [show ((i : Int) + 1) = ((i + 1 : Nat) : Int) by omega]
      refine ⟨plainId_quiet plain_eq_loop _, codeAny_builtin entry_eq_loop ?_⟩
      rw [Around.under_plainId plain_eq_loop _]
      exact ih (i + 1) (by omega) prog w A R _ ⟨⟨gl, gb⟩, he, by simpa using h⟩
    | false =>
      rw [c] at h
      wp_walk using wpAny_loadPart' gl, wpAny_loadPart' gb
      rw [q1, q2]
      wp_walk
      simpa using h
theorem ne_lists (l b : Addr) (xs ys : Array Value) (n m : Nat) (dl db : Option Addr) (sl sb : Array (Option Value)) (hs : xs.size = ys.size) (e : Nat -> Bool) :
    Meets (Builtin.«list.__ne__» ⟨[.ref l, .ref b], []⟩)
      (fun A R s => (s.heap.get? l = some { cls := .type "list", dict := dl, data := .seq xs n, slots := sl } /\ s.heap.get? b = some { cls := .type "list", dict := db, data := .seq ys m, slots := sb }) /\
        (∀ j (h1 : j < xs.size) (h2 : j < ys.size), EqAt A.in1 s xs[j] ys[j] (e j)) /\ R (.ok (.ret (.bool (!(List.range xs.size).all e)))) s) := by
  intro prog w A R s ⟨⟨gl, gb⟩, he, h⟩
  obtain ⟨hp, g, d, tk, os⟩ := s
  have f3 := AutoSeq1.sub_list_list
  have no : ¬ (xs.size != ys.size) = true := by simp [hs]
  wp_walk using wpAny_loadPart' gl, wpAny_loadPart' gb
  refine ⟨plainId_quiet plain_eq_loop _, codeAny_builtin entry_eq_loop ?_⟩
  rw [Around.under_plainId plain_eq_loop _]
  exact ne_go l b xs ys n m dl db sl sb hs e _ 0 rfl prog w A R _ ⟨⟨gl, gb⟩, he, by simpa using h⟩
theorem ne_sizes (l b : Addr) (xs ys : Array Value) (n m : Nat) (dl db : Option Addr) (sl sb : Array (Option Value)) (hs : (xs.size != ys.size) = true) :
    Meets (Builtin.«list.__ne__» ⟨[.ref l, .ref b], []⟩)
      (fun A R s => (s.heap.get? l = some { cls := .type "list", dict := dl, data := .seq xs n, slots := sl } /\ s.heap.get? b = some { cls := .type "list", dict := db, data := .seq ys m, slots := sb }) /\ R (.ok (.ret (.bool true))) s) :=
  .of_wp fun prog w A R s ⟨⟨gl, gb⟩, h⟩ => by
    obtain ⟨hp, g, d, tk, os⟩ := s
    have f3 := AutoSeq1.sub_list_list
    wp_walk using wpAny_loadPart' gl, wpAny_loadPart' gb
    exact ⟨_, rfl, h⟩
section
variable {prog : Program} {w : World} {A : Around} {E : Value -> Shared -> Prop} {s : Shared}
theorem ne_listAt {l b : Addr} {xs ys : Array Value} {e : Nat -> Bool} {Q : Value -> Shared -> Prop} (hl : s.heap.IsList l xs) (hb : s.heap.IsList b ys) (hs : xs.size = ys.size) (hu : A.units < cLine)
    (he : ∀ j (h1 : j < xs.size) (h2 : j < ys.size), EqAt A.in1 s xs[j] ys[j] (e j)) (h : Q (.bool (!(List.range xs.size).all e)) s) : wpAny (model prog w) A (compareOp .NotEq (.ref l) (.ref b)) Q E s := by
  obtain ⟨⟨c1, d1, t1, l1⟩, o1, k1, n1, z1⟩ := id hl
  obtain ⟨⟨c2, d2, t2, l2⟩, o2, k2, n2, z2⟩ := id hb
  simp only at k1 z1 k2 z2
  subst k1 z1 k2 z2
  exact richCompare_meets_room (op := .NotEq) ⟨_, o1, rfl⟩ ⟨_, o2, rfl⟩ F.slot_list_ne F.entry_list_ne (F.args_list_ne_2 _ _) (ne_lists l b xs ys n1 n2 d1 d2 l1 l2 hs e) ⟨⟨o1, o2⟩, he, show Value.bool (!(List.range xs.size).all e) ≠ Value.notImplemented /\ Q (.bool (!(List.range xs.size).all e)) s from ⟨(fun x => nomatch x), h⟩⟩ hu
theorem ne_sizesAt {l b : Addr} {xs ys : Array Value} {Q : Value -> Shared -> Prop} (hl : s.heap.IsList l xs) (hb : s.heap.IsList b ys) (hs : (xs.size != ys.size) = true) (hu : A.units < cLine) (h : Q (.bool true) s) : wpAny (model prog w) A (compareOp .NotEq (.ref l) (.ref b)) Q E s := by
  obtain ⟨⟨c1, d1, t1, l1⟩, o1, k1, n1, z1⟩ := id hl
  obtain ⟨⟨c2, d2, t2, l2⟩, o2, k2, n2, z2⟩ := id hb
  simp only at k1 z1 k2 z2
  subst k1 z1 k2 z2
  exact richCompare_meets_room (op := .NotEq) ⟨_, o1, rfl⟩ ⟨_, o2, rfl⟩ F.slot_list_ne F.entry_list_ne (F.args_list_ne_2 _ _) (ne_sizes l b xs ys n1 n2 d1 d2 l1 l2 hs) ⟨⟨o1, o2⟩, show Value.bool true ≠ Value.notImplemented /\ Q (.bool true) s from ⟨(fun x => nomatch x), h⟩⟩ hu
end
end EvN
set_option Elab.async false
set_option linter.all false
set_option maxRecDepth 100000
namespace L2
open PySem PySem.Spec PyProof.Rows PySem.W EvS EvD
abbrev Rp (D : Type) := Hp -> V -> D -> Prop
structure Cmp (X : Cx) (n : Nat) {D : Type} [DecidableEq D] (R : Rp D) : Prop where
  eq : ∀ {pins : List (Addr × Obj)} {σ : St} {H : Hp} {s : Shared} {A : Around} {x y : V} {u v : Value} {d e : D}, Inv X pins σ H s -> RelV x u -> RelV y v -> R H x d -> R H y e -> A.units + n < cLine -> SeqAt.EqAt A s u v (decide (d = e))
  one : ∀ {pins : List (Addr × Obj)} {σ : St} {H : Hp} {s : Shared} {x : V} {d e : D}, Inv X pins σ H s -> R H x d -> R H x e -> d = e
def rS : Rp Str := fun _ x d => x = .str d
def r2 (K : PySem.W.Frag) {D1 D2 : Type} (R1 : Rp D1) (R2 : Rp D2) : Rp (D1 × D2) := fun H x d => ∃ a u v, x = .ref a /\ SqT K H a [u, v] /\ R1 H u d.1 /\ R2 H v d.2
def rL (K : PySem.W.Frag) {D : Type} (R : Rp D) : Rp (List D) := fun H x ds => ∃ a xs, x = .ref a /\ SqL K H a xs /\ Paired (R H) xs ds
section
variable {X : Cx}
theorem cmpS : Cmp X 0 rS where
  eq := fun {pins σ H s A x y u v d e} I ru rv hx hy hu => by
    have hx : x = .str d := hx
    have hy : y = .str e := hy
    subst hx
    subst hy
    have q := eqAt_V (A := A) (s := s) ru rv rfl rfl
    have e2 : eqV (.str d) (.str e) = decide (d = e) := by
      show (d == e) = _
      by_cases h : d = e
      · subst h; simp
      · simp [h]
    rwa [e2] at q
  one := fun {pins σ H s x d e} I hx hy => by
    have hx : x = .str d := hx
    have hy : x = .str e := hy
    rw [hx] at hy
    exact V.str.inj hy
theorem isTuple_of {h : Heap} {a : Addr} {its : Array Value} (t : IsTup h a its) : h.IsTuple a its := t
theorem cmp2 {n m : Nat} {D1 D2 : Type} [DecidableEq D1] [DecidableEq D2] {R1 : Rp D1} {R2 : Rp D2} (c1 : Cmp X n R1) (c2 : Cmp X m R2) : Cmp X (max n m + 1) (r2 X.K R1 R2) where
  one := fun {pins σ H s x d e} I hx hy => by
    obtain ⟨a, u, v, rfl, t, q1, q2⟩ := hx
    obtain ⟨b, u', v', e0, t', q1', q2'⟩ := hy
    cases e0
    have e1 := I.tuple_inj t t'
    cases e1
    exact Prod.ext (c1.one I q1 q1') (c2.one I q2 q2')
  eq := fun {pins σ H s A x y u v d e} I ru rv hx hy hu => by
    have hx' := hx
    have hy' := hy
    obtain ⟨a, x1, x2, rfl, t, q1, q2⟩ := hx
    obtain ⟨b, y1, y2, rfl, t', q1', q2'⟩ := hy
    cases ru
    cases rv
    by_cases hab : a = b
    · subst hab
      have e1 := I.tuple_inj t t'
      cases e1
      have : d = e := Prod.ext (c1.one I q1 q1') (c2.one I q2 q2')
      rw [decide_eq_true this]
      exact SeqAt.EqAt.same _
    · obtain ⟨its, r, it, _⟩ := I.tuple t
      obtain ⟨its', r', it', _⟩ := I.tuple t'
      obtain ⟨u1, u2, rfl, r1, r2⟩ := vals2 r
      obtain ⟨w1, w2, rfl, r1', r2'⟩ := vals2 r'
      have key := SeqAt.EqAt.of_refs hab (SeqAt.RcAt.tuples (A := A) (s := s) (e := fun j => if j = 0 then decide (d.1 = e.1) else decide (d.2 = e.2)) (isTuple_of it) (isTuple_of it') (by omega) fun j h1 h2 => by
        match j, h1, h2 with
        | 0, _, _ => exact c1.eq I r1 r1' q1 q1' (by show A.units + 1 + n < cLine; omega)
        | 1, _, _ => exact c2.eq I r2 r2' q2 q2' (by show A.units + 1 + m < cLine; omega))
      have e3 : ((List.range (min [u1, u2].toArray.size [w1, w2].toArray.size)).all (fun j => if j = 0 then decide (d.1 = e.1) else decide (d.2 = e.2)) && [u1, u2].toArray.size == [w1, w2].toArray.size) = decide (d = e) := by
        show (decide (d.1 = e.1) && (decide (d.2 = e.2) && true) && true) = _
        by_cases h1 : d.1 = e.1
        · by_cases h2 : d.2 = e.2
          · have : d = e := Prod.ext h1 h2
            simp [this]
          · have : ¬ d = e := fun z => h2 (by rw [z])
            simp [h1, h2, this]
        · have : ¬ d = e := fun z => h1 (by rw [z])
          simp [h1, this]
      rw [e3] at key
      exact key
theorem paired_get {α β : Type} {F : α -> β -> Prop} : ∀ {l : List α} {m : List β}, Paired F l m -> ∀ (i : Nat) (h1 : i < l.length) (h2 : i < m.length), F l[i] m[i]
  | _, _, .cons h t, 0, _, _ => h
  | _, _, .cons h t, i + 1, h1, h2 => paired_get t i (by simpa using h1) (by simpa using h2)
theorem all_range_eq {D : Type} [DecidableEq D] : ∀ {ds es : List D}, ds.length = es.length -> ((List.range ds.length).all fun j => decide (ds[j]? = es[j]?)) = decide (ds = es) := fun {ds es} hl => by
  by_cases h : ds = es
  · subst h
    simp
  · rw [decide_eq_false h]
    have : ∃ i, i < ds.length /\ ds[i]? ≠ es[i]? := by
      refine Classical.byContradiction fun hn => h ?_
      apply List.ext_getElem?
      intro i
      by_cases hi : i < ds.length
      · exact Classical.byContradiction fun q => hn ⟨i, hi, q⟩
      · rw [List.getElem?_eq_none (by omega), List.getElem?_eq_none (by omega)]
    obtain ⟨i, hi, q⟩ := this
    rw [List.all_eq_false]
    exact ⟨i, by simpa using hi, by simpa using q⟩
theorem items_eq {D : Type} [DecidableEq D] {n : Nat} {R : Rp D} (c : Cmp X n R) {pins : List (Addr × Obj)} {σ : St} {H : Hp} {s : Shared} {A : Around} (I : Inv X pins σ H s) {xs ys : List V} {us vs : List Value} {ds es : List D} (ru : Vals xs us) (rv : Vals ys vs) (hx : Paired (R H) xs ds) (hy : Paired (R H) ys es) (hu : A.units + n < cLine) :
    ∀ j (h1 : j < us.toArray.size) (h2 : j < vs.toArray.size), SeqAt.EqAt A s us.toArray[j] vs.toArray[j] (decide (ds[j]? = es[j]?)) := fun j h1 h2 => by
  have l1 := ru.length
  have l2 := rv.length
  have l3 := Paired.length hx
  have l4 := Paired.length hy
  simp only [List.size_toArray] at h1 h2
  have q := c.eq (A := A) I (paired_get ru j (by omega) h1) (paired_get rv j (by omega) h2) (paired_get hx j (by omega) (by omega)) (paired_get hy j (by omega) (by omega)) hu
  have e : decide (ds[j]? = es[j]?) = decide (ds[j]'(by omega) = es[j]'(by omega)) := by
    rw [List.getElem?_eq_getElem (by omega), List.getElem?_eq_getElem (by omega)]
    by_cases z : ds[j]'(by omega) = es[j]'(by omega)
    · simp [z]
    · simp [z]
  rw [e]
  exact q
def rEqD {D : Type} [DecidableEq D] (R : Rp D) (neg : Bool) : V -> V -> Hp -> VK -> Prop := fun x y H Q => ∃ d e, R H x d /\ R H y e /\ Q (.bl (if neg then !decide (d = e) else decide (d = e))) H
theorem op_neL {n : Nat} {D : Type} [DecidableEq D] {R : Rp D} (c : Cmp X n R) (hu : X.A.units + n + 1 < cLine) : OpR X (compareOp .NotEq) (rEqD (rL X.K R) true) := by
  intro pins s σ H x y v u Q I rx ry h
  obtain ⟨d, e, ⟨a, xs, rfl, t, q⟩, ⟨b, ys, rfl, t', q'⟩, hq⟩ := h
  cases rx
  cases ry
  obtain ⟨us, r, pl, _⟩ := I.list t
  obtain ⟨vs, r', pl', _⟩ := I.list t'
  have l1 := r.length
  have l2 := r'.length
  have l3 := Paired.length q
  have l4 := Paired.length q'
  have hq : Q (.bl (!decide (d = e))) H := hq
  by_cases hl : d.length = e.length
  · refine EvN.ne_listAt pl.isList pl'.isList (by simp only [List.size_toArray]; omega) (by omega) (items_eq c I r r' q q' (A := X.A.in1) (by show X.A.units + 1 + n < cLine; omega)) ⟨.bl _, H, I, rfl, ?_⟩
    rw [show us.toArray.size = d.length by simp only [List.size_toArray]; omega, all_range_eq hl]
    exact hq
  · refine EvN.ne_sizesAt pl.isList pl'.isList (by simp only [List.size_toArray, bne_iff_ne]; omega) (by omega) ⟨.bl _, H, I, rfl, ?_⟩
    rwa [decide_eq_false (fun z => hl (by rw [z]))] at hq
def rInD (K : PySem.W.Frag) {D : Type} [DecidableEq D] (R : Rp D) (neg : Bool) : V -> V -> Hp -> VK -> Prop := fun x y H Q => ∃ d es, R H x d /\ rL K R H y es /\ Q (.bl (if neg then !decide (d ∈ es) else decide (d ∈ es))) H
theorem any_of {D : Type} [DecidableEq D] {n : Nat} {R : Rp D} (c : Cmp X n R) {pins : List (Addr × Obj)} {σ : St} {H : Hp} {s : Shared} {A : Around} (I : Inv X pins σ H s) {x : V} {u : Value} {d : D} (ru : RelV x u) (hx : R H x d) (hu : A.units + n < cLine) : ∀ {ys : List V} {vs : List Value} {es : List D}, Vals ys vs -> Paired (R H) ys es ->
    ∃ f : Value -> Bool, (∀ w ∈ vs, SeqAt.EqAt A s w u (f w)) /\ vs.any f = decide (d ∈ es) := fun {ys vs es} rv hy => by
  let f : Value -> Bool := fun w => @decide (∃ y e, RelV y w /\ R H y e /\ e = d) (Classical.propDecidable _)
  have sound : ∀ y w e, RelV y w -> R H y e -> f w = decide (e = d) := fun y w e h1 h2 => by
    by_cases z : e = d
    · rw [decide_eq_true z]
      exact @decide_eq_true _ (Classical.propDecidable _) ⟨y, e, h1, h2, z⟩
    · rw [decide_eq_false z]
      refine @decide_eq_false _ (Classical.propDecidable _) fun ⟨y', e', g1, g2, g3⟩ => z ?_
      have : y' = y := RelV.inj g1 h1
      subst this
      rw [<- g3]
      exact c.one I h2 g2
  refine ⟨f, ?_, ?_⟩
  · induction rv generalizing es with
    | nil => exact fun w hw => nomatch hw
    | cons h t ih =>
      cases hy with
      | cons g t' =>
        intro w hw
        rcases List.mem_cons.mp hw with rfl | hw
        · rw [sound _ _ _ h g]
          exact c.eq I h ru g hx hu
        · exact ih t' w hw
  · induction rv generalizing es with
    | nil =>
      cases hy
      simp
    | cons h t ih =>
      cases hy with
      | @cons _ e _ es g t' =>
        rw [List.any_cons, ih t', sound _ _ _ h g]
        by_cases z : e = d
        · subst z
          simp
        · by_cases z2 : d ∈ es
          · simp [z2]
          · have : ¬ d ∈ e :: es := fun q => by
              rcases List.mem_cons.mp q with q | q
              · exact z q.symm
              · exact z2 q
            rw [decide_eq_false z, decide_eq_false z2, decide_eq_false this]
            rfl
theorem op_inD {n : Nat} {D : Type} [DecidableEq D] {R : Rp D} (c : Cmp X n R) (hu : X.A.units + n + 1 < cLine) : OpR X (compareOp .In) (rInD X.K R false) := by
  intro pins s σ H x y v u Q I rx ry h
  obtain ⟨d, es, hx, ⟨a, ys, rfl, t, q⟩, hq⟩ := h
  cases ry
  obtain ⟨us, r, pl, _⟩ := I.list t
  obtain ⟨f, h1, h2⟩ := any_of c I (A := X.A.in1) rx hx (by show X.A.units + 1 + n < cLine; omega) r q
  refine SeqAt.in_listAt f pl.isList (fun w hw => h1 w (by simpa using hw)) ⟨.bl _, H, I, rfl, ?_⟩
  rw [show us.toArray.any f = us.any f by simp, h2]
  exact hq
theorem op_notInD {n : Nat} {D : Type} [DecidableEq D] {R : Rp D} (c : Cmp X n R) (hu : X.A.units + n + 1 < cLine) : OpR X (compareOp .NotIn) (rInD X.K R true) := by
  intro pins s σ H x y v u Q I rx ry h
  obtain ⟨d, es, hx, ⟨a, ys, rfl, t, q⟩, hq⟩ := h
  cases ry
  obtain ⟨us, r, pl, _⟩ := I.list t
  obtain ⟨f, h1, h2⟩ := any_of c I (A := X.A.in1) rx hx (by show X.A.units + 1 + n < cLine; omega) r q
  refine SeqAt.notIn_listAt f pl.isList (fun w hw => h1 w (by simpa using hw)) ⟨.bl _, H, I, rfl, ?_⟩
  rw [show us.toArray.any f = us.any f by simp, h2]
  exact hq
end
end L2
set_option Elab.async false
set_option linter.all false
set_option maxRecDepth 100000
namespace L2
open PySem PySem.Spec PyProof.Rows PySem.W EvS EvD
section
variable {X : Cx}
def rIsi (K : PySem.W.Frag) : List V -> Hp -> VK -> Prop := fun xs H Q => ∃ x T t b, xs = [x, .ty T] /\ TyOf K H x t /\ PySem.W.kitOne K t (.type T) = some b /\ Q (.bl b) H
theorem call_isi : CallR X (.builtin "isinstance") (rIsi X.K) := by
  intro pins s σ H xs us Q I r h
  obtain ⟨x, T, t, b, rfl, ty, e, q⟩ := h
  obtain ⟨u, w', rfl, ru, rw'⟩ := vals2 r
  cases (show w' = Value.type T from rw')
  exact isinst_ok I ru ty e fun tk => ⟨.bl b, H, I.tok tk, rfl, q⟩
theorem op_le_str : OpR X (compareOp .LtE) (fun x y H Q => ∃ i j, x = .str i /\ y = .str j /\ Q (.bl (!decide (j.cps.toList < i.cps.toList))) H) := by
  intro pins s σ H x y v u Q I rx ry h
  obtain ⟨i, j, rfl, rfl, q⟩ := h
  obtain ⟨t, rfl⟩ := rx
  obtain ⟨t', rfl⟩ := ry
  exact PySem.P.le_str ⟨.bl _, H, I, rfl, q⟩
theorem ins_raw {prog : Program} {w' : World} {A : Around} {E : Value -> Shared -> Prop} {s : Shared} (l : Addr) (its : Array Value) (n : Nat) (k : Int) (t : Tok) (w : Value) (h1 : ¬(!Builtin.List.listFitsIndex k) = true) (h2 : its.size <= sizeLine) {Q : Value -> Shared -> Prop}
  (e : s.heap.get? l = some { cls := .type "list", data := .seq its n }) (f : Array Value -> Array Value) (hf : f = fun xs : Array Value => have k := if k < 0 then (k + ((xs.size : Nat) : Int)).toNat else min k.toNat xs.size; (xs.extract 0 k).push w ++ xs.extract k)
  (q : Q .none { s with heap := s.heap.update l (Obj.mapSeq f) }) : wpAny (model prog w') A (call (.builtin "list.insert") [.ref l, .int k t, w]) Q E s := by
  subst hf
  have hm := @PySem.AutoListH.list_insert_list_int_val_1 l its n k t w h1 h2
  have ty : s.TypeIs (.ref l) "list" := ⟨_, e, rfl⟩
  exact wpAny_call (codeAny_call_builtin F.slot_list_insert.plain F.entry_list_insert (F.slot_list_insert.check _ _ _ _ _ _ _ _ ty (F.args_list_insert_3 _ _ _) (hm prog w' A (wants Q E) s ⟨e, q⟩)))
def rInsert : V -> List V -> Hp -> VK -> Prop := fun x vs H Q => ∃ (l : Addr) (k : Nat) (xs : List V) (y : V), x = .ref l /\ vs = [.int k, y] /\ H l = some (.lst xs) /\ k <= xs.length /\ xs.length < 100000 /\ Q .non (upd H l (.lst (xs.take k ++ y :: xs.drop k)))
theorem mt_insert : MtM X "list.insert" rInsert := by
  intro pins s σ H x vs v us Q I rx rv h
  obtain ⟨l, k, xs, y, rfl, rfl, hH, hk, hz, q⟩ := h
  cases rx
  obtain ⟨u, w, rfl, ⟨t, rfl⟩, rw'⟩ := rv.two
  obtain ⟨z, its, n, r, hl, e⟩ := I.lstM hH
  have sz := sizeLine_eq
  have fit : Builtin.List.listFitsIndex (k : Int) = true := by
    unfold Builtin.List.listFitsIndex
    rw [decide_eq_true (by omega), decide_eq_true (by omega)]
    rfl
  refine ins_raw l its.toArray n (k : Int) t w (by rw [fit]; exact Bool.false_ne_true) (by rw [List.size_toArray]; omega) e _ rfl ?_
  · refine ⟨.non, _, I.lset (its' := its.take k ++ w :: its.drop k) (f := fun xs => have k' := if (k : Int) < 0 then ((k : Int) + ((xs.size : Nat) : Int)).toNat else min (k : Int).toNat xs.size; (xs.extract 0 k').push w ++ xs.extract k') hH e ?_ (Vals.append (r.take k) (.cons rw' (r.drop k))) ?_, rfl, q⟩
    · have e1 : (if (k : Int) < 0 then ((k : Int) + ((its.toArray.size : Nat) : Int)).toNat else min (k : Int).toNat its.toArray.size) = k := by
        rw [if_neg (by omega)]
        simp
        omega
      dsimp only
      rw [e1]
      apply Array.ext'
      simp [List.take_of_length_le]
    · rw [List.length_append, List.length_cons, List.length_take, List.length_drop]
      omega
def tView (mk : Addr -> Addr -> HO) (td : TE) : TE := fun σ H Q => td σ H fun x H1 => ∃ d kvs, x = .ref d /\ H1 d = some (.dK kvs) /\ ∀ v, H1 v = none -> Q (.ref v) (upd H1 v (mk v d))
theorem view_ok {pins : List (Addr × Obj)} {σ : St} {H : Hp} {s : Shared} {d : Addr} {cls : String} (I : Inv X pins σ H s) (φ : Heap -> Prop) (hφ : φ (s.heap.push { cls := .type cls, data := .fields #[.ref d] })) (hs : ∀ h1 h2 : Heap, φ h1 -> (∀ o, h1.get? s.heap.objs.size = some o -> h2.get? s.heap.objs.size = some o) -> φ h2) :
    Inv X pins σ (upd H s.heap.objs.size (.ext φ)) { s with heap := s.heap.push { cls := .type cls, data := .fields #[.ref d] } } :=
  I.laid (t' := s.toks) (fun _ _ q => Heap.get?_push_of_some _ q) (Nat.le_refl _) ⟨hφ, ⟨_, Heap.get?_push_size _ rfl⟩, hs⟩
theorem pe_items {o : Expr} {td : TE} {apos cpos : Pos} (ho : PE X o td) (hbase : attributeBase o "items" X.env (eval o X.env) = eval o X.env := by rfl) (hline : (apos.endLine == cpos.line) = true := by rfl) : PE X (.Call (.Attribute o "items" apos) [] [] cpos) (tView itemsV td) := by
  intro pins s σ H Q I h
  refine wpAny_Call_method0_late hbase hline (thn (ho pins s σ H _ I h) fun v s1 ⟨x, H1, I1, r1, d, kvs, e, hd, q⟩ => ?_)
  subst e
  cases r1
  obtain ⟨t1, t2, t3⟩ := isD_at I1 (.inl ⟨kvs, .inl hd⟩)
  obtain ⟨_, _, vs, rel, dd⟩ := dk_of I1.hok hd
  refine ⟨"dict", "dict.items", PySem.F.plainAttrs_dict, PySem.F.slot_dict_items, PySem.F.type_dict_items, t1, t2, Calls.callWith_builtin rfl (PySem.evalArgs_none ?_)⟩
  refine call_meetsIn PySem.F.slot_dict_items t1 PySem.F.entry_dict_items (PySem.F.args_dict_items_1 _) (meets_dict_items (mixKind X.prog X.w) d t3) ⟨⟨vs, dd⟩, ?_⟩
  exact ⟨.ref _, _, view_ok I1 _ ⟨_, Heap.get?_push_size _ rfl, rfl, rfl⟩ fun h1 h2 ⟨o, e, r⟩ k => ⟨o, k o e, r⟩, rfl, q _ I1.fresh⟩
end
section
variable {X : Cx} {pins : List (Addr × Obj)} {σ : St} {H : Hp} {s : Shared} {d : Addr} {kvs : List (Key × V)}
end
def Its (x : Str) : It := ⟨fun i _ => i < x.cps.size, fun i H v H' => H' = H /\ ∃ c, x.cps[i]? = some c /\ v = .str ⟨#[c]⟩, fun i _ => x.cps.size <= i⟩
theorem turn_ascii {P : Program} {w : World} {K : PySem.W.Frag} {tg : Expr} (it : Addr) (x : Str) (t : Tok) : Turn P w K tg (Its x) [it] it (fun i h => i <= x.cps.size /\ h.IsStrIter it "str_ascii_iterator" x t i) where
  mem := by simp
  obj := fun i h st b hb => by
    obtain rfl : b = it := by simpa using hb
    obtain ⟨o, e, c, d⟩ := st.2
    exact ⟨o, e, fun v z => by rw [d] at z; cases z⟩
  keep := fun i h h' st k => ⟨st.1, let ⟨o, ho, r⟩ := st.2; ⟨o, k it (by simp) o ho, r⟩⟩
  item := by
    intro X hP hw hK hc i pins s σ H E I hf st hg
    subst hP hw hK
    have hg : i < x.cps.size := hg
    obtain ⟨f0, f1, f2, f3, f4, f5⟩ := hf it (by simp)
    refine wpAny_pyNext_ascii_item st.2 (c := x.cps[i]) (by simp [hg]) fun h' st' sb => ?_
    have I1 : Inv X pins σ H { s with heap := h', toks := s.toks + 1 } := I.turned (t' := s.toks + 1) (fun b o hb e => (sb.2 b hb).trans e) f0 f1 f3 f4 f5
    obtain ⟨o', e, c, dd⟩ := id st'
    exact ⟨_, rfl, go_of (s := { s with heap := h', toks := s.toks + 1 }) e c dd (by decide) ⟨.str ⟨#[x.cps[i]]⟩, H, I1, ⟨_, rfl⟩, ⟨rfl, _, by simp [hg], rfl⟩, ⟨hg, st'⟩, fun b hb => (hf b hb).1⟩⟩
  done := by
    intro X hP hw hK hc i pins s σ H E I hf st hg
    subst hP hw hK
    have hg : x.cps.size <= i := hg
    obtain ⟨f0, f1, f2, f3, f4, f5⟩ := hf it (by simp)
    exact wpAny_pyNext_ascii_end (I.ok.hd hc) st.2 (by simp [hg]) fun h' eb => ⟨rfl, I.turned (t' := s.toks) (fun b o hb e => eb b o hb e) f0 f1 f3 f4 f5⟩
  self := fun _ _ _ _ _ st h => wpAny_pyIter_striter_ascii st.2 h
theorem turn_wide {P : Program} {w : World} {K : PySem.W.Frag} {tg : Expr} (it : Addr) (x : Str) (t : Tok) : Turn P w K tg (Its x) [it] it (fun i h => i <= x.cps.size /\ h.IsStrIter it "str_iterator" x t i) where
  mem := by simp
  obj := fun i h st b hb => by
    obtain rfl : b = it := by simpa using hb
    obtain ⟨o, e, c, d⟩ := st.2
    exact ⟨o, e, fun v z => by rw [d] at z; cases z⟩
  keep := fun i h h' st k => ⟨st.1, let ⟨o, ho, r⟩ := st.2; ⟨o, k it (by simp) o ho, r⟩⟩
  item := by
    intro X hP hw hK hc i pins s σ H E I hf st hg
    subst hP hw hK
    have hg : i < x.cps.size := hg
    obtain ⟨f0, f1, f2, f3, f4, f5⟩ := hf it (by simp)
    refine wpAny_pyNext_wide_item st.2 (c := x.cps[i]) (by simp [hg]) fun h' st' sb => ?_
    have I1 : Inv X pins σ H { s with heap := h', toks := s.toks + 1 } := I.turned (t' := s.toks + 1) (fun b o hb e => (sb.2 b hb).trans e) f0 f1 f3 f4 f5
    obtain ⟨o', e, c, dd⟩ := id st'
    exact ⟨_, rfl, go_of (s := { s with heap := h', toks := s.toks + 1 }) e c dd (by decide) ⟨.str ⟨#[x.cps[i]]⟩, H, I1, ⟨_, rfl⟩, ⟨rfl, _, by simp [hg], rfl⟩, ⟨hg, st'⟩, fun b hb => (hf b hb).1⟩⟩
  done := by
    intro X hP hw hK hc i pins s σ H E I hf st hg
    subst hP hw hK
    have hg : x.cps.size <= i := hg
    obtain ⟨f0, f1, f2, f3, f4, f5⟩ := hf it (by simp)
    exact wpAny_pyNext_wide_end (I.ok.hd hc) st.2 (by simp [hg]) fun h' eb => ⟨rfl, I.turned (t' := s.toks) (fun b o hb e => eb b o hb e) f0 f1 f3 f4 f5⟩
  self := fun _ _ _ _ _ st h => wpAny_pyIter_striter_wide st.2 h
def iStr (tl : TE) : TI := fun σ H R => tl σ H fun v H1 => ∃ x, v = .str x /\ R (Its x) H1
theorem pi_str {X : Cx} {tg l : Expr} {tl : TE} (hl : PE X l tl) : PI X tg l (iStr tl) := by
  intro pins s σ H R I h
  refine thn (hl pins s σ H _ I h) fun v s1 ⟨y, H1, I1, r1, x, e, q⟩ => ?_
  subst e
  obtain ⟨t, rfl⟩ := r1
  have fp : ∀ b ∈ [s1.heap.objs.size], FpOk X pins H1 b := fun b hb => by
    obtain rfl : b = s1.heap.objs.size := by simpa using hb
    exact I1.fpOk (Nat.le_refl _) (I1.hok.fresh (Nat.le_refl _))
  cases ha : x.cps.all (· < 128)
  · refine wpAny_pyIter_wide ha ?_
    exact ⟨s1.heap.objs.size, [s1.heap.objs.size], _, _, H1, rfl, I1.kept (t' := s1.toks) fun b o e => Heap.get?_push_of_some _ e, turn_wide _ x t, ⟨Nat.zero_le _, _, Heap.get?_push_size _ rfl, rfl, rfl⟩, fp, q⟩
  · refine wpAny_pyIter_ascii ha ?_
    exact ⟨s1.heap.objs.size, [s1.heap.objs.size], _, _, H1, rfl, I1.kept (t' := s1.toks) fun b o e => Heap.get?_push_of_some _ e, turn_ascii _ x t, ⟨Nat.zero_le _, _, Heap.get?_push_size _ rfl, rfl, rfl⟩, fp, q⟩
end L2
namespace L2
open PySem PySem.Spec PyProof.Rows PySem.W EvS EvD
theorem opK {X : Cx} {f : Value -> Value -> Sem Value} {K : PySem.W.Frag} (r : PySem.W.Frag -> R2) (h : OpR X f (r X.K)) (hK : X.K = K := by rfl) : OpR X f (r K) := by
  subst hK
  exact h
theorem callK {X : Cx} {f : Value} {K : PySem.W.Frag} (r : PySem.W.Frag -> List V -> Hp -> VK -> Prop) (h : CallR X f (r X.K)) (hK : X.K = K := by rfl) : CallR X f (r K) := by
  subst hK
  exact h
theorem pg_tupC {X : Cx} {N : List Str} {scope : Scope} {fp : List Addr} {s : Shared} {H : Hp} {es : List Expr} {k : Nat} {pos : Pos} {t : TGs} {n : Nat} (h : PGs (cxComp X N scope fp s H) es t) (hc : X.calm = true := by rfl)
    (hn : (assignEach es (cxComp X N scope fp s H).env).length = n := by rfl) (hst : (assignEach es (cxComp X N scope fp s H).env).findIdx? (·.1) = none := by rfl) : PG (cxComp X N scope fp s H) (.Tuple es k pos) (gTup X.K n t) := pg_tup (X := cxComp X N scope fp s H) hc h hn hst
end L2
set_option Elab.async false
set_option linter.all false
set_option maxRecDepth 100000
namespace Ev
open PySem L2
def top (i : Nat) : Stmt := PySem.Challenge.pw_evenpieces_k03_what_is_no_web.main.body.getD i (.Pass ⟨0, 0, 0, 0⟩)
abbrev sIsW : Stmt := top 20
abbrev sWhole : Stmt := top 21
abbrev sName : Stmt := top 22
abbrev sLesser : Stmt := top 23
abbrev sPair : Stmt := top 24
abbrev sSorted : Stmt := top 25
abbrev sHand : Stmt := top 30
abbrev sStr : Stmt := top 31
abbrev sTies : Stmt := top 32
abbrev sNear : Stmt := top 33
abbrev sWeb : Stmt := top 34
def ltS (a b : Str) : Bool := decide (a.cps.toList < b.cps.toList)
def ord2 (a b : Str) : Str × Str := if ltS a b = true then (a, b) else (b, a)
def StrV (K : PySem.W.Frag) (H : Hp) (v : V) : Option Str -> Prop
  | some x => v = .str x
  | none => ∃ t, TyOf K H v t /\ PySem.W.kitOne K t (.type "str") = some false
def IntV (K : PySem.W.Frag) (H : Hp) (v : V) : Option Int -> Prop
  | some i => v = .int i
  | none => (∃ x, v = .bl x) ∨ ∃ t, TyOf K H v t /\ PySem.W.kitOne K t (.type "int") = some false
section
variable {P : Program} {w : World} {K : PySem.W.Frag} {mg : Str -> Option Value} {base : Heap}
theorem scLesser : FnScope ["one", "other"] ["one", "other"] (defScope sLesser) := ⟨rfl, rfl, rfl, by decide +kernel, rfl, by decide +kernel, by decide +kernel⟩
def spLesser : Sp := fun vs H Q _ => ∃ a b, vs = [.str a, .str b] /\ ∀ t, H t = none -> Q (.ref t) (upd H t (.tup [.str (ord2 a b).1, .str (ord2 a b).2]))
theorem ok_lesser {f : Addr} {fd : FuncData} (F : Fun K "lesser_first" "lesser_first" sLesser f fd) : FnOk P w K mg base CX0 1 f fd ["one", "other"] spLesser := by
  refine F.ok scLesser (fun vs H Q E h => ?_) (fun cdv A outer s H vs Q E hr h => ?_)
  · obtain ⟨a, b, rfl, _⟩ := h
    rfl
  · obtain ⟨a, b, rfl, k⟩ := h
    refine ⟨_, pss_one (ps_ret (pe_ifExp (pt_cmpR op_lt_str (pv 0) (pv 1) (nomark _)) (pe_tup (pa_cons (pv 0) (pa_cons (pv 1) pa_nil))) (pe_tup (pa_cons (pv 1) (pa_cons (pv 0) pa_nil))))), ?_⟩
    refine ⟨_, rfl, _, rfl, a, b, rfl, rfl, _, rfl, ?_⟩
    refine ite2 (fun c => ?_) (fun c => ?_)
    · refine ⟨_, rfl, _, rfl, by show 2 <= sizeLine; decide, fun t ht => ?_⟩
      have := k t ht
      rwa [show ord2 a b = (a, b) from if_pos c] at this
    · refine ⟨_, rfl, _, rfl, by show 2 <= sizeLine; decide, fun t ht => ?_⟩
      have := k t ht
      rwa [show ord2 a b = (b, a) from if_neg c] at this
structure Bi (mg : Str -> Option Value) : Prop where
  isi : mg "isinstance" = none
  int : mg "int" = none
  bool : mg "bool" = none
  str : mg "str" = none
  tuple : mg "tuple" = none
  list : mg "list" = none
  dict : mg "dict" = none
  len : mg "len" = none
  all : mg "all" = none
  sorted : mg "sorted" = none
  max : mg "max" = none
  range : mg "range" = none
  any : mg "any" = none
  enum : mg "enumerate" = none
theorem scIsW : FnScope ["thing"] ["thing"] (defScope sIsW) := ⟨rfl, rfl, rfl, by decide +kernel, rfl, by decide +kernel, by decide +kernel⟩
def spIsW (K : PySem.W.Frag) : Sp := fun vs H Q _ => ∃ v o, vs = [v] /\ IntV K H v o /\ Q (.bl o.isSome) H
theorem ok_isW {f : Addr} {fd : FuncData} (F : Fun K "is_whole" "is_whole" sIsW f fd) (B : Bi mg) : FnOk P w K mg base CX0 1 f fd ["thing"] (spIsW K) := by
  refine F.ok scIsW (fun vs H Q E h => ?_) (fun cdv A outer s H vs Q E hr h => ?_)
  · obtain ⟨v, o, rfl, _⟩ := h
    rfl
  · obtain ⟨v, o, rfl, iv, k⟩ := h
    refine ⟨_, pss_one (ps_ret (pe_and (pe_callB call_isi (by rfl) B.isi PyProof.Rows.Boot.«isinstance» (pa_cons (pv 0) (pa_cons (pe_bltn (v := .ty "int") (by rfl) B.int PyProof.Rows.Boot.«int» rfl) pa_nil))) (pe_one (pe_not (pe_callB call_isi (by rfl) B.isi PyProof.Rows.Boot.«isinstance» (pa_cons (pv 0) (pa_cons (pe_bltn (v := .ty "bool") (by rfl) B.bool PyProof.Rows.Boot.«bool» rfl) pa_nil))))))), ?_⟩
    cases o with
    | some i =>
      cases (show v = .int i from iv)
      exact ⟨_, rfl, _, _, _, _, rfl, .int i, rfl, _, rfl, iteT ⟨_, rfl, _, _, _, _, rfl, .int i, rfl, _, rfl, k⟩⟩
    | none =>
      rcases iv with ⟨x, rfl⟩ | ⟨t, ty, e⟩
      · exact ⟨_, rfl, _, _, _, _, rfl, .bl x, rfl, _, rfl, iteT ⟨_, rfl, _, _, _, _, rfl, .bl x, rfl, _, rfl, k⟩⟩
      · exact ⟨_, rfl, _, _, _, _, rfl, ty, e, _, rfl, iteF k⟩
structure Cal (P : Program) (w : World) (K : PySem.W.Frag) (mg : Str -> Option Value) (base : Heap) (k : Nat) (x : Str) (ps : List Str) (sp : Sp) : Prop where
  ex : ∃ f fd, FnOk P w K mg base CX0 k f fd ps sp /\ mg x = some (.ref f) /\ PySem.W.keepIn K (.ref f) = true /\ Binds K fd ps []
theorem Cal.imp {k : Nat} {x : Str} {ps : List Str} {sp sp' : Sp} (c : Cal P w K mg base k x ps sp) (h : ∀ vs H Q E, sp' vs H Q E -> sp vs H Q E) : Cal P w K mg base k x ps sp' := by
  obtain ⟨f, fd, F, m⟩ := c.ex
  exact ⟨f, fd, F.imp h, m⟩
theorem pe_fn {X : Cx} {k : Nat} {x : Str} {ps : List Str} {sp : Sp} {p pos : Pos} {e : Expr} {es : List Expr} {t : TA} (c : Cal X.prog X.w X.K X.mg X.base k x ps sp) (hr : Room k X.A) (ha : PA X (e :: es) t) (hg : Gl X x := by rfl) (hdb : (x == ("__debug__" : Str)) = false := by decide)
    (he : starEach (e :: es) X.env = (false, eval e X.env) :: starEach es X.env := by rfl) (hpl : (backTo pos (starEach es X.env)).any (·.1) = false := by rfl) : PE X (.Call (.Name x p) (e :: es) [] pos) (tCall sp [] E0 t) := by
  obtain ⟨f, fd, F, m, kp, b⟩ := c.ex
  exact pe_call F hr hg m kp b .nil pass0 ha hdb he hpl
theorem scWhole : FnScope ["thing", "least", "most"] ["thing", "least", "most"] (defScope sWhole) := ⟨rfl, rfl, rfl, by decide +kernel, rfl, by decide +kernel, by decide +kernel⟩
def spWholeA (K : PySem.W.Frag) : Sp := fun vs H Q _ => ∃ (v : V) (o : Option Int) (a b : Int), vs = [v, .int a, .int b] /\ IntV K H v o /\ Q (.bl (o.elim false fun i => decide (a <= i) && decide (i <= b))) H
def spWhole : Sp := fun vs H Q _ => ∃ i a b : Int, vs = [.int i, .int a, .int b] /\ Q (.bl (decide (a <= i) && decide (i <= b))) H
theorem whole_of {vs : List V} {H : Hp} {Q : VK} {E : XK} (h : spWhole vs H Q E) : spWholeA K vs H Q E := by
  obtain ⟨i, a, b, rfl, q⟩ := h
  exact ⟨_, some i, a, b, rfl, rfl, q⟩
theorem ok_wholeA {f : Addr} {fd : FuncData} (F : Fun K "is_whole_within" "is_whole_within" sWhole f fd) (cI : Cal P w K mg base 1 "is_whole" ["thing"] (spIsW K)) : FnOk P w K mg base CX0 2 f fd ["thing", "least", "most"] (spWholeA K) := by
  refine F.ok scWhole (fun vs H Q E h => ?_) (fun cdv A outer s H vs Q E hr h => ?_)
  · obtain ⟨v, o, a, b, rfl, _⟩ := h
    rfl
  · obtain ⟨v, o, a, b, rfl, iv, k⟩ := h
    refine ⟨_, pss_one (ps_ret (pe_and (pe_fn cI hr (pa_cons (pv 0) pa_nil)) (pe_one (pe_chain op_le op_le (pv 1) (pv 0) (pv 2))))), ?_⟩
    refine ⟨_, rfl, v, o, rfl, iv, _, rfl, ?_⟩
    cases o with
    | none => exact iteF k
    | some i =>
      cases (show v = .int i from iv)
      refine iteT ⟨_, rfl, _, rfl, _, _, rfl, rfl, _, rfl, ?_⟩
      have k : Q (.bl (decide (a <= i) && decide (i <= b))) H := k
      refine ite2 (fun c => ?_) (fun c => ?_)
      · refine ⟨_, rfl, _, _, rfl, rfl, ?_⟩
        rw [c] at k
        exact k
      · rw [show decide (a <= i) = false by simpa using c] at k
        exact k
def okc (c : Nat) : Bool := decide (97 <= c) && decide (c <= 122)
def nameB (x : Str) : Bool := decide (1 <= x.length) && decide (x.length <= 8) && x.cps.toList.all okc
theorem scName : FnScope ["thing"] ["thing"] (defScope sName) := ⟨rfl, rfl, rfl, by decide +kernel, rfl, by decide +kernel, by decide +kernel⟩
def spName : Sp := fun vs H Q _ => ∃ x : Str, vs = [.str x] /\ x.length <= 100000 /\ ∀ H', Same H H' -> Q (.bl (nameB x)) H'
def spNameA (K : PySem.W.Frag) : Sp := fun vs H Q _ => ∃ (v : V) (x : Option Str), vs = [v] /\ StrV K H v x /\ (∀ y, x = some y -> y.length <= 100000) /\ ∀ H', Same H H' -> Q (.bl (x.elim false nameB)) H'
theorem name_of {vs : List V} {H : Hp} {Q : VK} {E : XK} (h : spName vs H Q E) : spNameA K vs H Q E := by
  obtain ⟨x, rfl, hx, q⟩ := h
  exact ⟨_, some x, rfl, rfl, fun y e => by cases e; exact hx, q⟩
theorem sign_le {c : Nat} : (!decide ((⟨#[c]⟩ : Str).cps.toList < ("a" : Str).cps.toList)) = decide (97 <= c) := by
  have e : ("a" : Str).cps.toList = [97] := by decide +kernel
  rw [e]
  show (!decide ([c] < [97])) = decide (97 <= c)
  by_cases h : 97 <= c
  · have : ¬ [c] < [97] := by simp [List.cons_lt_cons_iff]; omega
    simp [this, h]
  · have : [c] < [97] := by simp [List.cons_lt_cons_iff]; omega
    simp [this, h]
theorem sign_ge {c : Nat} : (!decide (("z" : Str).cps.toList < (⟨#[c]⟩ : Str).cps.toList)) = decide (c <= 122) := by
  have e : ("z" : Str).cps.toList = [122] := by decide +kernel
  rw [e]
  show (!decide ([122] < [c])) = decide (c <= 122)
  by_cases h : c <= 122
  · have : ¬ [122] < [c] := by simp [List.cons_lt_cons_iff]; omega
    simp [this, h]
  · have : [122] < [c] := by simp [List.cons_lt_cons_iff]; omega
    simp [this, h]
theorem ok_nameA {f : Addr} {fd : FuncData} (F : Fun K "is_name" "is_name" sName f fd) (B : Bi mg) {t8 : Tok} (m8 : mg "MOST_LETTERS" = some (.int 8 t8)) : FnOk P w K mg base CX0 1 f fd ["thing"] (spNameA K) := by
  refine F.ok scName (fun vs H Q E h => ?_) (fun cdv A outer s H vs Q E hr h => ?_)
  · obtain ⟨v, x, rfl, _⟩ := h
    rfl
  · obtain ⟨v, x, rfl, sv, hz, k⟩ := h
    have sz := sizeLine_eq
    refine ⟨_, pss_cons (ps_if (pw_or (pt_not (pt_val (pe_callB call_isi (by rfl) B.isi PyProof.Rows.Boot.«isinstance» (pa_cons (pv 0) (pa_cons (pe_bltn (v := .ty "str") (by rfl) B.str PyProof.Rows.Boot.«str» rfl) pa_nil)))))
        (pw_or1 (pt_not (pt_chain op_le op_le pe_int (pe_callB call_len_str (by rfl) B.len PySem.boot_len (pa_cons (pv 0) pa_nil)) (pe_glob (v := .int 8) (by rfl) m8 ⟨t8, rfl⟩))))).pt (pss_one (ps_ret pe_bl)) pss_nil)
      (pss_one (ps_ret (pe_callB (call_all rfl) (by rfl) B.all PyProof.Rows.Boot.«all» (pa_cons
        (pe_comp ["letter"] 1 [] (pi_str (pv 0)) (fun fp s H => pg_name (i := 0) (show (["letter"] : List Str).Nodup by decide +kernel) rfl (Or.inl rfl)) (fun fp s H => pts_nil) (fun fp s H => pe_chain op_le_str op_le_str pe_str (pv 0) pe_str)) pa_nil)))), ?_⟩
    cases x with
    | none =>
      obtain ⟨t, ty, e⟩ := sv
      exact ⟨_, rfl, _, _, _, _, rfl, ty, e, _, rfl, iteT (k H (Same.refl H))⟩
    | some x =>
    cases (show v = .str x from sv)
    have hz := hz x rfl
    have k : ∀ H', Same H H' -> Q (.bl (nameB x)) H' := k
    refine ⟨_, rfl, _, _, _, _, rfl, .str x, rfl, _, rfl, ?_⟩
    refine iteF ?_
    refine ⟨_, rfl, x, rfl, by omega, _, _, rfl, rfl, _, rfl, ?_⟩
    have fin : (decide (1 <= x.length) && decide (x.length <= 8)) = false -> ∀ H', Same H H' -> Q (.bl false) H' := fun e H' sm => by
      have := k H' sm
      rwa [show nameB x = false by unfold nameB; rw [e]; rfl] at this
    refine ite2 (fun c => ?_) (fun c => ?_)
    · have c1 : 1 <= x.length := by
        have : (1 : Int) <= (x.length : Int) := by simpa using c
        omega
      refine ⟨_, _, rfl, rfl, _, rfl, ?_⟩
      refine ite2 (fun c2 => ?_) (fun c2 => ?_)
      · -- too long
        have c3 : ¬ x.length <= 8 := by
          have : ¬ ((x.length : Int) <= 8) := by simpa using c2
          omega
        exact fin (by rw [decide_eq_false c3, Bool.and_false]) H (Same.refl H)
      · have c3 : x.length <= 8 := by
          have : (x.length : Int) <= 8 := by simpa using c2
          omega
        refine ⟨_, rfl, x, rfl, fun D hD => ?_⟩
        refine comp_it (own := 1) (fv := []) rfl gok1 x.cps.size (fun i out H' => H' = upd H D (.lst out) /\ out = ((x.cps.toList.take i).map okc).map V.bl) ⟨rfl, by simp⟩ (fun out H' ⟨e1, e2⟩ => ?_) (fun i out H' hi ⟨e1, e2⟩ => ?_)
        · refine ⟨Nat.le_refl _, D, x.cps.toList.map okc, rfl, .of ?_, ?_⟩
          · rw [e1, upd_same, e2, List.take_of_length_le (by simp)]
          · have := k H' (by rw [e1]; exact Same.new hD)
            rwa [show nameB x = (x.cps.toList.map okc).all id by unfold nameB; rw [decide_eq_true c1, decide_eq_true c3, List.all_map]; rfl] at this
        · refine ⟨hi, fun v H2 y => ?_⟩
          obtain ⟨eH, c, hc, rfl⟩ := y
          subst eH
          refine ⟨_, rfl, rfl, fun Nx hN => yesT ?_⟩
          have lo : out.length < sizeLine := by
            rw [e2]
            have hs : x.length = x.cps.size := rfl
            simp only [List.length_map, List.length_take, Array.length_toList]
            omega
          have nx : Nx (upd H2 D (.lst (out ++ [V.bl (okc c)]))) := hN (out ++ [V.bl (okc c)]) _ ⟨by rw [e1, upd_upd], by
            rw [e2, List.take_add_one]
            simp [hc]⟩
          have atD : H2 D = some (.lst out) := by rw [e1, upd_same]
          refine ⟨_, rfl, _, _, rfl, rfl, _, rfl, ?_⟩
          rw [sign_le]
          refine ite2 (fun c2 => ?_) (fun c2 => ?_)
          · refine ⟨_, _, rfl, rfl, out, atD, lo, ?_⟩
            rw [sign_ge]
            rwa [show okc c = decide (c <= 122) by unfold okc; rw [c2]; rfl] at nx
          · refine ⟨out, atD, lo, ?_⟩
            rwa [show okc c = false by unfold okc; rw [show decide (97 <= c) = false by simpa using c2]; rfl] at nx
    · have c1 : ¬ 1 <= x.length := by
        have : ¬ ((1 : Int) <= (x.length : Int)) := by simpa using c
        omega
      exact ⟨_, rfl, iteT (fin (by rw [decide_eq_false c1]; rfl) H (Same.refl H))⟩
end
end Ev
set_option Elab.async false
set_option linter.all false
set_option maxRecDepth 100000
namespace Ev
open PySem L2
def kT (t : Str × Str) : List Key := [.inr t.1, .inr t.2]
def goodT (t : Str × Str) : Prop := nameB t.1 = true /\ nameB t.2 = true /\ t.1 ≠ t.2
theorem nameB_len {x : Str} (h : nameB x = true) : x.length <= 8 := by
  unfold nameB at h
  simp only [Bool.and_eq_true, decide_eq_true_eq] at h
  exact h.1.2
theorem hpT {H : Hp} {p : Addr} {t : Str × Str} (h : H p = some (.tup ((kT t).map kV))) : H p = some (.tup [.str t.1, .str t.2]) := h
theorem valV_some {κ : Type} [DecidableEq κ] {kvs : List (κ × V)} {k : κ} (h : k ∈ kvs.map (·.1)) : (valV kvs k).isSome = true := by
  rw [<- valV_any]
  obtain ⟨p, hp, e⟩ := List.mem_map.mp h
  exact List.any_eq_true.mpr ⟨p, hp, decide_eq_true e⟩
theorem iteSF {c A B : Prop} [Decidable c] (hc : ¬ c) (h : A) : if (!decide c) = true then A else B := by
  rw [decide_eq_false hc]
  exact iteT h
theorem _root_.L2.TyOf.sameT {K : PySem.W.Frag} {H H' : Hp} {v : V} {t : Value} (h : TyOf K H v t) (s : Same H H') : TyOf K H' v t := by
  cases h with
  | non => exact .non
  | bl y => exact .bl y
  | int i => exact .int i
  | str y => exact .str y
  | flt y => exact .flt y
  | lst ea => exact .lst (s _ _ ea)
  | frz ea => exact .frz (s _ _ ea)
  | tup ea => exact .tup (s _ _ ea)
  | dK ea => exact .dK (s _ _ ea)
  | dT ea => exact .dT (s _ _ ea)
  | ins ea cl ha hn htk hm => exact .ins (s _ _ ea) cl ha hn htk hm
section
variable {P : Program} {w : World} {K : PySem.W.Frag} {mg : Str -> Option Value} {base : Heap}
theorem scPair : FnScope ["thing"] ["thing"] (defScope sPair) := ⟨rfl, rfl, rfl, by decide +kernel, rfl, by decide +kernel, by decide +kernel⟩
def PairV (K : PySem.W.Frag) (H : Hp) (v : V) : Option (Str × Str) -> Prop
  | some t => goodT t /\ ∃ p, v = .ref p /\ H p = some (.tup [.str t.1, .str t.2])
  | none => (∃ t, TyOf K H v t /\ PySem.W.kitOne K t (.type "tuple") = some false) ∨ (∃ p xs, v = .ref p /\ H p = some (.tup xs) /\ xs.length ≠ 2) ∨
      ∃ (p : Addr) (u1 u2 : V) (x1 x2 : Option Str), v = .ref p /\ H p = some (.tup [u1, u2]) /\ StrV K H u1 x1 /\ StrV K H u2 x2 /\ (∀ y, x1 = some y -> y.length <= 100000) /\ (∀ y, x2 = some y -> y.length <= 100000) /\ (x1.elim false nameB && x2.elim false nameB && !decide (x1 = x2)) = false
theorem StrV.same {K : PySem.W.Frag} {H H' : Hp} {v : V} {x : Option Str} (h : StrV K H v x) (s : Same H H') : StrV K H' v x := by
  cases x with
  | some x => exact h
  | none =>
    obtain ⟨t, ty, e⟩ := h
    exact ⟨t, ty.sameT s, e⟩
def spPairA (K : PySem.W.Frag) : Sp := fun vs H Q _ => ∃ (v : V) (o : Option (Str × Str)), vs = [v] /\ PairV K H v o /\ ∀ H', Same H H' -> Q (.bl o.isSome) H'
theorem ok_pairA {f : Addr} {fd : FuncData} (F : Fun K "is_pair_of_names" "is_pair_of_names" sPair f fd) (B : Bi mg) (cN : Cal P w K mg base 1 "is_name" ["thing"] (spNameA K)) : FnOk P w K mg base CX0 2 f fd ["thing"] (spPairA K) := by
  refine F.ok scPair (fun vs H Q E h => ?_) (fun cdv A outer s H vs Q E hr h => ?_)
  · obtain ⟨v, o, rfl, _⟩ := h
    rfl
  · obtain ⟨v, o, rfl, pv0, k⟩ := h
    refine ⟨_, pss_cons (ps_if (pw_or (pt_not (pt_val (pe_callB call_isi (by rfl) B.isi PyProof.Rows.Boot.«isinstance» (pa_cons (pv 0) (pa_cons (pe_bltn (v := .ty "tuple") (by rfl) B.tuple PyProof.Rows.Boot.«tuple» rfl) pa_nil)))))
        (pw_or1 (pt_cmpR op_ne (pe_callB call_len_seq (by rfl) B.len PySem.boot_len (pa_cons (pv 0) pa_nil)) pe_int (nomark _)))).pt (pss_one (ps_ret pe_bl)) pss_nil)
      (pss_one (ps_ret (pe_and (pe_fn cN hr (pa_cons (pe_ix ix_tup (pv 0) pe_int (fun _ _ => rfl)) pa_nil)) (pe_and (pe_fn cN hr (pa_cons (pe_ix ix_tup (pv 0) pe_int (fun _ _ => rfl)) pa_nil))
        (pe_one (pe_cmpR op_ne (pe_ix ix_tup (pv 0) pe_int (fun _ _ => rfl)) (pe_ix ix_tup (pv 0) pe_int (fun _ _ => rfl)) (nomark _))))))), ?_⟩
    have nf : (∃ t, TyOf K H v t /\ PySem.W.kitOne K t (.type "tuple") = some false /\ ∀ H', Same H H' -> Q (.bl false) H') ∨ (∃ p xs, v = .ref p /\ H p = some (.tup xs) /\ xs.length ≠ 2 /\ ∀ H', Same H H' -> Q (.bl false) H') ∨
        ∃ (p : Addr) (u1 u2 : V) (x1 x2 : Option Str), v = .ref p /\ H p = some (.tup [u1, u2]) /\ StrV K H u1 x1 /\ StrV K H u2 x2 /\ (∀ y, x1 = some y -> y.length <= 100000) /\ (∀ y, x2 = some y -> y.length <= 100000) /\ ∀ H', Same H H' -> Q (.bl (x1.elim false nameB && x2.elim false nameB && !decide (x1 = x2))) H' := by
      cases o with
      | some t =>
        obtain ⟨⟨g1, g2, g3⟩, p, e, hp⟩ := pv0
        refine .inr (.inr ⟨p, _, _, some t.1, some t.2, e, hp, rfl, rfl, fun y e => by cases e; have := nameB_len g1; omega, fun y e => by cases e; have := nameB_len g2; omega, fun H' s => ?_⟩)
        have q := k H' s
        have e2 : ((some t.1).elim false nameB && (some t.2).elim false nameB && !decide (some t.1 = some t.2)) = true := by
          show (nameB t.1 && nameB t.2 && !decide (some t.1 = some t.2)) = true
          rw [g1, g2, decide_eq_false (fun z => g3 (Option.some.inj z))]
          rfl
        rw [e2]
        exact q
      | none =>
        rcases pv0 with ⟨t, ty, e⟩ | ⟨p, xs, e, hp, hl⟩ | ⟨p, u1, u2, x1, x2, e, hp, su1, su2, l1, l2, eb⟩
        · exact .inl ⟨t, ty, e, k⟩
        · exact .inr (.inl ⟨p, xs, e, hp, hl, k⟩)
        · exact .inr (.inr ⟨p, u1, u2, x1, x2, e, hp, su1, su2, l1, l2, fun H' s => by rw [eb]; exact k H' s⟩)
    clear k pv0
    rcases nf with ⟨t, ty, e, k⟩ | ⟨p, xs, rfl, hp, hl, k⟩ | ⟨p, u1, u2, x1, x2, rfl, hp, su1, su2, l1, l2, k⟩
    · exact ⟨_, rfl, _, _, _, _, rfl, ty, e, _, rfl, iteT (k H (Same.refl H))⟩
    · refine ⟨_, rfl, _, _, _, _, rfl, .tup hp, rfl, _, rfl, iteF ?_⟩
      refine ⟨_, rfl, p, _, rfl, .inr (.of hp), rfl, _, rfl, ?_⟩
      refine iteSF (fun z : V.int (xs.length : Int) = V.int 2 => hl (by injection z; omega)) ?_
      exact k H (Same.refl H)
    · refine ⟨_, rfl, _, _, _, _, rfl, .tup hp, rfl, _, rfl, iteF ?_⟩
      refine ⟨_, rfl, p, _, rfl, .inr (.of hp), rfl, _, rfl, ?_⟩
      refine iteNS (show V.int ((2 : Nat) : Int) = V.int 2 from rfl) ?_
      refine ⟨_, rfl, p, _, _, _, rfl, rfl, .of hp, rfl, u1, x1, rfl, su1, l1, fun H1 s1 => ⟨_, rfl, ?_⟩⟩
      have hp1 := s1 _ _ hp
      refine ite2 (fun c => ?_) (fun c => ?_)
      · refine ⟨_, rfl, p, _, _, _, rfl, rfl, .of hp1, rfl, u2, x2, rfl, su2.same s1, l2, fun H2 s2 => ⟨_, rfl, ?_⟩⟩
        have hp2 := s2 _ _ hp1
        have kk := k H2 (s1.trans s2)
        refine ite2 (fun c2 => ?_) (fun c2 => ?_)
        · cases x1 with
          | none => cases c
          | some x1 =>
          cases x2 with
          | none => cases c2
          | some x2 =>
          cases (show u1 = .str x1 from su1)
          cases (show u2 = .str x2 from su2)
          refine ⟨_, rfl, p, _, _, _, rfl, rfl, .of hp2, rfl, _, rfl, p, _, _, _, rfl, rfl, .of hp2, rfl, rfl, ?_⟩
          rw [c, c2] at kk
          have e : decide (V.str x1 = V.str x2) = decide (some x1 = some x2) := by
            by_cases z : x1 = x2
            · simp [z]
            · simp [z]
          show Q (.bl (!decide (V.str x1 = V.str x2))) H2
          rw [e]
          exact kk
        · rw [c, show x2.elim false nameB = false by simpa using c2] at kk
          exact kk
      · have kk := k H1 s1
        rw [show x1.elim false nameB = false by simpa using c] at kk
        exact kk
theorem scSorted : FnScope ["ties", "found", "pair", "tie"] ["ties"] (defScope sSorted) := ⟨rfl, rfl, rfl, by decide +kernel, rfl, by decide +kernel, by decide +kernel⟩
def spSorted (K : PySem.W.Frag) : Sp := fun vs H Q _ => ∃ (l : Addr) (ys : List V) (ts : List (Str × Str)), vs = [.ref l] /\ H l = some (.lst ys) /\ TupsAt K H ys (ts.map kT) /\ (∀ t ∈ ts, goodT t) /\ (ts.map fun t => kT (ord2 t.1 t.2)).Nodup /\ ts.length < 64 /\
  ∀ l' zs H', Same H H' -> H l' = none -> H' l' = some (.lst zs) -> TupsAt K H' zs (sortKs (ts.map fun t => kT (ord2 t.1 t.2))) -> Q (.ref l') H'
theorem paired_map {α β γ : Type} {F : α -> γ -> Prop} {g : β -> γ} {ys : List α} {ts : List β} (t : Paired F ys (ts.map g)) {i : Nat} {y : α} (h : ys[i]? = some y) : ∃ x, ts[i]? = some x /\ F y (g x) := by
  have hi : i < ys.length := (List.getElem?_eq_some_iff.mp h).1
  have hl := Paired.length t
  rw [List.length_map] at hl
  have := paired_get t i hi (by rw [List.length_map]; omega)
  rw [List.getElem_map] at this
  refine ⟨ts[i], List.getElem?_eq_getElem (by omega), ?_⟩
  rw [(List.getElem?_eq_some_iff.mp h).2] at this
  exact this
theorem valV_none_of {κ : Type} [DecidableEq κ] {kvs : List (κ × V)} {k : κ} (h : k ∉ kvs.map (·.1)) : valV kvs k = none := by
  cases e : valV kvs k with
  | none => rfl
  | some v => exact absurd (valV_in e) h
theorem take_succ_map {α β : Type} (g : α -> β) {ts : List α} {i : Nat} {x : α} (h : ts[i]? = some x) : (ts.take (i + 1)).map g = (ts.take i).map g ++ [g x] := by
  rw [List.take_add_one, h, List.map_append]
  rfl
theorem nodup_take {α β : Type} {g : α -> β} {ts : List α} {i : Nat} {x : α} (h : (ts.map g).Nodup) (hx : ts[i]? = some x) : g x ∉ (ts.take i).map g := by
  intro m
  have hi : i < ts.length := (List.getElem?_eq_some_iff.mp hx).1
  obtain ⟨y, hy, e⟩ := List.mem_map.mp m
  obtain ⟨j, hj, e2⟩ := List.getElem_of_mem hy
  rw [List.length_take] at hj
  rw [List.getElem_take] at e2
  rw [List.nodup_iff_pairwise_ne, List.pairwise_map, List.pairwise_iff_getElem] at h
  refine h j i (by omega) hi (by omega) ?_
  rw [e2, e, (List.getElem?_eq_some_iff.mp hx).2]
def BadTs (K : PySem.W.Frag) (H : Hp) (v : V) : Prop := (∃ t, TyOf K H v t /\ PySem.W.kitOne K t (.type "list") = some false) ∨
  ∃ (l : Addr) (ys : List V) (ts : List (Str × Str)) (y : V), v = .ref l /\ H l = some (.lst ys) /\ TupsAt K H (ys.take ts.length) (ts.map kT) /\ (∀ t ∈ ts, goodT t) /\ (ts.map fun t => kT (ord2 t.1 t.2)).Nodup /\ ts.length < 64 /\ ys[ts.length]? = some y /\
    (PairV K H y none ∨ ∃ t, PairV K H y (some t) /\ kT (ord2 t.1 t.2) ∈ ts.map fun t => kT (ord2 t.1 t.2))
def spSortedA (K : PySem.W.Frag) : Sp := fun vs H Q E => spSorted K vs H Q E ∨ ∃ v, vs = [v] /\ BadTs K H v /\ ∀ H', Same H H' -> Q .non H'
theorem PairV.same {K : PySem.W.Frag} {H H' : Hp} {v : V} {o : Option (Str × Str)} (h : PairV K H v o) (s : Same H H') : PairV K H' v o := by
  cases o with
  | some t =>
    obtain ⟨g, p, e, hp⟩ := h
    exact ⟨g, p, e, s _ _ hp⟩
  | none =>
    rcases h with ⟨t, ty, e⟩ | ⟨p, xs, e, hp, hl⟩ | ⟨p, u1, u2, x1, x2, e, hp, su1, su2, r⟩
    · exact .inl ⟨t, ty.sameT s, e⟩
    · exact .inr (.inl ⟨p, xs, e, s _ _ hp, hl⟩)
    · exact .inr (.inr ⟨p, u1, u2, x1, x2, e, s _ _ hp, su1.same s, su2.same s, r⟩)
theorem ok_sortedA {f : Addr} {fd : FuncData} (F : Fun K "sorted_ties" "sorted_ties" sSorted f fd) (B : Bi mg) (cP : Cal P w K mg base 2 "is_pair_of_names" ["thing"] (spPairA K)) (cL : Cal P w K mg base 1 "lesser_first" ["one", "other"] spLesser) : FnOk P w K mg base CX0 3 f fd ["ties"] (spSortedA K) := by
  refine F.ok scSorted (fun vs H Q E h => ?_) (fun cdv A outer s H vs Q E hr h => ?_)
  · rcases h with ⟨l, ys, ts, rfl, _⟩ | ⟨v, rfl, _⟩ <;> rfl
  · have hu := hu_of hr
    have hr1 : Room 1 _ := hr.mono (by decide)
    have sz := sizeLine_eq
    refine ⟨_, pss_cons (ps_if (pt_not (pt_val (pe_callB call_isi (by rfl) B.isi PyProof.Rows.Boot.«isinstance» (pa_cons (pv 0) (pa_cons (pe_bltn (v := .ty "list") (by rfl) B.list PyProof.Rows.Boot.«list» rfl) pa_nil))))) (pss_one (ps_ret pe_non)) pss_nil)
      (pss_cons (ps_set (i := 1) scSorted.nd rfl (Or.inl rfl) pe_dnewT)
      (pss_cons (ps_for PassesOwn.never rfl (pi_list (pv 0)) (pg_name (i := 2) scSorted.nd rfl (Or.inl rfl))
        (pss_cons (ps_if (pt_not (pt_val (pe_fn cP hr (pa_cons (pv 2) pa_nil)))) (pss_one (ps_ret pe_non)) pss_nil)
        (pss_cons (ps_set (i := 3) scSorted.nd rfl (Or.inl rfl) (pe_fn cL hr1 (pa_cons (pe_ix ix_tup (pv 2) pe_int (fun _ _ => rfl)) (pa_cons (pe_ix ix_tup (pv 2) pe_int (fun _ _ => rfl)) pa_nil))))
        (pss_cons (ps_if (pt_cmp (pc_din hu (pv 3) (pv 1))) (pss_one (ps_ret pe_non)) pss_nil)
        (pss_one (ps_dput hu (pv 1) (pv 3) pe_bl rfl))))))
      (pss_one (ps_ret (pe_callB (call_sortDT rfl) (by rfl) B.sorted PyProof.Rows.Boot.«sorted» (pa_cons (pv 1) pa_nil)))))), ?_⟩
    have nf : (∃ v t, vs = [v] /\ TyOf K H v t /\ PySem.W.kitOne K t (.type "list") = some false /\ ∀ H', Same H H' -> Q .non H') ∨ ∃ (l : Addr) (ys : List V) (ts : List (Str × Str)), vs = [.ref l] /\ H l = some (.lst ys) /\ TupsAt K H (ys.take ts.length) (ts.map kT) /\ (∀ t ∈ ts, goodT t) /\ (ts.map fun t => kT (ord2 t.1 t.2)).Nodup /\ ts.length < 64 /\ (ys.length = ts.length /\ (∀ l' zs H', Same H H' -> H l' = none -> H' l' = some (.lst zs) -> TupsAt K H' zs (sortKs (ts.map fun t => kT (ord2 t.1 t.2))) -> Q (.ref l') H') ∨ ∃ y, ys[ts.length]? = some y /\ (PairV K H y none ∨ ∃ t, PairV K H y (some t) /\ kT (ord2 t.1 t.2) ∈ ts.map fun t => kT (ord2 t.1 t.2)) /\ ∀ H', Same H H' -> Q .non H') := by
      rcases h with ⟨l, ys, ts, rfl, hl, tu, good, nd, h64, k⟩ | ⟨v, rfl, bad, k⟩
      · have le := Paired.length tu
        rw [List.length_map] at le
        exact .inr ⟨l, ys, ts, rfl, hl, by rw [<- le, List.take_length]; exact tu, good, nd, h64, .inl ⟨le, k⟩⟩
      · rcases bad with ⟨t, ty, e⟩ | ⟨l, ys, ts, y, rfl, hl, tu, good, nd, h64, hy, bad⟩
        · exact .inl ⟨v, t, rfl, ty, e, k⟩
        · exact .inr ⟨l, ys, ts, rfl, hl, tu, good, nd, h64, .inr ⟨y, hy, bad, k⟩⟩
    clear h
    rcases nf with ⟨v, t, rfl, ty, e, k⟩ | ⟨l, ys, ts, rfl, hl, tu, good, nd, h64, k⟩
    · exact ⟨_, rfl, _, _, _, _, rfl, ty, e, _, rfl, iteT (k H (Same.refl H))⟩
    · refine ⟨_, rfl, _, _, _, _, rfl, .lst hl, rfl, _, rfl, iteF ?_⟩
      intro d hd
      have s0 : Same H (upd H d (.dT [])) := Same.new hd
      refine ⟨_, rfl, l, rfl, ⟨_, .of (s0 _ _ hl)⟩, for_list (K := K) (a := l) (xs := ys) (fun i σ H2 => ∃ (v3 v4 : Option V), i <= ts.length /\ σ = [some (.ref l), some (.ref d), v3, v4] /\ Same H H2 /\ H2 d = some (.dT ((ts.take i).map fun t => (kT (ord2 t.1 t.2), V.bl true)))) ⟨none, none, Nat.zero_le _, rfl, s0, upd_same⟩ (fun i σ H2 _ ⟨_, _, _, _, s2, _⟩ => .of (s2 _ _ hl)) ?_ ?_⟩
      · rintro i y σ H2 hy ⟨v3, v4, hi, rfl, s2, hd2⟩
        by_cases hlt : i < ts.length
        · obtain ⟨t, ht, a, rfl, ha⟩ := paired_map tu (by rw [List.getElem?_take_of_lt hlt]; exact hy)
          have g := good t (List.mem_of_getElem? ht)
          have ha2 := s2 _ _ (hpT ha)
          refine ⟨_, rfl, .ref a, some t, rfl, ⟨g, a, rfl, ha2⟩, fun H3 s3 => ⟨_, rfl, ?_⟩⟩
          have ha3 := s3 _ _ ha2
          have hd3 := s3 _ _ hd2
          refine iteF ?_
          refine ⟨_, rfl, a, _, _, _, rfl, rfl, .of ha3, rfl, _, rfl, a, _, _, _, rfl, rfl, .of ha3, rfl, t.1, t.2, rfl, fun b hb => ?_⟩
          have s4 : Same H3 (upd H3 b (.tup [.str (ord2 t.1 t.2).1, .str (ord2 t.1 t.2).2])) := Same.new hb
          have hd4 := s4 _ _ hd3
          have hb4 : upd H3 b (.tup [.str (ord2 t.1 t.2).1, .str (ord2 t.1 t.2).2]) b = some (.tup ((kT (ord2 t.1 t.2)).map kV)) := upd_same
          have nov : valV ((ts.take i).map fun t => (kT (ord2 t.1 t.2), V.bl true)) (kT (ord2 t.1 t.2)) = none := valV_none_of (by
            rw [List.map_map]
            exact nodup_take (g := fun t => kT (ord2 t.1 t.2)) nd ht)
          refine ⟨_, rfl, _, rfl, d, _, rfl, .t (k := kT (ord2 t.1 t.2)) hd4 hb4, _, rfl, ?_⟩
          rw [nov]
          refine iteF ?_
          refine ⟨_, rfl, _, rfl, d, _, rfl, .t (k := kT (ord2 t.1 t.2)) hd4 hb4 (by rw [List.length_map, List.length_take]; omega), ?_⟩
          refine ⟨_, _, hlt, rfl, fun c o e => ?_, ?_⟩
          · rw [upd_ne (ne_of_none e hd)]
            exact s4 _ _ (s3 _ _ (s2 _ _ e))
          · rw [upd_same, putK_new _ nov, take_succ_map _ ht]
        · obtain rfl : i = ts.length := by omega
          rcases k with ⟨e, _⟩ | ⟨y', hy', bad, k⟩
          · have := (List.getElem?_eq_some_iff.mp hy).1
            omega
          · rw [hy] at hy'
            cases hy'
            rcases bad with bad | ⟨t, pt, hm⟩
            · refine ⟨_, rfl, y, none, rfl, bad.same s2, fun H3 s3 => ⟨_, rfl, ?_⟩⟩
              exact iteT (k H3 (s2.trans s3))
            · have pt2 := pt.same s2
              obtain ⟨g, a, rfl, ha2⟩ := id pt2
              refine ⟨_, rfl, .ref a, some t, rfl, pt2, fun H3 s3 => ⟨_, rfl, ?_⟩⟩
              have ha3 := s3 _ _ ha2
              have hd3 := s3 _ _ hd2
              refine iteF ?_
              refine ⟨_, rfl, a, _, _, _, rfl, rfl, .of ha3, rfl, _, rfl, a, _, _, _, rfl, rfl, .of ha3, rfl, t.1, t.2, rfl, fun b hb => ?_⟩
              have s4 : Same H3 (upd H3 b (.tup [.str (ord2 t.1 t.2).1, .str (ord2 t.1 t.2).2])) := Same.new hb
              have hd4 := s4 _ _ hd3
              have hb4 : upd H3 b (.tup [.str (ord2 t.1 t.2).1, .str (ord2 t.1 t.2).2]) b = some (.tup ((kT (ord2 t.1 t.2)).map kV)) := upd_same
              refine ⟨_, rfl, _, rfl, d, _, rfl, .t (k := kT (ord2 t.1 t.2)) hd4 hb4, _, rfl, ?_⟩
              have yes : (valV ((ts.take ts.length).map fun t => (kT (ord2 t.1 t.2), V.bl true)) (kT (ord2 t.1 t.2))).isSome = true := valV_some (by
                rw [List.take_length, List.map_map]
                exact hm)
              rw [yes]
              exact iteT (k _ (s2.trans (s3.trans s4)))
      · rintro σ H2 ⟨v3, v4, hi, rfl, s2, hd2⟩
        rcases k with ⟨le, k⟩ | ⟨y', hy', _⟩
        · rw [le, List.take_length] at hd2
          refine ⟨_, rfl, d, _, [true, true], rfl, hd2, ⟨by decide, fun k hk => ?_⟩, by rw [List.length_map]; exact h64, fun l' zs hn tz => ?_⟩
          · rw [List.map_map] at hk
            obtain ⟨t, _, rfl⟩ := List.mem_map.mp hk
            rfl
          · rw [List.map_map] at tz
            exact k l' zs _ (s2.trans (Same.new hn)) (s2.free hn) upd_same (tz.same (Same.new hn))
        · have := (List.getElem?_eq_some_iff.mp hy').1
          omega
theorem same_but {H H1 : Hp} {D : Addr} {o : HO} (h : Same H H1) (hD : H D = none) : Same H (upd H1 D o) := fun b u e => by rw [upd_ne (ne_of_none e hD)]; exact h b u e
theorem tups_but {K : PySem.W.Frag} {H : Hp} {ys : List V} {ks : List (List Key)} {D : Addr} {o : HO} {xs : List V} (t : TupsAt K H ys ks) (hD : H D = some (.lst xs)) : TupsAt K (upd H D o) ys ks := Paired.mapP t fun y k ⟨a, z, q⟩ => ⟨a, z, by rw [upd_ne (ne_of q hD (by intro z; cases z))]; exact q⟩
end
end Ev
set_option Elab.async false
set_option linter.all false
set_option maxRecDepth 100000
namespace Ev
open PySem L2
def kH (h : Str × Int) : List Key := [.inr h.1, .inl h.2]
def goodH (h : Str × Int) : Prop := nameB h.1 = true /\ 1 <= h.2 /\ h.2 <= 1000
def kvOf : List Key -> Key × V
  | [k, v] => (k, kV v)
  | _ => (.inl 0, .non)
def sortH (hs : List (Str × Int)) : List (Key × V) := (sortKs (hs.map kH)).map kvOf
theorem hpH {H : Hp} {p : Addr} {t : Str × Int} (h : H p = some (.tup ((kH t).map kV))) : H p = some (.tup [.str t.1, .int t.2]) := h
theorem mergeK_app : ∀ (more kvs : List (Key × V)), (kvs.map (·.1) ++ more.map (·.1)).Nodup -> mergeK kvs more = kvs ++ more
  | [], kvs, _ => by
    show kvs = kvs ++ []
    rw [List.append_nil]
  | p :: more, kvs, h => by
    show mergeK (putK kvs p.1 p.2) more = kvs ++ p :: more
    have hn : valV kvs p.1 = none := valV_none_of fun m => by
      rw [List.map_cons, List.nodup_append] at h
      exact h.2.2 p.1 m p.1 List.mem_cons_self rfl
    rw [putK_new _ hn, mergeK_app more (kvs ++ [(p.1, p.2)])]
    · simp
    · simpa using h
theorem mergeK_nil {more : List (Key × V)} (h : (more.map (·.1)).Nodup) : mergeK [] more = more := by
  rw [mergeK_app more [] (by simpa using h)]
  rfl
theorem sortH_keys (hs : List (Str × Int)) : ((sortH hs).map (·.1)).Perm (hs.map fun h => Sum.inr h.1) := by
  unfold sortH
  rw [List.map_map]
  have p := (sortKs_perm (hs.map kH)).map fun k => (kvOf k).1
  rw [List.map_map] at p
  exact p
theorem sortH_nodup {hs : List (Str × Int)} (h : (hs.map (·.1)).Nodup) : ((sortH hs).map (·.1)).Nodup := by
  refine (sortH_keys hs).nodup_iff.mpr ?_
  have : (hs.map fun h => (Sum.inr h.1 : Key)) = (hs.map (·.1)).map Sum.inr := by rw [List.map_map]; rfl
  rw [this, List.nodup_iff_pairwise_ne, List.pairwise_map]
  exact h.imp fun n e => n (Sum.inr.inj e)
theorem roomU {k : Nat} {A : Around} (hr : Room k A) (n : Nat) (h : n + 1 <= 64 := by decide) : A.units + n + 1 < cLine := by
  have := hr.units
  omega
section
variable {P : Program} {w : World} {K : PySem.W.Frag} {mg : Str -> Option Value} {base : Heap}
theorem scHand : FnScope ["thing"] ["thing"] (defScope sHand) := ⟨rfl, rfl, rfl, by decide +kernel, rfl, by decide +kernel, by decide +kernel⟩
def spHand : Sp := fun vs H Q _ => ∃ (p : Addr) (a : Str) (n : Int), vs = [.ref p] /\ H p = some (.tup [.str a, .int n]) /\ a.length <= 100000 /\ ∀ H', Same H H' -> Q (.bl (nameB a && (decide (1 <= n) && decide (n <= 1000)))) H'
theorem ok_hand {f : Addr} {fd : FuncData} (F : Fun K "is_hand_with_strength" "is_hand_with_strength" sHand f fd) (B : Bi mg) (cN : Cal P w K mg base 1 "is_name" ["thing"] spName) (cW : Cal P w K mg base 2 "is_whole_within" ["thing", "least", "most"] spWhole) {tk : Tok} (mS : mg "MOST_STRENGTH" = some (.int 1000 tk)) :
    FnOk P w K mg base CX0 3 f fd ["thing"] spHand := by
  refine F.ok scHand (fun vs H Q E h => ?_) (fun cdv A outer s H vs Q E hr h => ?_)
  · obtain ⟨p, a, b, rfl, _⟩ := h
    rfl
  · obtain ⟨p, a, n, rfl, hp, la, k⟩ := h
    have hr1 : Room 1 _ := hr.mono (by decide)
    refine ⟨_, pss_cons (ps_if (pw_or (pt_not (pt_val (pe_callB call_isi (by rfl) B.isi PyProof.Rows.Boot.«isinstance» (pa_cons (pv 0) (pa_cons (pe_bltn (v := .ty "tuple") (by rfl) B.tuple PyProof.Rows.Boot.«tuple» rfl) pa_nil)))))
        (pw_or1 (pt_cmpR op_ne (pe_callB call_len_seq (by rfl) B.len PySem.boot_len (pa_cons (pv 0) pa_nil)) pe_int (nomark _)))).pt (pss_one (ps_ret pe_bl)) pss_nil)
      (pss_one (ps_ret (pe_and (pe_fn cN hr1 (pa_cons (pe_ix ix_tup (pv 0) pe_int (fun _ _ => rfl)) pa_nil)) (pe_one (pe_fn cW hr (pa_cons (pe_ix ix_tup (pv 0) pe_int (fun _ _ => rfl)) (pa_cons pe_int (pa_cons (pe_glob (v := .int 1000) (by rfl) mS ⟨tk, rfl⟩) pa_nil)))))))), ?_⟩
    refine ⟨_, rfl, _, _, _, _, rfl, .tup hp, rfl, _, rfl, iteF ?_⟩
    refine ⟨_, rfl, p, _, rfl, .inr (.of hp), rfl, _, rfl, ?_⟩
    refine iteNS (show V.int ((2 : Nat) : Int) = V.int 2 from rfl) ?_
    refine ⟨_, rfl, p, _, _, _, rfl, rfl, .of hp, rfl, a, rfl, la, fun H1 s1 => ⟨_, rfl, ?_⟩⟩
    have hp1 := s1 _ _ hp
    have kk := k H1 s1
    refine ite2 (fun c => ?_) (fun c => ?_)
    · refine ⟨_, rfl, p, _, _, _, rfl, rfl, .of hp1, rfl, n, 1, 1000, rfl, ?_⟩
      rw [c] at kk
      exact kk
    · rw [show nameB a = false by simpa using c] at kk
      exact kk
theorem scStr : FnScope ["hands", "found", "hand"] ["hands"] (defScope sStr) := ⟨rfl, rfl, rfl, by decide +kernel, rfl, by decide +kernel, by decide +kernel⟩
def spStr (K : PySem.W.Frag) : Sp := fun vs H Q _ => ∃ (l : Addr) (ys : List V) (hs : List (Str × Int)), vs = [.ref l] /\ H l = some (.lst ys) /\ TupsAt K H ys (hs.map kH) /\ (∀ h ∈ hs, goodH h) /\ (hs.map (·.1)).Nodup /\ 1 <= hs.length /\ hs.length <= 8 /\
  ∀ d H', Same H H' -> H d = none -> H' d = some (.dK (sortH hs)) -> Q (.ref d) H'
theorem ok_str {f : Addr} {fd : FuncData} (F : Fun K "checked_strengths" "checked_strengths" sStr f fd) (B : Bi mg) (cH : Cal P w K mg base 3 "is_hand_with_strength" ["thing"] spHand) {tk : Tok} (mH : mg "MOST_HANDS" = some (.int 8 tk)) : FnOk P w K mg base CX0 4 f fd ["hands"] (spStr K) := by
  refine F.ok scStr (fun vs H Q E h => ?_) (fun cdv A outer s H vs Q E hr h => ?_)
  · obtain ⟨l, ys, hs, rfl, _⟩ := h
    rfl
  · obtain ⟨l, ys, hs, rfl, hl, tu, good, nd, h1, h8, k⟩ := h
    have hu := hu_of hr
    have sz := sizeLine_eq
    have le := Paired.length tu
    rw [List.length_map] at le
    refine ⟨_, pss_cons (ps_if (pw_or (pt_not (pt_val (pe_callB call_isi (by rfl) B.isi PyProof.Rows.Boot.«isinstance» (pa_cons (pv 0) (pa_cons (pe_bltn (v := .ty "list") (by rfl) B.list PyProof.Rows.Boot.«list» rfl) pa_nil)))))
        (pw_or1 (pt_not (pt_chain op_le op_le pe_int (pe_callB call_len_seq (by rfl) B.len PySem.boot_len (pa_cons (pv 0) pa_nil)) (pe_glob (v := .int 8) (by rfl) mH ⟨tk, rfl⟩))))).pt pss_never pss_nil)
      (pss_cons (ps_set (i := 1) scStr.nd rfl (Or.inl rfl) pe_dnewK)
      (pss_cons (ps_for PassesOwn.never rfl (pi_list (pv 0)) (pg_name (i := 2) scStr.nd rfl (Or.inl rfl))
        (pss_cons (ps_if (pt_not (pt_val (pe_fn cH hr (pa_cons (pv 2) pa_nil)))) pss_never pss_nil)
        (pss_cons (ps_if (pt_cmp (pc_din hu (pe_ix ix_tup (pv 2) pe_int (fun _ _ => rfl)) (pv 1))) pss_never pss_nil)
        (pss_one (ps_dput hu (pv 1) (pe_ix ix_tup (pv 2) pe_int (fun _ _ => rfl)) (pe_ix ix_tup (pv 2) pe_int (fun _ _ => rfl)) rfl)))))
      (pss_one (ps_ret (pe_callTy (call_dictOf rfl) (by rfl) B.dict PyProof.Rows.Boot.«dict» (pa_cons (pe_callB (call_sortI rfl) (by rfl) B.sorted PyProof.Rows.Boot.«sorted» (pa_cons (pe_items (pv 1)) pa_nil)) pa_nil)))))), ?_⟩
    refine ⟨_, rfl, _, _, _, _, rfl, .lst hl, rfl, _, rfl, iteF ?_⟩
    refine ⟨_, rfl, l, _, rfl, .inl (.of hl), _, _, rfl, rfl, _, rfl, ?_⟩
    rw [decide_eq_true (show (1 : Int) <= (ys.length : Int) by omega)]
    refine iteT ⟨_, _, rfl, rfl, _, rfl, ?_⟩
    rw [decide_eq_true (show (ys.length : Int) <= 8 by omega)]
    refine iteF ?_
    intro d hd
    have s0 : Same H (upd H d (.dK [])) := Same.new hd
    refine ⟨_, rfl, l, rfl, ⟨_, .of (s0 _ _ hl)⟩, for_list (K := K) (a := l) (xs := ys) (fun i σ H2 => ∃ (v2 : Option V), σ = [some (.ref l), some (.ref d), v2] /\ Same H H2 /\ H2 d = some (.dK ((hs.take i).map fun h => (Sum.inr h.1, V.int h.2)))) ⟨none, rfl, s0, upd_same⟩ (fun i σ H2 _ ⟨_, _, s2, _⟩ => .of (s2 _ _ hl)) ?_ ?_⟩
    · rintro i y σ H2 hy ⟨v2, rfl, s2, hd2⟩
      obtain ⟨t, ht, a, rfl, ha⟩ := paired_map tu hy
      obtain ⟨g1, g2, g3⟩ := good t (List.mem_of_getElem? ht)
      have ha2 := s2 _ _ (hpH ha)
      refine ⟨_, rfl, a, t.1, t.2, rfl, ha2, by have := nameB_len g1; omega, fun H3 s3 => ⟨_, rfl, ?_⟩⟩
      have ha3 := s3 _ _ ha2
      have hd3 := s3 _ _ hd2
      rw [g1, decide_eq_true g2, decide_eq_true g3]
      refine iteF ?_
      have nov : valV ((hs.take i).map fun h => ((Sum.inr h.1 : Key), V.int h.2)) (Sum.inr t.1) = none := valV_none_of (by
        rw [List.map_map]
        have q := nodup_take (g := fun h : Str × Int => h.1) nd ht
        intro m
        obtain ⟨h, hh, e⟩ := List.mem_map.mp m
        exact q (List.mem_map.mpr ⟨h, hh, Sum.inr.inj e⟩))
      refine ⟨_, rfl, a, _, _, _, rfl, rfl, .of ha3, rfl, _, rfl, d, _, rfl, .k (k := Sum.inr t.1) hd3, _, rfl, ?_⟩
      rw [nov]
      refine iteF ?_
      refine ⟨_, rfl, a, _, _, _, rfl, rfl, .of ha3, rfl, _, rfl, _, rfl, a, _, _, _, rfl, rfl, .of ha3, rfl, d, _, rfl, .k (k := Sum.inr t.1) hd3 (by rw [List.length_map, List.length_take]; omega), ?_⟩
      refine ⟨_, rfl, fun c o e => ?_, ?_⟩
      · rw [upd_ne (ne_of_none e hd)]
        exact s3 _ _ (s2 _ _ e)
      · rw [upd_same, putK_new _ nov, take_succ_map _ ht]
    · rintro σ H2 ⟨v2, rfl, s2, hd2⟩
      rw [le, List.take_length] at hd2
      refine ⟨_, rfl, d, _, rfl, hd2, fun v hv => ?_⟩
      have s3 : Same H2 (upd H2 v (itemsV v d)) := Same.new hv
      refine ⟨v, d, _, hs.map fun h => (Sum.inr h.1, Sum.inl h.2), [true, false], rfl, upd_same, s3 _ _ hd2, by rw [List.map_map]; rfl, ⟨by decide, fun q hq => ?_⟩, by rw [List.length_map]; omega, fun l' H4 zs s4 hn tz => ?_⟩
      · rw [List.map_map] at hq
        obtain ⟨h, _, rfl⟩ := List.mem_map.mp hq
        rfl
      · have ez : ((hs.map fun h => ((Sum.inr h.1 : Key), (Sum.inl h.2 : Key))).map fun k => [k.1, k.2]) = hs.map kH := by rw [List.map_map]; rfl
        rw [ez] at tz
        have pz : PairsAt K (upd H4 l' (.lst zs)) zs (sortH hs) := by
          have shape : ∀ k ∈ sortKs (hs.map kH), ∃ a b, k = [a, b] := fun k hk => by
            obtain ⟨h, _, e⟩ := List.mem_map.mp ((sortKs_perm _).mem_iff.mp hk)
            exact ⟨_, _, e.symm⟩
          have gen : ∀ (ks : List (List Key)) (zs : List V), (∀ k ∈ ks, ∃ a b, k = [a, b]) -> TupsAt K (upd H4 l' (.lst zs)) zs ks -> PairsAt K (upd H4 l' (.lst zs)) zs (ks.map kvOf) := fun ks => by
            intro zs
            generalize upd H4 l' (.lst zs) = HH
            intro sh t
            induction t with
            | nil => exact .nil
            | cons h t ih =>
              obtain ⟨a, b, rfl⟩ := sh _ List.mem_cons_self
              exact .cons h (ih fun k hk => sh k (List.mem_cons_of_mem _ hk))
          exact gen _ _ shape (tz.same (Same.new hn))
        refine ⟨l', zs, _, rfl, upd_same, pz, ?_, fun d' hd' => ?_⟩
        · have := (sortH_keys hs).length_eq
          simp only [List.length_map] at this
          omega
        · rw [mergeK_nil (sortH_nodup nd)]
          have sAll : Same H (upd H4 l' (.lst zs)) := (s2.trans (s3.trans s4)).trans (Same.new hn)
          exact k d' _ (sAll.trans (Same.new hd')) (sAll.free hd') upd_same
theorem scTies : FnScope ["ties", "strengths", "found", "one", "other"] ["ties", "strengths"] (defScope sTies) := ⟨rfl, rfl, rfl, by decide +kernel, rfl, by decide +kernel, by decide +kernel⟩
def spTies (K : PySem.W.Frag) : Sp := fun vs H Q _ => ∃ (l d : Addr) (ys : List V) (ts : List (Str × Str)) (kvs : List (Key × V)), vs = [.ref l, .ref d] /\ H l = some (.lst ys) /\ TupsAt K H ys (ts.map kT) /\ (∀ t ∈ ts, goodT t) /\ (ts.map fun t => kT (ord2 t.1 t.2)).Nodup /\ ts.length < 64 /\
  H d = some (.dK kvs) /\ (∀ t ∈ ts, (valV kvs (Sum.inr t.1)).isSome = true /\ (valV kvs (Sum.inr t.2)).isSome = true) /\
  ∀ l' zs H', Same H H' -> H l' = none -> H' l' = some (.lst zs) -> TupsAt K H' zs (sortKs (ts.map fun t => kT (ord2 t.1 t.2))) -> Q (.ref l') H'
theorem ord2_or (a b : Str) : ord2 a b = (a, b) ∨ ord2 a b = (b, a) := by
  unfold ord2
  split
  · exact .inl rfl
  · exact .inr rfl
theorem ok_ties {f : Addr} {fd : FuncData} (F : Fun K "checked_ties" "checked_ties" sTies f fd) (B : Bi mg) (cS : Cal P w K mg base 3 "sorted_ties" ["ties"] (spSorted K)) : FnOk P w K mg base CX0 4 f fd ["ties", "strengths"] (spTies K) := by
  refine F.ok scTies (fun vs H Q E h => ?_) (fun cdv A outer s H vs Q E hr h => ?_)
  · obtain ⟨l, d, ys, ts, kvs, rfl, _⟩ := h
    rfl
  · obtain ⟨l, d, ys, ts, kvs, rfl, hl, tu, good, nd, h64, hd, there, k⟩ := h
    have hu := hu_of hr
    refine ⟨_, pss_cons (ps_set (i := 2) scTies.nd rfl (Or.inl rfl) (pe_fn cS hr (pa_cons (pv 0) pa_nil)))
      (pss_cons (ps_if (pt_cmp (pc_isN (pv 2))) pss_never pss_nil)
      (pss_cons (ps_for PassesOwn.never rfl (pi_list (pv 2)) (pg_tup rfl (pgs_cons (pg_name (i := 3) scTies.nd rfl (Or.inl rfl)) (pgs_cons (pg_name (i := 4) scTies.nd rfl (Or.inl rfl)) pgs_nil)))
        (pss_one (ps_if (pw_or (pt_cmp (pc_dnotin hu (pv 3) (pv 1))) (pw_or1 (pt_cmp (pc_dnotin hu (pv 4) (pv 1))))).pt pss_never pss_nil)))
      (pss_one (ps_ret (pv 2))))), ?_⟩
    refine ⟨_, rfl, l, ys, ts, rfl, hl, tu, good, nd, h64, fun l' zs H1 s1 hf hl1 tz => ?_⟩
    refine ⟨_, rfl, _, rfl, iteF ?_⟩
    refine ⟨_, rfl, l', rfl, ⟨_, .of hl1⟩, for_list (K := K) (a := l') (xs := zs) (fun i σ H2 => ∃ (v3 v4 : Option V), σ = [some (.ref l), some (.ref d), some (.ref l'), v3, v4] /\ H2 = H1) ⟨none, none, rfl, rfl⟩ (fun i σ H2 _ ⟨_, _, _, e⟩ => by subst e; exact .of hl1) ?_ ?_⟩
    · rintro i y σ H2 hy ⟨v3, v4, rfl, rfl⟩
      have ez := Paired.length tz
      have hi : i < zs.length := (List.getElem?_eq_some_iff.mp hy).1
      obtain ⟨a, e, ha⟩ := paired_get tz i hi (by omega)
      rw [(List.getElem?_eq_some_iff.mp hy).2] at e
      subst e
      obtain ⟨t, ht, e⟩ := List.mem_map.mp ((sortKs_perm _).mem_iff.mp (List.getElem_mem (show i < (sortKs (ts.map fun t => kT (ord2 t.1 t.2))).length by omega)))
      rw [<- e] at ha
      obtain ⟨t1, t2⟩ := there t ht
      have both : (valV kvs (Sum.inr (ord2 t.1 t.2).1)).isSome = true /\ (valV kvs (Sum.inr (ord2 t.1 t.2).2)).isSome = true := by
        rcases ord2_or t.1 t.2 with q | q
        · rw [q]; exact ⟨t1, t2⟩
        · rw [q]; exact ⟨t2, t1⟩
      have hd1 := s1 _ _ hd
      refine ⟨a, _, rfl, .of (hpT ha), rfl, _, _, rfl, _, _, rfl, rfl, ?_⟩
      refine ⟨_, rfl, _, rfl, d, _, rfl, .k (k := Sum.inr (ord2 t.1 t.2).1) hd1, _, rfl, ?_⟩
      rw [both.1]
      refine iteF ?_
      refine ⟨_, rfl, _, rfl, d, _, rfl, .k (k := Sum.inr (ord2 t.1 t.2).2) hd1, _, rfl, ?_⟩
      rw [both.2]
      refine iteF ?_
      exact ⟨_, _, rfl, rfl⟩
    · rintro σ H2 ⟨v3, v4, rfl, rfl⟩
      exact ⟨_, rfl, k l' zs _ s1 hf hl1 tz⟩
def near (ns : List Str) (ts : List (Str × Str)) (n : Str) : List Str := ns.filter fun o => decide (ord2 n o ∈ ts)
theorem scNear : FnScope ["names", "ties", "found", "hand"] ["names", "ties"] (defScope sNear) := ⟨rfl, rfl, rfl, by decide +kernel, rfl, by decide +kernel, by decide +kernel⟩
def nearKV (ns : List Str) (as : List Addr) : List (Key × V) := (ns.zip as).map fun p => (Sum.inr p.1, V.ref p.2)
def spNear (K : PySem.W.Frag) : Sp := fun vs H Q _ => ∃ (l1 l2 : Addr) (ns : List Str) (zs : List V) (ts : List (Str × Str)), vs = [.ref l1, .ref l2] /\ H l1 = some (.lst (ns.map V.str)) /\ H l2 = some (.lst zs) /\ TupsAt K H zs (ts.map kT) /\ ns.Nodup /\ ns.length <= 1000 /\ l1 ≠ l2 /\
  ∀ d as H', Same H H' -> H d = none -> as.length = ns.length -> H' d = some (.dK (nearKV ns as)) -> (∀ (i : Nat) n a, ns[i]? = some n -> as[i]? = some a -> H a = none /\ H' a = some (.lst ((near ns ts n).map V.str))) -> Q (.ref d) H'
theorem reps_of {K : PySem.W.Frag} {H : Hp} : ∀ {ts : List (Str × Str)} {zs : List V}, TupsAt K H zs (ts.map kT) -> Paired (r2 K rS rS H) zs ts
  | [], _, .nil => .nil
  | t :: ts, _, .cons ⟨a, e, h⟩ r => .cons ⟨a, _, _, e, .of (hpT h), rfl, rfl⟩ (reps_of r)
theorem map_get_str {ns : List Str} {i : Nat} {x : V} (h : (ns.map V.str)[i]? = some x) : ∃ n, ns[i]? = some n /\ x = .str n := by
  rw [List.getElem?_map] at h
  cases e : ns[i]? with
  | none => rw [e] at h; cases h
  | some n => rw [e] at h; exact ⟨n, rfl, (Option.some.inj h).symm⟩
theorem filter_snoc {α : Type} (p : α -> Bool) {l : List α} {i : Nat} {x : α} (h : l[i]? = some x) : (l.take (i + 1)).filter p = (l.take i).filter p ++ (if p x then [x] else []) := PySem.take_succ_filter p l i x h
theorem ok_near {f : Addr} {fd : FuncData} (F : Fun K "neighbours_of_all" "neighbours_of_all" sNear f fd) (cL : Cal P w K mg base 1 "lesser_first" ["one", "other"] spLesser) : FnOk P w K mg base CX0 2 f fd ["names", "ties"] (spNear K) := by
  refine F.ok scNear (fun vs H Q E h => ?_) (fun cdv A outer s H vs Q E hr h => ?_)
  · obtain ⟨l1, l2, ns, zs, ts, rfl, _⟩ := h
    rfl
  · obtain ⟨l1, l2, ns, zs, ts, rfl, hl1, hl2, tz, nd, h8, hne, k⟩ := h
    have hu := hu_of hr
    have hu3 := hr.units
    have sz := sizeLine_eq
    refine ⟨_, pss_cons (ps_set (i := 2) scNear.nd rfl (Or.inl rfl) pe_dnewK)
      (pss_cons (ps_for PassesOwn.never rfl (pi_list (pv 0)) (pg_name (i := 3) scNear.nd rfl (Or.inr rfl))
        (pss_one (ps_dput hu (pv 2) (pv 3) (pe_comp ["other", "hand", "ties"] 1 [3, 1] (pi_list (pv 0)) (fun fp s H => pg_name (i := 0) (show (["other", "hand", "ties"] : List Str).Nodup by decide +kernel) rfl (Or.inl rfl))
          (fun fp s H => pts_one (pt_cmpR (opK (K := K) (fun K => rInD K (r2 K rS rS) false) (op_inD (cmp2 cmpS cmpS) (roomU hr _))) (pe_fn cL hr (pa_cons (pv 1) (pa_cons (pv 0) pa_nil))) (pv 2) (by with_unfolding_all rfl))) (fun fp s H => pv 0)) rfl)))
      (pss_one (ps_ret (pv 2)))), ?_⟩
    intro d hd
    have s0 : Same H (upd H d (.dK [])) := Same.new hd
    refine ⟨_, rfl, l1, rfl, ⟨_, .of (s0 _ _ hl1)⟩, for_list (K := K) (a := l1) (xs := ns.map V.str) (fun i σ H2 => ∃ (v3 : Option V) (as : List Addr), σ = [some (.ref l1), some (.ref l2), some (.ref d), v3] /\ Same H H2 /\ as.length = i /\ H2 d = some (.dK (nearKV (ns.take i) as)) /\
      ∀ (j : Nat) n a, ns[j]? = some n -> as[j]? = some a -> H a = none /\ a ≠ d /\ H2 a = some (.lst ((near ns ts n).map V.str))) ⟨none, [], rfl, s0, rfl, upd_same, fun j n a _ e => by simp at e⟩ (fun i σ H2 _ ⟨_, _, _, s2, _⟩ => .of (s2 _ _ hl1)) ?_ ?_⟩
    · rintro i y σ H2 hy ⟨v3, as, rfl, s2, la, hd2, lists⟩
      obtain ⟨n, hn, rfl⟩ := map_get_str hy
      have hi : i < ns.length := (List.getElem?_eq_some_iff.mp hn).1
      have lk : (nearKV (ns.take i) as).length = i := by
        unfold nearKV
        rw [List.length_map, List.length_zip, List.length_take]
        omega
      refine ⟨_, rfl, l1, rfl, ⟨_, .of (s2 _ _ hl1)⟩, fun D hD => ?_⟩
      refine comp_list (own := 1) (fv := [some (.str n), some (.ref l2)]) (xs := ns.map V.str) rfl gok1 (fun j out H' => Same H2 H' /\ H' D = some (.lst out) /\ out = ((ns.take j).filter fun o => decide (ord2 n o ∈ ts)).map V.str) ⟨Same.new hD, upd_same, rfl⟩ (fun j out H' _ ⟨sm, _, _⟩ => .of (sm _ _ (s2 _ _ hl1))) (fun out H' ⟨sm, hD', eo⟩ => ?_) (fun j x out H' hx ⟨sm, hD', eo⟩ => ?_)
      · rw [List.length_map, List.take_length] at eo
        have nov : valV (nearKV (ns.take i) as) (Sum.inr n) = none := valV_none_of fun m => by
          unfold nearKV at m
          rw [List.map_map] at m
          obtain ⟨p, hp, e⟩ := List.mem_map.mp m
          have e : p.1 = n := Sum.inr.inj e
          have q := nodup_take (g := id) (by rw [List.map_id]; exact nd) hn
          rw [List.map_id] at q
          exact q (e ▸ (List.of_mem_zip hp).1)
        have neD : D ≠ d := fun z => by subst z; rw [hD] at hd2; cases hd2
        refine ⟨_, rfl, _, rfl, d, _, rfl, .k (k := Sum.inr n) (sm _ _ hd2) (by omega), ?_⟩
        refine ⟨_, as ++ [D], rfl, fun c o e => ?_, by rw [List.length_append, la]; rfl, ?_, fun j n' a hn' ha => ?_⟩
        · rw [upd_ne (ne_of_none e hd)]
          exact sm _ _ (s2 _ _ e)
        · rw [upd_same, putK_new _ nov]
          congr 2
          unfold nearKV
          rw [List.take_add_one, hn, List.zip_append (by rw [List.length_take]; omega), List.map_append]
          rfl
        · by_cases hj : j < as.length
          · rw [List.getElem?_append_left hj] at ha
            obtain ⟨q1, q2, q3⟩ := lists j n' a hn' ha
            refine ⟨q1, q2, ?_⟩
            rw [upd_ne q2]
            exact sm _ _ q3
          · have hj2 : j = i := by
              have := (List.getElem?_eq_some_iff.mp ha).1
              rw [List.length_append] at this
              simp only [List.length_singleton] at this
              omega
            subst hj2
            rw [List.getElem?_append_right (by omega), la, Nat.sub_self] at ha
            have ha : D = a := by simpa using ha
            subst ha
            rw [hn] at hn'
            cases hn'
            refine ⟨s2.free hD, neD, ?_⟩
            rw [upd_ne neD, hD', eo]
            rfl
      · obtain ⟨o, ho, rfl⟩ := map_get_str hx
        refine ⟨_, rfl, rfl, fun Nx hN => ?_⟩
        refine ⟨_, rfl, _, rfl, n, o, rfl, fun t ht => ?_⟩
        have s3 : Same H' (upd H' t (.tup [.str (ord2 n o).1, .str (ord2 n o).2])) := Same.new ht
        have tz' := ((tz.same s2).same sm).same s3
        have lo : out.length < sizeLine := by
          rw [eo, List.length_map]
          have := List.length_filter_le (fun o => decide (ord2 n o ∈ ts)) (ns.take j)
          rw [List.length_take] at this
          omega
        refine ⟨_, rfl, ord2 n o, ts, ⟨t, _, _, rfl, .of upd_same, rfl, rfl⟩, ⟨l2, zs, rfl, .of (s3 _ _ (sm _ _ (s2 _ _ hl2))), reps_of tz'⟩, _, rfl, ?_⟩
        refine ite2 (fun c => ?_) (fun c => ?_)
        · refine ⟨_, rfl, out, s3 _ _ hD', lo, hN _ _ ⟨same_but (sm.trans s3) hD, upd_same, ?_⟩⟩
          have c : decide (ord2 n o ∈ ts) = true := by simpa using c
          rw [filter_snoc _ ho, if_pos c, List.map_append, eo]
          rfl
        · refine hN _ _ ⟨sm.trans s3, s3 _ _ hD', ?_⟩
          have c : ¬ decide (ord2 n o ∈ ts) = true := by simpa using c
          rw [filter_snoc _ ho, if_neg c, List.append_nil, eo]
    · rintro σ H2 ⟨v3, as, rfl, s2, la, hd2, lists⟩
      rw [List.length_map] at la hd2
      rw [List.take_length] at hd2
      exact ⟨_, rfl, k d as _ s2 hd la hd2 fun j n a h1 h2 => ⟨(lists j n a h1 h2).1, (lists j n a h1 h2).2.2⟩⟩
end
end Ev
set_option Elab.async false
set_option linter.all false
set_option maxRecDepth 100000
namespace Ev
open PySem L2
abbrev sInit : Stmt := inClass sWeb 0
abbrev sHas : Stmt := inClass sWeb 1
abbrev sHands : Stmt := inClass sWeb 2
abbrev sStrength : Stmt := inClass sWeb 3
abbrev sNeigh : Stmt := inClass sWeb 4
abbrev sTied : Stmt := inClass sWeb 5
def fstK : List Key -> Str
  | .inr a :: _ => a
  | _ => ⟨#[]⟩
def twoK : List Key -> Str × Str
  | [.inr a, .inr b] => (a, b)
  | _ => (⟨#[]⟩, ⟨#[]⟩)
def nmsOf (hs : List (Str × Int)) : List Str := (sortKs (hs.map kH)).map fstK
def tsOf (ts : List (Str × Str)) : List (Str × Str) := (sortKs (ts.map fun t => kT (ord2 t.1 t.2))).map twoK
theorem tsOf_keys (ts : List (Str × Str)) : (tsOf ts).map kT = sortKs (ts.map fun t => kT (ord2 t.1 t.2)) := by
  unfold tsOf
  rw [List.map_map]
  have all : ∀ k ∈ sortKs (ts.map fun t => kT (ord2 t.1 t.2)), ∃ t : Str × Str, k = kT t := fun k hk => by
    obtain ⟨t, _, e⟩ := List.mem_map.mp ((sortKs_perm _).mem_iff.mp hk)
    exact ⟨_, e.symm⟩
  generalize sortKs (ts.map fun t => kT (ord2 t.1 t.2)) = l at all
  induction l with
  | nil => rfl
  | cons k l ih =>
    obtain ⟨t, rfl⟩ := all k List.mem_cons_self
    rw [List.map_cons, ih fun k hk => all k (List.mem_cons_of_mem _ hk)]
    rfl
theorem sortH_form (hs : List (Str × Int)) : ∀ k ∈ sortKs (hs.map kH), ∃ h : Str × Int, h ∈ hs /\ k = kH h := fun k hk => by
  obtain ⟨t, ht, e⟩ := List.mem_map.mp ((sortKs_perm _).mem_iff.mp hk)
  exact ⟨t, ht, e.symm⟩
theorem nms_vals (hs : List (Str × Int)) : ((sortH hs).map fun kv => kV kv.1) = (nmsOf hs).map V.str := by
  unfold sortH nmsOf
  rw [List.map_map, List.map_map]
  refine List.map_congr_left fun k hk => ?_
  obtain ⟨h, _, rfl⟩ := sortH_form hs k hk
  rfl
theorem nms_keys (hs : List (Str × Int)) : (sortH hs).map (·.1) = (nmsOf hs).map Sum.inr := by
  unfold sortH nmsOf
  rw [List.map_map, List.map_map]
  refine List.map_congr_left fun k hk => ?_
  obtain ⟨h, _, rfl⟩ := sortH_form hs k hk
  rfl
theorem nms_perm (hs : List (Str × Int)) : (nmsOf hs).Perm (hs.map (·.1)) := by
  unfold nmsOf
  have p := (sortKs_perm (hs.map kH)).map fstK
  rw [List.map_map] at p
  exact p
theorem nms_mem {hs : List (Str × Int)} {n : Str} : (valV (sortH hs) (Sum.inr n)).isSome = decide (n ∈ hs.map (·.1)) := by
  by_cases h : n ∈ hs.map (·.1)
  · rw [decide_eq_true h]
    refine valV_some ?_
    rw [nms_keys]
    exact List.mem_map.mpr ⟨n, (nms_perm hs).mem_iff.mpr h, rfl⟩
  · rw [decide_eq_false h, valV_none_of]
    · rfl
    · rw [nms_keys]
      intro m
      obtain ⟨x, hx, e⟩ := List.mem_map.mp m
      cases e
      exact h ((nms_perm hs).mem_iff.mp hx)
theorem n12 : ¬ (("strength_by_hand" : Str) = "sorted_pairs") := by decide +kernel
theorem n13 : ¬ (("strength_by_hand" : Str) = "neighbours_by_hand") := by decide +kernel
def flds (d1 l2 d3 : Addr) : List (Str × V) := putF "neighbours_by_hand" (.ref d3) (putF "sorted_pairs" (.ref l2) (putF "strength_by_hand" (.ref d1) []))
theorem flds_s (d1 l2 d3 : Addr) : (flds d1 l2 d3).lookup ("strength_by_hand" : Str) = some (.ref d1) := by
  unfold flds
  rw [lookup_putF, if_neg n13, lookup_putF, if_neg n12, lookup_putF, if_pos rfl]
theorem flds_n (d1 l2 d3 : Addr) : (flds d1 l2 d3).lookup ("neighbours_by_hand" : Str) = some (.ref d3) := by
  unfold flds
  rw [lookup_putF, if_pos rfl]
theorem flds_no (d1 l2 d3 : Addr) {m : Str} (h1 : ¬ m = "strength_by_hand") (h2 : ¬ m = "sorted_pairs") (h3 : ¬ m = "neighbours_by_hand") : (flds d1 l2 d3).lookup m = none := by
  unfold flds
  rw [lookup_putF, if_neg h3, lookup_putF, if_neg h2, lookup_putF, if_neg h1]
  all_goals rfl
structure WebAt (K : PySem.W.Frag) (C : Addr) (H : Hp) (p : Addr) (hs : List (Str × Int)) (ts : List (Str × Str)) (fp : List Addr) : Prop where
  ex : ∃ (dx d1 l2 d3 : Addr) (zs : List V) (as : List Addr), fp = p :: d1 :: l2 :: d3 :: as /\ H p = some (.ins C dx (flds d1 l2 d3)) /\ H d1 = some (.dK (sortH hs)) /\ H l2 = some (.lst zs) /\ TupsAt K H zs ((tsOf ts).map kT) /\ H d3 = some (.dK (nearKV (nmsOf hs) as)) /\ as.length = (nmsOf hs).length /\
    ∀ (i : Nat) n a, (nmsOf hs)[i]? = some n -> as[i]? = some a -> H a = some (.lst ((near (nmsOf hs) (tsOf ts) n).map V.str))
theorem WebAt.keep {K : PySem.W.Frag} {C : Addr} {H H' : Hp} {p : Addr} {hs : List (Str × Int)} {ts : List (Str × Str)} {fp : List Addr} (W : WebAt K C H p hs ts fp) (k : ∀ b ∈ fp, ∀ o, H b = some o -> H' b = some o) (kt : ∀ b xs, H b = some (.tup xs) -> H' b = some (.tup xs)) : WebAt K C H' p hs ts fp := by
  obtain ⟨dx, d1, l2, d3, zs, as, rfl, h1, h2, h3, h4, h5, h6, h7⟩ := W.ex
  refine ⟨dx, d1, l2, d3, zs, as, rfl, k _ (by simp) _ h1, k _ (by simp) _ h2, k _ (by simp) _ h3, Paired.mapP h4 fun y q ⟨a, e, z⟩ => ⟨a, e, kt _ _ z⟩, k _ (by simp) _ h5, h6, fun i n a e1 e2 => k _ ?_ _ (h7 i n a e1 e2)⟩
  have := List.mem_of_getElem? e2
  simp [this]
theorem WebAt.same {K : PySem.W.Frag} {C : Addr} {H H' : Hp} {p : Addr} {hs : List (Str × Int)} {ts : List (Str × Str)} {fp : List Addr} (W : WebAt K C H p hs ts fp) (s : Same H H') : WebAt K C H' p hs ts fp := W.keep (fun b _ o e => s b o e) fun b xs e => s b _ e
structure Good (hs : List (Str × Int)) (ts : List (Str × Str)) : Prop where
  hok : ∀ h ∈ hs, goodH h
  hnd : (hs.map (·.1)).Nodup
  h1 : 1 <= hs.length
  h8 : hs.length <= 8
  tok : ∀ t ∈ ts, goodT t
  tnd : (ts.map fun t => kT (ord2 t.1 t.2)).Nodup
  t64 : ts.length < 64
  tin : ∀ t ∈ ts, t.1 ∈ hs.map (·.1) /\ t.2 ∈ hs.map (·.1)
theorem Good.nnd {hs : List (Str × Int)} {ts : List (Str × Str)} (G : Good hs ts) : (nmsOf hs).Nodup := (nms_perm hs).nodup_iff.mpr G.hnd
theorem Good.nlen {hs : List (Str × Int)} {ts : List (Str × Str)} (G : Good hs ts) : (nmsOf hs).length = hs.length := by
  rw [(nms_perm hs).length_eq, List.length_map]
structure Txt (K : PySem.W.Frag) (mg : Str -> Option Value) (C : Addr) : Prop where
  cl : Cls K C
  nS : NoAttr K C "strength_by_hand"
  nP : NoAttr K C "sorted_pairs"
  nN : NoAttr K C "neighbours_by_hand"
section
variable {P : Program} {w : World} {K : PySem.W.Frag} {mg : Str -> Option Value} {base : Heap}
theorem scInit : FnScope ["self", "hands", "ties", "strengths", "checked"] ["self", "hands", "ties"] (defScope sInit) := ⟨rfl, rfl, rfl, by decide +kernel, rfl, by decide +kernel, by decide +kernel⟩
def spInit (K : PySem.W.Frag) (C : Addr) : Sp := fun vs H Q _ => ∃ (p dx lh lt : Addr) (ys zs : List V) (hs : List (Str × Int)) (ts : List (Str × Str)), vs = [.ref p, .ref lh, .ref lt] /\ H p = some (.ins C dx []) /\ H lh = some (.lst ys) /\ TupsAt K H ys (hs.map kH) /\ H lt = some (.lst zs) /\ TupsAt K H zs (ts.map kT) /\ Good hs ts /\
  ∀ fp H', (∀ b o, H b = some o -> b ≠ p -> H' b = some o) -> WebAt K C H' p hs ts fp -> (∀ b ∈ fp, b = p ∨ H b = none) -> Q .non H'
theorem ok_init {f C : Addr} {fd : FuncData} (F : Fun K "__init__" "Web.__init__" sInit f fd) (T : Txt K mg C) (B : Bi mg) (cS : Cal P w K mg base 4 "checked_strengths" ["hands"] (spStr K)) (cT : Cal P w K mg base 4 "checked_ties" ["ties", "strengths"] (spTies K)) (cN : Cal P w K mg base 2 "neighbours_of_all" ["names", "ties"] (spNear K)) :
    FnOk P w K mg base CX0 5 f fd ["self", "hands", "ties"] (spInit K C) := by
  refine F.ok scInit (fun vs H Q E h => ?_) (fun cdv A outer s H vs Q E hr h => ?_)
  · obtain ⟨p, dx, lh, lt, ys, zs, hs, ts, rfl, _⟩ := h
    rfl
  · obtain ⟨p, dx, lh, lt, ys, zs, hs, ts, rfl, hp, hlh, th, hlt, tt, G, k⟩ := h
    have hr3 : Room 3 _ := hr.mono (by decide)
    have hr2 : Room 2 _ := hr.mono (by decide)
    refine ⟨_, pss_cons (ps_set (i := 3) scInit.nd rfl (Or.inl rfl) (pe_fn cS hr (pa_cons (pv 1) pa_nil)))
      (pss_cons (ps_set (i := 4) scInit.nd rfl (Or.inl rfl) (pe_fn cT hr (pa_cons (pv 2) (pa_cons (pv 3) pa_nil))))
      (pss_cons (ps_fld (pv 0) (pv 3) rfl) (pss_cons (ps_fld (pv 0) (pv 4) rfl)
      (pss_one (ps_fld (pv 0) (pe_fn cN hr2 (pa_cons (pe_callTy (call_listD rfl) (by rfl) B.list PyProof.Rows.Boot.«list» (pa_cons (pv 3) pa_nil)) (pa_cons (pv 4) pa_nil))) rfl))))), ?_⟩
    refine ⟨_, rfl, lh, ys, hs, rfl, hlh, th, G.hok, G.hnd, G.h1, G.h8, fun d1 H1 s1 f1 hd1 => ?_⟩
    refine ⟨_, rfl, _, rfl, lt, d1, zs, ts, _, rfl, s1 _ _ hlt, tt.same s1, G.tok, G.tnd, G.t64, hd1, fun t ht => ?_, fun l2 zs2 H2 s2 f2 hl2 tz => ?_⟩
    · rw [nms_mem, nms_mem]
      exact ⟨decide_eq_true (G.tin t ht).1, decide_eq_true (G.tin t ht).2⟩
    have hd12 := s2 _ _ hd1
    have hp2 := s2 _ _ (s1 _ _ hp)
    have p1 : p ≠ d1 := ne_of hp2 hd12 (by intro z; cases z)
    have p2 : p ≠ l2 := ne_of hp2 hl2 (by intro z; cases z)
    refine ⟨_, rfl, _, rfl, p, C, dx, [], rfl, hp2, T.cl, T.nS, by show 0 < 1000; decide, ?_⟩
    refine ⟨_, rfl, _, rfl, p, C, dx, _, rfl, upd_same, T.cl, T.nP, by show 1 < 1000; decide, ?_⟩
    let H3 : Hp := upd (upd H2 p (.ins C dx (putF "strength_by_hand" (.ref d1) []))) p (.ins C dx (putF "sorted_pairs" (.ref l2) (putF "strength_by_hand" (.ref d1) [])))
    have h3 : ∀ {b o}, H2 b = some o -> b ≠ p -> H3 b = some o := fun e ne => by
      show upd (upd H2 p _) p _ _ = _
      rw [upd_ne ne, upd_ne ne]
      exact e
    have h3p : H3 p = some (.ins C dx (putF "sorted_pairs" (.ref l2) (putF "strength_by_hand" (.ref d1) []))) := upd_same
    have none3 : ∀ {b}, H3 b = none -> H2 b = none := fun {b} e => by
      by_cases z : b = p
      · subst z; rw [h3p] at e; cases e
      · have e : upd (upd H2 p _) p _ b = none := e
        rw [upd_ne z, upd_ne z] at e
        exact e
    have tz3 : TupsAt K H3 zs2 ((tsOf ts).map kT) := by
      rw [tsOf_keys]
      exact Paired.mapP tz fun y q ⟨a, e, z⟩ => ⟨a, e, h3 z (ne_of z hp2 (by intro z; cases z))⟩
    refine ⟨_, rfl, d1, _, rfl, .inl (h3 hd12 p1.symm), fun l1 hl1 => ?_⟩
    rw [nms_vals]
    have s4 : Same H3 (upd H3 l1 (.lst ((nmsOf hs).map V.str))) := Same.new hl1
    have ne12 : l1 ≠ l2 := (ne_of_none (H := H3) (h3 hl2 p2.symm) hl1).symm
    refine ⟨_, rfl, l1, l2, nmsOf hs, zs2, tsOf ts, rfl, upd_same, s4 _ _ (h3 hl2 p2.symm), tz3.same s4, G.nnd, by rw [G.nlen]; have := G.h8; omega, ne12, fun d3 as H5 s5 f5 la hd3 lists => ?_⟩
    have hp5 := s5 _ _ (s4 _ _ h3p)
    refine ⟨_, rfl, p, C, dx, _, rfl, hp5, T.cl, T.nN, by show 2 < 1000; decide, ?_⟩
    have up : ∀ {b o}, H2 b = some o -> b ≠ p -> upd H5 p (.ins C dx (flds d1 l2 d3)) b = some o := fun e ne => by
      rw [upd_ne ne]
      exact s5 _ _ (s4 _ _ (h3 e ne))
    have fr5 : ∀ {b}, upd H3 l1 (.lst ((nmsOf hs).map V.str)) b = none -> H b = none := fun e => s1.free (s2.free (none3 (s4.free e)))
    have hd3p : d3 ≠ p := (ne_of_none (s4 _ _ h3p) f5).symm
    refine k (p :: d1 :: l2 :: d3 :: as) _ (fun b o e ne => up (s2 _ _ (s1 _ _ e)) ne) ⟨dx, d1, l2, d3, zs2, as, rfl, upd_same, up hd12 p1.symm, up hl2 p2.symm, ?_, ?_, la, fun i n a e1 e2 => ?_⟩ fun b hb => ?_
    · exact Paired.mapP (tz3.same (s4.trans s5)) fun y q ⟨a, e, z⟩ => ⟨a, e, by rw [upd_ne (ne_of z hp5 (by intro z; cases z))]; exact z⟩
    · rw [upd_ne hd3p]
      exact hd3
    · obtain ⟨q1, q2⟩ := lists i n a e1 e2
      rw [upd_ne (ne_of q2 hp5 (by intro z; cases z))]
      exact q2
    · simp only [List.mem_cons] at hb
      rcases hb with rfl | rfl | rfl | rfl | hb
      · exact .inl rfl
      · exact .inr f1
      · exact .inr (s1.free f2)
      · exact .inr (fr5 f5)
      · obtain ⟨i, hi, e⟩ := List.getElem_of_mem hb
        have e1 : as[i]? = some b := by rw [List.getElem?_eq_getElem hi, e]
        have hn : i < (nmsOf hs).length := by omega
        exact .inr (fr5 (lists i _ b (List.getElem?_eq_getElem hn) e1).1)
end
end Ev
set_option Elab.async false
set_option linter.all false
set_option maxRecDepth 100000
namespace Ev
open PySem L2
structure CalM (P : Program) (w : World) (K : PySem.W.Frag) (mg : Str -> Option Value) (base : Heap) (C : Addr) (k : Nat) (m : Str) (ps : List Str) (sp : Sp) : Prop where
  ex : ∃ f fd, FnOk P w K mg base CX0 k f fd ps sp /\ Meth K C m f /\ Binds K fd ps []
theorem pe_mt {X : Cx} {C : Addr} {k : Nat} {m : Str} {ps : List Str} {sp : Sp} {pos apos : Pos} {o e : Expr} {es : List Expr} {ta : TE} {t : TA} {pl : Sem Bool} (c : CalM X.prog X.w X.K X.mg X.base C k m ps sp) (cl : Cls X.K C) (hr : Room k X.A) (he : PE X o ta) (ha : PA X (e :: es) t)
    (hst : starEach (e :: es) X.env = (false, eval e X.env) :: starEach es X.env := by rfl) (hpl : (backTo pos (starEach es X.env)).any (·.1) = false := by rfl)
    (ht : eval (.Call (.Attribute o m apos) (e :: es) [] pos) X.env = (do
      let ov <- eval o X.env
      standAt apos.atName
      let (f, first) <- holding [ov] (getMethod ov m pl)
      callWith pos f first (backTo pos (starEach (e :: es) X.env)) (backToKw pos (keywordEach [] X.env))) := by rfl) :
    PE X (.Call (.Attribute o m apos) (e :: es) [] pos) (tMeth C m sp [] E0 ta t) := by
  obtain ⟨f, fd, F, hm, b⟩ := c.ex
  exact pe_meth he cl hm F hr b .nil pass0 ha hst hpl ht
theorem pe_mt0 {X : Cx} {C : Addr} {k : Nat} {m : Str} {ps : List Str} {sp : Sp} {pos apos : Pos} {o : Expr} {ta : TE} {pl : Sem Bool} (c : CalM X.prog X.w X.K X.mg X.base C k m ps sp) (cl : Cls X.K C) (hr : Room k X.A) (he : PE X o ta)
    (ht : eval (.Call (.Attribute o m apos) [] [] pos) X.env = (do
      let ov <- eval o X.env
      standAt apos.atName
      let (f, first) <- holding [ov] (getMethod ov m pl)
      callWith pos f first (backTo pos (starEach [] X.env)) (backToKw pos (keywordEach [] X.env))) := by rfl) :
    PE X (.Call (.Attribute o m apos) [] [] pos) (tMeth C m sp [] E0 ta tNil) := by
  obtain ⟨f, fd, F, hm, b⟩ := c.ex
  exact pe_meth0 he cl hm F hr b .nil pass0 ht
theorem valV_sortH {hs : List (Str × Int)} (nd : (hs.map (·.1)).Nodup) {x : Str} {n : Int} (h : (x, n) ∈ hs) : valV (sortH hs) (Sum.inr x) = some (.int n) := by
  have m : ((Sum.inr x : Key), V.int n) ∈ sortH hs := by
    unfold sortH
    refine List.mem_map.mpr ⟨kH (x, n), (sortKs_perm _).mem_iff.mpr (List.mem_map.mpr ⟨_, h, rfl⟩), rfl⟩
  have nk := sortH_nodup nd
  generalize sortH hs = kvs at m nk
  induction kvs with
  | nil => cases m
  | cons p r ih =>
    obtain ⟨n1, n2⟩ := List.nodup_cons.mp nk
    rcases List.mem_cons.mp m with e | m
    · rw [<- e]
      exact valV_pos rfl
    · rw [valV_neg (fun e : p.1 = Sum.inr x => n1 (List.mem_map.mpr ⟨_, m, e.symm⟩))]
      exact ih m n2
theorem valV_near {ns : List Str} {as : List Addr} (nd : ns.Nodup) (la : as.length = ns.length) {i : Nat} {n : Str} (hn : ns[i]? = some n) : ∃ a, as[i]? = some a /\ valV (nearKV ns as) (Sum.inr n) = some (.ref a) := by
  induction ns generalizing as i with
  | nil => simp at hn
  | cons x ns ih =>
    cases as with
    | nil => cases la
    | cons b as =>
      obtain ⟨n1, n2⟩ := List.nodup_cons.mp nd
      cases i with
      | zero =>
        have e : x = n := by simpa using hn
        subst e
        exact ⟨b, rfl, valV_pos rfl⟩
      | succ i =>
        have hn : ns[i]? = some n := by simpa using hn
        obtain ⟨a, h1, h2⟩ := ih n2 (by simpa using la) hn
        refine ⟨a, by simpa using h1, ?_⟩
        show valV ((Sum.inr x, V.ref b) :: nearKV ns as) (Sum.inr n) = _
        rw [valV_neg fun e => n1 (by rw [show x = n from Sum.inr.inj e]; exact List.mem_of_getElem? hn)]
        exact h2
section
variable {P : Program} {w : World} {K : PySem.W.Frag} {mg : Str -> Option Value} {base : Heap}
theorem scHas : FnScope ["self", "thing"] ["self", "thing"] (defScope sHas) := ⟨rfl, rfl, rfl, by decide +kernel, rfl, by decide +kernel, by decide +kernel⟩
def spHas (K : PySem.W.Frag) (C : Addr) : Sp := fun vs H Q _ => ∃ (p : Addr) (x : Str) (hs : List (Str × Int)) (ts : List (Str × Str)) (fp : List Addr), vs = [.ref p, .str x] /\ WebAt K C H p hs ts fp /\ Q (.bl (decide (x ∈ hs.map (·.1)))) H
theorem ok_has {f C : Addr} {fd : FuncData} (F : Fun K "has_hand" "Web.has_hand" sHas f fd) (T : Txt K mg C) (B : Bi mg) : FnOk P w K mg base CX0 1 f fd ["self", "thing"] (spHas K C) := by
  refine F.ok scHas (fun vs H Q E h => ?_) (fun cdv A outer s H vs Q E hr h => ?_)
  · obtain ⟨p, x, hs, ts, fp, rfl, _⟩ := h
    rfl
  · obtain ⟨p, x, hs, ts, fp, rfl, W, k⟩ := h
    have hu := hu_of hr
    obtain ⟨dx, d1, l2, d3, zs, as, rfl, h1, h2, h3, h4, h5, h6, h7⟩ := W.ex
    refine ⟨_, pss_one (ps_ret (pe_and (pe_callB call_isi (by rfl) B.isi PyProof.Rows.Boot.«isinstance» (pa_cons (pv 1) (pa_cons (pe_bltn (v := .ty "str") (by rfl) B.str PyProof.Rows.Boot.«str» rfl) pa_nil))) (pe_one (pe_cmp (pc_din hu (pv 1) (pe_fld (pv 0) rfl)))))), ?_⟩
    refine ⟨_, rfl, _, _, _, _, rfl, .str x, rfl, _, rfl, iteT ?_⟩
    refine ⟨_, rfl, _, rfl, p, C, dx, _, _, rfl, h1, T.cl, T.nS, flds_s _ _ _, d1, _, rfl, .k (k := Sum.inr x) h2, ?_⟩
    rw [nms_mem]
    exact k
theorem scHands : FnScope ["self"] ["self"] (defScope sHands) := ⟨rfl, rfl, rfl, by decide +kernel, rfl, by decide +kernel, by decide +kernel⟩
def spHands (K : PySem.W.Frag) (C : Addr) : Sp := fun vs H Q _ => ∃ (p : Addr) (hs : List (Str × Int)) (ts : List (Str × Str)) (fp : List Addr), vs = [.ref p] /\ WebAt K C H p hs ts fp /\ ∀ l, H l = none -> Q (.ref l) (upd H l (.lst ((nmsOf hs).map V.str)))
theorem ok_hands {f C : Addr} {fd : FuncData} (F : Fun K "hands" "Web.hands" sHands f fd) (T : Txt K mg C) (B : Bi mg) : FnOk P w K mg base CX0 1 f fd ["self"] (spHands K C) := by
  refine F.ok scHands (fun vs H Q E h => ?_) (fun cdv A outer s H vs Q E hr h => ?_)
  · obtain ⟨p, hs, ts, fp, rfl, _⟩ := h
    rfl
  · obtain ⟨p, hs, ts, fp, rfl, W, k⟩ := h
    obtain ⟨dx, d1, l2, d3, zs, as, rfl, h1, h2, h3, h4, h5, h6, h7⟩ := W.ex
    refine ⟨_, pss_one (ps_ret (pe_callTy (call_listD rfl) (by rfl) B.list PyProof.Rows.Boot.«list» (pa_cons (pe_fld (pv 0) rfl) pa_nil))), ?_⟩
    refine ⟨_, rfl, p, C, dx, _, _, rfl, h1, T.cl, T.nS, flds_s _ _ _, d1, _, rfl, .inl h2, fun l hl => ?_⟩
    rw [nms_vals]
    exact k l hl
theorem scStrength : FnScope ["self", "hand"] ["self", "hand"] (defScope sStrength) := ⟨rfl, rfl, rfl, by decide +kernel, rfl, by decide +kernel, by decide +kernel⟩
def spStrength (K : PySem.W.Frag) (C : Addr) : Sp := fun vs H Q _ => ∃ (p : Addr) (x : Str) (n : Int) (hs : List (Str × Int)) (ts : List (Str × Str)) (fp : List Addr), vs = [.ref p, .str x] /\ WebAt K C H p hs ts fp /\ (hs.map (·.1)).Nodup /\ (x, n) ∈ hs /\ Q (.int n) H
theorem ok_strength {f C : Addr} {fd : FuncData} (F : Fun K "strength" "Web.strength" sStrength f fd) (T : Txt K mg C) (cH : CalM P w K mg base C 1 "has_hand" ["self", "thing"] (spHas K C)) : FnOk P w K mg base CX0 2 f fd ["self", "hand"] (spStrength K C) := by
  refine F.ok scStrength (fun vs H Q E h => ?_) (fun cdv A outer s H vs Q E hr h => ?_)
  · obtain ⟨p, x, n, hs, ts, fp, rfl, _⟩ := h
    rfl
  · obtain ⟨p, x, n, hs, ts, fp, rfl, W, nd, hx, k⟩ := h
    have hu := hu_of hr
    obtain ⟨dx, d1, l2, d3, zs, as, rfl, h1, h2, h3, h4, h5, h6, h7⟩ := id W.ex
    refine ⟨_, pss_cons (ps_if (pt_not (pt_val (pe_mt cH T.cl hr (pv 0) (pa_cons (pv 1) pa_nil)))) pss_never pss_nil) (pss_one (ps_ret (pe_dget hu (pe_fld (pv 0) rfl) (pv 1) (fun _ _ => rfl)))), ?_⟩
    refine ⟨_, rfl, p, dx, _, rfl, h1, flds_no _ _ _ (by decide +kernel) (by decide +kernel) (by decide +kernel), _, rfl, p, x, hs, ts, _, rfl, W, _, rfl, ?_⟩
    rw [decide_eq_true (List.mem_map.mpr ⟨_, hx, rfl⟩)]
    refine iteF ?_
    refine ⟨_, rfl, p, C, dx, _, _, rfl, h1, T.cl, T.nS, flds_s _ _ _, _, rfl, d1, _, rfl, ?_, k⟩
    rw [<- valV_sortH nd hx]
    exact .k (k := Sum.inr x) h2
theorem scNeigh : FnScope ["self", "hand"] ["self", "hand"] (defScope sNeigh) := ⟨rfl, rfl, rfl, by decide +kernel, rfl, by decide +kernel, by decide +kernel⟩
theorem row_at {H : Hp} {hs : List (Str × Int)} {ts : List (Str × Str)} {as : List Addr} {x : Str} (nd : (nmsOf hs).Nodup) (hx : x ∈ hs.map (·.1)) (la : as.length = (nmsOf hs).length)
    (h7 : ∀ (i : Nat) n a, (nmsOf hs)[i]? = some n -> as[i]? = some a -> H a = some (.lst ((near (nmsOf hs) (tsOf ts) n).map V.str))) : ∃ a, valV (nearKV (nmsOf hs) as) (Sum.inr x) = some (.ref a) /\ H a = some (.lst ((near (nmsOf hs) (tsOf ts) x).map V.str)) := by
  obtain ⟨i, hi, e⟩ := List.getElem_of_mem ((nms_perm hs).mem_iff.mpr hx)
  have hn : (nmsOf hs)[i]? = some x := by rw [List.getElem?_eq_getElem hi, e]
  obtain ⟨a, h1, h2⟩ := valV_near nd la hn
  exact ⟨a, h2, h7 i x a hn h1⟩
theorem scTied : FnScope ["self", "one", "other"] ["self", "one", "other"] (defScope sTied) := ⟨rfl, rfl, rfl, by decide +kernel, rfl, by decide +kernel, by decide +kernel⟩
def spTied (K : PySem.W.Frag) (C : Addr) : Sp := fun vs H Q _ => ∃ (p : Addr) (x y : Str) (hs : List (Str × Int)) (ts : List (Str × Str)) (fp : List Addr), vs = [.ref p, .str x, .str y] /\ WebAt K C H p hs ts fp /\ (nmsOf hs).Nodup /\ x ∈ hs.map (·.1) /\ y ∈ hs.map (·.1) /\ Q (.bl (decide (y ∈ near (nmsOf hs) (tsOf ts) x))) H
theorem strs_rep {H : Hp} : ∀ ns : List Str, Paired (rS H) (ns.map V.str) ns
  | [] => .nil
  | _ :: ns => .cons rfl (strs_rep ns)
theorem ok_tied {f C : Addr} {fd : FuncData} (F : Fun K "are_tied" "Web.are_tied" sTied f fd) (T : Txt K mg C) (cH : CalM P w K mg base C 1 "has_hand" ["self", "thing"] (spHas K C)) : FnOk P w K mg base CX0 2 f fd ["self", "one", "other"] (spTied K C) := by
  refine F.ok scTied (fun vs H Q E h => ?_) (fun cdv A outer s H vs Q E hr h => ?_)
  · obtain ⟨p, x, y, hs, ts, fp, rfl, _⟩ := h
    rfl
  · obtain ⟨p, x, y, hs, ts, fp, rfl, W, nd, hx, hy, k⟩ := h
    have hu := hu_of hr
    obtain ⟨dx, d1, l2, d3, zs, as, rfl, h1, h2, h3, h4, h5, h6, h7⟩ := id W.ex
    obtain ⟨a, e1, ha⟩ := row_at nd hx h6 h7
    have hno : (flds d1 l2 d3).lookup ("has_hand" : Str) = none := flds_no _ _ _ (by decide +kernel) (by decide +kernel) (by decide +kernel)
    refine ⟨_, pss_one (ps_ret (pe_and (pe_mt cH T.cl hr (pv 0) (pa_cons (pv 1) pa_nil)) (pe_and (pe_mt cH T.cl hr (pv 0) (pa_cons (pv 2) pa_nil)) (pe_one (pe_cmpR (op_inD cmpS (roomU hr 0)) (pv 2) (pe_dget hu (pe_fld (pv 0) rfl) (pv 1) (fun _ _ => rfl)) (by with_unfolding_all rfl)))))), ?_⟩
    refine ⟨_, rfl, p, dx, _, rfl, h1, hno, _, rfl, p, x, hs, ts, _, rfl, W, _, rfl, ?_⟩
    rw [decide_eq_true hx]
    refine iteT ?_
    refine ⟨_, rfl, p, dx, _, rfl, h1, hno, _, rfl, p, y, hs, ts, _, rfl, W, _, rfl, ?_⟩
    rw [decide_eq_true hy]
    refine iteT ?_
    refine ⟨_, rfl, _, rfl, p, C, dx, _, _, rfl, h1, T.cl, T.nN, flds_n _ _ _, _, rfl, d3, .ref a, rfl, ?_, y, _, rfl, ⟨a, _, rfl, .of ha, strs_rep _⟩, k⟩
    rw [<- e1]
    exact .k (k := Sum.inr x) h5
end
end Ev
set_option Elab.async false
set_option linter.all false
set_option maxRecDepth 100000
namespace L2
open PySem
end L2
namespace Ev
open PySem L2
abbrev sDigit : Stmt := top 37
abbrev sLName : Stmt := top 38
abbrev sLHands : Stmt := top 39
abbrev sLTies : Stmt := top 40
abbrev sLaw : Stmt := top 47
abbrev sWord : Stmt := top 41
abbrev sOddN : Stmt := top 42
abbrev sOddH : Stmt := top 43
abbrev sOddT : Stmt := top 44
abbrev sPut : Stmt := top 45
abbrev sBad : Stmt := top 46
def But (l : Addr) (H H' : Hp) : Prop := ∀ b o, H b = some o -> b ≠ l -> H' b = some o
theorem But.refl (l : Addr) (H : Hp) : But l H H := fun _ _ e _ => e
theorem But.trans {l : Addr} {H H1 H2 : Hp} (h : But l H H1) (h2 : But l H1 H2) : But l H H2 := fun b o e n => h2 b o (h b o e n) n
theorem But.of {l : Addr} {H H1 : Hp} (h : Same H H1) : But l H H1 := fun b o e _ => h b o e
theorem But.upd {l : Addr} {H : Hp} {o : HO} : But l H (upd H l o) := fun b u e n => by rw [upd_ne n]; exact e
def stt (H : Hp) (l : Addr) : Prop := (∃ n : Int, H l = some (.lst [.int n])) ∨ ∃ n m c : Int, H l = some (.lst [.int n, .int m, .int c])
theorem stt.some {H : Hp} {l : Addr} (h : stt H l) : ∃ xs, H l = some (.lst xs) := by
  rcases h with ⟨n, e⟩ | ⟨n, m, c, e⟩
  · exact ⟨_, e⟩
  · exact ⟨_, e⟩
theorem But.free {l b : Addr} {H H' : Hp} (h : But l H H') (s : stt H' l) (e : H' b = none) : H b = none := by
  cases z : H b with
  | none => rfl
  | some o =>
    by_cases q : b = l
    · subst q
      obtain ⟨xs, e2⟩ := s.some
      rw [e] at e2
      cases e2
    · rw [h b o z q] at e
      cases e
theorem atI_nat {α : Type} {xs : List α} {i : Int} (h0 : 0 <= i) (h1 : i < xs.length) : atI xs i = xs[i.toNat]? := by
  unfold atI ixN
  rw [if_pos h0, if_pos h1]
  rfl
section
variable {P : Program} {w : World} {K : PySem.W.Frag} {mg : Str -> Option Value} {base : Heap}
theorem scDigit : FnScope ["_law_state", "_law_base", "_law_found", "_law_number"] ["_law_state", "_law_base"] (defScope sDigit) := ⟨rfl, rfl, rfl, by decide +kernel, rfl, by decide +kernel, by decide +kernel⟩
def spDigit : Sp := fun vs H Q _ => ∃ (l : Addr) (b : Int), vs = [.ref l, .int b] /\ 0 < b /\ b < 1073741824 /\ stt H l /\ ∀ r H', 0 <= r -> r < b -> But l H H' -> stt H' l -> Q (.int r) H'
theorem small (x : Int) : -(2 ^ 64) < x % 2147483647 /\ x % 2147483647 < 2 ^ 64 := by
  have h1 := Int.emod_nonneg x (b := 2147483647) (by decide)
  have h2 := Int.emod_lt_of_pos x (b := 2147483647) (by decide)
  exact ⟨by omega, by omega⟩
theorem ok_digit {f : Addr} {fd : FuncData} (F : Fun K "_law_digit" "_law_digit" sDigit f fd) (B : Bi mg) : FnOk P w K mg base CX0 1 f fd ["_law_state", "_law_base"] spDigit := by
  refine F.ok scDigit (fun vs H Q E h => ?_) (fun cdv A outer s H vs Q E hr h => ?_)
  · obtain ⟨l, b, rfl, _⟩ := h
    rfl
  · obtain ⟨l, b, rfl, h0, h1, st, k⟩ := h
    refine ⟨_, pss_cons (ps_if (pt_cmpR op_eq (pe_callB call_len_seq (by rfl) B.len PySem.boot_len (pa_cons (pv 0) pa_nil)) pe_int (nomark _))
        (pss_one (ps_expr (pe_bm PySem.F.plainAttrs_list PySem.F.slot_list_extend PySem.F.type_list_extend mt_extend (pv 0) (pa_cons (pe_lst (pa_cons (pe_op op_mod (pe_ix ix_list (pv 0) pe_int (fun _ _ => rfl)) pe_int) (pa_cons pe_int pa_nil))) pa_nil)))) pss_nil)
      (pss_cons (ps_if (pt_cmpR op_gt (pe_ix ix_list (pv 0) pe_int (fun _ _ => rfl)) pe_int (nomark _))
        (pss_cons (ps_set (i := 2) scDigit.nd rfl (Or.inl rfl) (pe_op op_mod (pe_ix ix_list (pv 0) pe_int (fun _ _ => rfl)) (pv 1)))
        (pss_cons (ps_asg (pe_op op_fdiv (pe_ix ix_list (pv 0) pe_int (fun _ _ => rfl)) (pv 1)) (pg_sub (pv 0) pe_int set_list))
        (pss_one (ps_ret (pv 2))))) pss_nil)
      (pss_cons (ps_asg (pe_op op_add (pe_ix ix_list (pv 0) pe_int (fun _ _ => rfl)) pe_int) (pg_sub (pv 0) pe_int set_list))
      (pss_cons (ps_set (i := 3) scDigit.nd rfl (Or.inl rfl) (pe_op op_mod (pe_op op_mul (pe_op op_add (pe_op op_add (pe_ix ix_list (pv 0) pe_int (fun _ _ => rfl)) (pe_op op_mul pe_int (pe_ix ix_list (pv 0) pe_int (fun _ _ => rfl)))) pe_int) pe_int) pe_int))
      (pss_cons (ps_set (i := 3) scDigit.nd rfl (Or.inl rfl) (pe_op op_mod (pe_op op_mul (pv 3) (pe_op op_add (pe_op op_fdiv (pv 3) pe_int) pe_int)) pe_int))
      (pss_one (ps_ret (pe_op op_mod (pe_op op_mod (pe_op op_mul (pv 3) (pe_op op_add (pe_op op_fdiv (pv 3) pe_int) pe_int)) pe_int) (pv 1)))))))), ?_⟩
    rcases st with ⟨n, hl0⟩ | ⟨n, m, c, hl⟩
    case' inl =>
      refine ⟨_, rfl, l, _, rfl, .inl (.of hl0), rfl, _, rfl, iteT ?_⟩
      refine ⟨_, rfl, .inl ⟨rfl, _, .of hl0⟩, _, rfl, l, _, _, _, rfl, rfl, .of hl0, rfl, _, _, rfl, rfl, by show (0 : Int) < 2147483647; decide, by show 2 <= sizeLine; decide, fun q hq => ?_⟩
      refine ⟨l, q, _, _, rfl, rfl, Same.new hq _ _ hl0, upd_same, by show 1 + 2 <= sizeLine; decide, ?_⟩
      have bt : But l H (upd (upd H q (.lst [.int (n % 2147483647), .int 0])) l (.lst ([.int n] ++ [.int (n % 2147483647), .int 0]))) := (But.of (Same.new hq)).trans But.upd
      have hl : (upd (upd H q (.lst [.int (n % 2147483647), .int 0])) l (.lst ([.int n] ++ [.int (n % 2147483647), .int 0]))) l = some (.lst [.int n, .int (n % 2147483647), .int 0]) := upd_same
      generalize (upd (upd H q (.lst [.int (n % 2147483647), .int 0])) l (.lst ([.int n] ++ [.int (n % 2147483647), .int 0]))) = H1 at bt hl ⊢
    case' inr =>
      refine ⟨_, rfl, l, _, rfl, .inl (.of hl), rfl, _, rfl, iteF ?_⟩
      have bt := But.refl l H
    all_goals
      refine ⟨_, rfl, l, _, _, _, rfl, rfl, .of hl, rfl, _, _, rfl, rfl, _, rfl, ?_⟩
      refine ite2 (fun c => ?_) (fun c => ?_)
      · refine ⟨_, rfl, l, _, _, _, rfl, rfl, .of hl, rfl, _, rfl, _, _, rfl, rfl, h0, ?_⟩
        refine ⟨_, rfl, l, _, _, _, rfl, rfl, .of hl, rfl, _, rfl, _, _, rfl, rfl, ⟨h0, h1⟩, _, rfl, l, _, _, 0, rfl, rfl, hl, rfl, ?_⟩
        exact ⟨_, rfl, k _ _ (Int.emod_nonneg _ (by omega)) (Int.emod_lt_of_pos _ h0) (bt.trans But.upd) (.inr ⟨_, _, _, upd_same⟩)⟩
      · refine ⟨_, rfl, l, _, _, _, rfl, rfl, .of hl, rfl, _, _, rfl, rfl, _, rfl, l, _, _, 2, rfl, rfl, hl, rfl, ?_⟩
        refine ⟨_, rfl, l, _, _, _, rfl, rfl, .of upd_same, rfl, _, rfl, l, _, _, _, rfl, rfl, .of upd_same, rfl, _, _, rfl, rfl, .inl ⟨by decide, by decide⟩, _, _, rfl, rfl, _, _, rfl, rfl, _, _, rfl, rfl, .inr ⟨by decide, by decide⟩, _, _, rfl, rfl, by show (0 : Int) < 2147483647; decide, ?_⟩
        refine ⟨_, rfl, _, rfl, _, _, rfl, rfl, ⟨by decide, by decide⟩, _, _, rfl, rfl, _, _, rfl, rfl, .inl (small _), _, _, rfl, rfl, by show (0 : Int) < 2147483647; decide, ?_⟩
        refine ⟨_, rfl, _, rfl, _, _, rfl, rfl, ⟨by decide, by decide⟩, _, _, rfl, rfl, _, _, rfl, rfl, .inl (small _), _, _, rfl, rfl, by show (0 : Int) < 2147483399; decide, _, rfl, _, _, rfl, rfl, h0, ?_⟩
        exact k _ _ (Int.emod_nonneg _ (by omega)) (Int.emod_lt_of_pos _ h0) (bt.trans But.upd) (.inr ⟨_, _, _, upd_same⟩)
end
end Ev
set_option Elab.async false
set_option linter.all false
set_option maxRecDepth 100000
namespace Ev
open PySem L2
theorem abc_list : ("abcdefghijklmnopqrstuvwxyz" : Str).cps.toList = [97,98,99,100,101,102,103,104,105,106,107,108,109,110,111,112,113,114,115,116,117,118,119,120,121,122] := by decide +kernel
theorem abc_at {r : Int} (h0 : 0 <= r) (h1 : r < 26) : ∃ c, atI ("abcdefghijklmnopqrstuvwxyz" : Str).cps.toList r = some c /\ okc c = true := by
  rw [abc_list, atI_nat h0 (by simpa using h1)]
  have hn : r.toNat < 26 := by omega
  refine ⟨_, List.getElem?_eq_getElem (by simpa using hn), ?_⟩
  have all : ∀ c ∈ [97,98,99,100,101,102,103,104,105,106,107,108,109,110,111,112,113,114,115,116,117,118,119,120,121,122], okc c = true := by decide +kernel
  exact all _ (List.getElem_mem _)
section
variable {P : Program} {w : World} {K : PySem.W.Frag} {mg : Str -> Option Value} {base : Heap}
theorem scLName : FnScope ["_law_state", "_law_found", "_law_k"] ["_law_state"] (defScope sLName) := ⟨rfl, rfl, rfl, by decide +kernel, rfl, by decide +kernel, by decide +kernel⟩
def spLName : Sp := fun vs H Q _ => ∃ (l : Addr), vs = [.ref l] /\ stt H l /\ ∀ x H', nameB x = true -> But l H H' -> stt H' l -> Q (.str x) H'
theorem ok_lname {f : Addr} {fd : FuncData} (F : Fun K "_law_name" "_law_name" sLName f fd) (B : Bi mg) (cD : Cal P w K mg base 1 "_law_digit" ["_law_state", "_law_base"] spDigit) : FnOk P w K mg base CX0 2 f fd ["_law_state"] spLName := by
  refine F.ok scLName (fun vs H Q E h => ?_) (fun cdv A outer s H vs Q E hr h => ?_)
  · obtain ⟨l, rfl, _⟩ := h
    rfl
  · obtain ⟨l, rfl, st, k⟩ := h
    have sz := sizeLine_eq
    refine ⟨_, pss_cons (ps_set (i := 1) scLName.nd rfl (Or.inl rfl) pe_str)
      (pss_cons (ps_for PassesOwn.never rfl (pi_range1 (by rfl) B.range (pa_cons (pe_op op_add pe_int (pe_fn cD hr (pa_cons (pv 0) (pa_cons pe_int pa_nil)))) pa_nil)) (pg_name (i := 2) scLName.nd rfl (Or.inl rfl))
        (pss_one (ps_set (i := 1) scLName.nd rfl (Or.inl rfl) (pe_op op_add_str (pv 1) (pe_ix ix_str pe_str (pe_fn cD hr (pa_cons (pv 0) (pa_cons pe_int pa_nil))) (fun _ _ => rfl))))))
      (pss_one (ps_ret (pv 1)))), ?_⟩
    refine ⟨_, rfl, l, 8, rfl, by decide, by decide, st, fun r H1 r0 r8 b1 st1 => ?_⟩
    refine ⟨_, _, rfl, rfl, _, rfl, by show (-(2 ^ 62) : Int) <= 1 + r; omega, by show 1 + r < (2 ^ 62 : Int); omega, ?_⟩
    refine for_range (lo := 0) (n := (1 + r).toNat) (fun i σ H2 => ∃ (x : Str) (v : Option V), σ = [some (.ref l), some (.str x), v] /\ x.length = i /\ x.cps.toList.all okc = true /\ But l H H2 /\ stt H2 l) ⟨"", none, rfl, rfl, rfl, b1, st1⟩ ?_ ?_
    · rintro i σ H2 hi ⟨x, v, rfl, hx, ho, b2, st2⟩
      refine ⟨_, rfl, _, rfl, l, 26, rfl, by decide, by decide, st2, fun q H3 q0 q26 b3 st3 => ?_⟩
      obtain ⟨c, hc, oc⟩ := abc_at q0 q26
      refine ⟨_, _, _, rfl, rfl, by decide +kernel, hc, _, _, rfl, rfl, ?_, _, _, rfl, ?_, ?_, b2.trans b3, st3⟩
      · have : (⟨#[c]⟩ : Str).length = 1 := rfl
        omega
      · have e : (x ++ (⟨#[c]⟩ : Str)).cps.toList = x.cps.toList ++ [c] := PySem.W.KT.app_list _ _
        have : (x ++ (⟨#[c]⟩ : Str)).length = (x ++ (⟨#[c]⟩ : Str)).cps.toList.length := by rw [Array.length_toList]; rfl
        rw [this, e, List.length_append, Array.length_toList]
        show x.length + 1 = i + 1
        omega
      · have e : (x ++ (⟨#[c]⟩ : Str)).cps.toList = x.cps.toList ++ [c] := PySem.W.KT.app_list _ _
        rw [e, List.all_append, ho]
        simp [oc]
    · rintro σ H2 ⟨x, v, rfl, hx, ho, b2, st2⟩
      refine ⟨_, rfl, k x H2 ?_ b2 st2⟩
      unfold nameB
      rw [ho, decide_eq_true (show 1 <= x.length by omega), decide_eq_true (show x.length <= 8 by omega)]
      rfl
theorem scLHands : FnScope ["_law_state", "_law_most", "_law_found", "_law_k", "_law_name_here", "_law_strength"] ["_law_state", "_law_most"] (defScope sLHands) := ⟨rfl, rfl, rfl, by decide +kernel, rfl, by decide +kernel, by decide +kernel⟩
end
end Ev
set_option Elab.async false
set_option linter.all false
set_option maxRecDepth 100000
namespace Ev
open PySem L2
def insAt {α : Type} (l : List α) (k : Nat) (x : α) : List α := l.take k ++ x :: l.drop k
theorem insAt_perm {α : Type} (l : List α) (k : Nat) (x : α) : (insAt l k x).Perm (x :: l) := by
  unfold insAt
  refine List.perm_middle.trans ?_
  rw [List.take_append_drop]
theorem insAt_map {α β : Type} (g : α -> β) (l : List α) (k : Nat) (x : α) : (insAt l k x).map g = insAt (l.map g) k (g x) := by
  unfold insAt
  rw [List.map_append, List.map_cons, List.map_take, List.map_drop]
theorem paired_ins {α β : Type} {F : α -> β -> Prop} : ∀ {ys : List α} {ks : List β} (k : Nat) {y : α} {q : β}, Paired F ys ks -> F y q -> Paired F (insAt ys k y) (insAt ks k q)
  | [], _, k, _, _, .nil, h => by
    unfold insAt
    simp only [List.take_nil, List.drop_nil, List.nil_append]
    exact .cons h .nil
  | y :: ys, _, 0, _, _, .cons a t, h => .cons h (.cons a t)
  | y :: ys, _, k + 1, _, _, .cons a t, h => .cons a (paired_ins k t h)
theorem insAt_len {α : Type} (l : List α) (k : Nat) (x : α) : (insAt l k x).length = l.length + 1 := (insAt_perm l k x).length_eq
theorem hit2 {α : Type} {a b : α} {r : Int} (h0 : 0 <= r) (h1 : r < 2) : atI [a, b] r = some a ∨ atI [a, b] r = some b := by
  have : r = 0 ∨ r = 1 := by omega
  rcases this with rfl | rfl
  · exact .inl rfl
  · exact .inr rfl
theorem hit4 {α : Type} {p : α -> Prop} {a b c d : α} {r : Int} (h0 : 0 <= r) (h1 : r < 4) (ha : p a) (hb : p b) (hc : p c) (hd : p d) : ∃ x, atI [a, b, c, d] r = some x /\ p x := by
  have : r = 0 ∨ r = 1 ∨ r = 2 ∨ r = 3 := by omega
  rcases this with rfl | rfl | rfl | rfl
  · exact ⟨_, rfl, ha⟩
  · exact ⟨_, rfl, hb⟩
  · exact ⟨_, rfl, hc⟩
  · exact ⟨_, rfl, hd⟩
section
variable {P : Program} {w : World} {K : PySem.W.Frag} {mg : Str -> Option Value} {base : Heap}
def spLHands (K : PySem.W.Frag) : Sp := fun vs H Q _ => ∃ (l : Addr), vs = [.ref l, .int 8] /\ stt H l /\ ∀ (a : Addr) (ys : List V) (hs : List (Str × Int)) (H' : Hp), But l H H' -> stt H' l -> H a = none -> H' a = some (.lst ys) -> TupsAt K H' ys (hs.map kH) -> (∀ h ∈ hs, goodH h) -> (hs.map (·.1)).Nodup -> 1 <= hs.length -> hs.length <= 8 -> Q (.ref a) H'
theorem tups_keep {K : PySem.W.Frag} {H H' : Hp} {l : Addr} {ys : List V} {ks : List (List Key)} (t : TupsAt K H ys ks) (b : But l H H') {xs : List V} (hl : H l = some (.lst xs)) : TupsAt K H' ys ks := Paired.mapP t fun y k ⟨a, z, q⟩ => ⟨a, z, b _ _ q (ne_of q hl (by intro z; cases z))⟩
theorem names_rep {K : PySem.W.Frag} {H : Hp} {D : Addr} {ns : List Str} (h : H D = some (.lst (ns.map V.str))) : rL K rS H (.ref D) ns := ⟨D, _, rfl, .of h, strs_rep ns⟩
theorem ok_lhands {f : Addr} {fd : FuncData} (F : Fun K "_law_hands" "_law_hands" sLHands f fd) (B : Bi mg) (cD : Cal P w K mg base 1 "_law_digit" ["_law_state", "_law_base"] spDigit) (cN : Cal P w K mg base 2 "_law_name" ["_law_state"] spLName) : FnOk P w K mg base CX0 3 f fd ["_law_state", "_law_most"] (spLHands K) := by
  refine F.ok scLHands (fun vs H Q E h => ?_) (fun cdv A outer s H vs Q E hr h => ?_)
  · obtain ⟨l, rfl, _⟩ := h
    rfl
  · obtain ⟨l, rfl, st, k⟩ := h
    have sz := sizeLine_eq
    have hr1 : Room 1 _ := hr.mono (by decide)
    refine ⟨_, pss_cons (ps_set (i := 2) scLHands.nd rfl (Or.inl rfl) (pe_lst pa_nil))
      (pss_cons (ps_for PassesOwn.never rfl (pi_range1 (by rfl) B.range (pa_cons (pe_op op_add pe_int (pe_fn cD hr1 (pa_cons (pv 0) (pa_cons (pv 1) pa_nil)))) pa_nil)) (pg_name (i := 3) scLHands.nd rfl (Or.inl rfl))
        (pss_cons (ps_set (i := 4) scLHands.nd rfl (Or.inl rfl) (pe_fn cN hr (pa_cons (pv 0) pa_nil)))
        (pss_one (ps_if (pt_cmpR (op_notInD cmpS (roomU hr 0)) (pv 4) (pe_comp ["_law_one", "_law_strength"] 2 [] (pi_list (pv 2)) (fun fp s H => pg_tupC (n := 2) (pgs_cons (pg_name (i := 0) (show (["_law_one", "_law_strength"] : List Str).Nodup by decide +kernel) rfl (Or.inl rfl)) (pgs_cons (pg_name (i := 1) (show (["_law_one", "_law_strength"] : List Str).Nodup by decide +kernel) rfl (Or.inl rfl)) pgs_nil)))
            (fun fp s H => pts_nil) (fun fp s H => pv 0)) (by with_unfolding_all rfl))
          (pss_cons (ps_set (i := 5) scLHands.nd rfl (Or.inl rfl) (pe_ix ix_list (pe_lst (pa_cons pe_int (pa_cons (pe_op op_add pe_int (pe_fn cD hr1 (pa_cons (pv 0) (pa_cons pe_int pa_nil)))) (pa_cons (pe_op op_add pe_int (pe_fn cD hr1 (pa_cons (pv 0) (pa_cons pe_int pa_nil)))) (pa_cons pe_int pa_nil))))) (pe_fn cD hr1 (pa_cons (pv 0) (pa_cons pe_int pa_nil))) (fun _ _ => rfl)))
          (pss_one (ps_expr (pe_bm PySem.F.plainAttrs_list PySem.F.slot_list_insert PySem.F.type_list_insert mt_insert (pv 2) (pa_cons (pe_fn cD hr1 (pa_cons (pv 0) (pa_cons (pe_op op_add (pe_callB call_len_seq (by rfl) B.len PySem.boot_len (pa_cons (pv 2) pa_nil)) pe_int) pa_nil))) (pa_cons (pe_tup (pa_cons (pv 4) (pa_cons (pv 5) pa_nil))) pa_nil))))))
          pss_nil))))
      (pss_one (ps_ret (pv 2)))), ?_⟩
    refine ⟨by show 0 <= sizeLine; decide, fun a ha => ?_⟩
    obtain ⟨xs0, hl0⟩ := st.some
    have hla : l ≠ a := ne_of_none hl0 ha
    have st0 : stt (upd H a (.lst [])) l := by
      unfold stt
      rw [upd_ne hla]
      exact st
    refine ⟨_, rfl, _, rfl, l, 8, rfl, by decide, by decide, st0, fun r H1 r0 r8 b1 st1 => ?_⟩
    refine ⟨_, _, rfl, rfl, _, rfl, by show (-(2 ^ 62) : Int) <= 1 + r; omega, by show 1 + r < (2 ^ 62 : Int); omega, ?_⟩
    refine for_range (lo := 0) (n := (1 + r).toNat) (fun i σ H2 => ∃ (v3 v4 v5 : Option V) (ys : List V) (hs : List (Str × Int)), σ = [some (.ref l), some (.int 8), some (.ref a), v3, v4, v5] /\ But l H H2 /\ stt H2 l /\ H2 a = some (.lst ys) /\ TupsAt K H2 ys (hs.map kH) /\ (∀ h ∈ hs, goodH h) /\ (hs.map (·.1)).Nodup /\ hs.length <= i /\ (1 <= i -> 1 <= hs.length))
      ⟨none, none, none, [], [], rfl, (But.of (Same.new ha)).trans b1, st1, b1 _ _ upd_same hla.symm, .nil, by simp, .nil, Nat.le_refl _, by omega⟩ ?_ ?_
    · rintro i σ H2 hi ⟨v3, v4, v5, ys, hs, rfl, b2, st2, ha2, tu, good, nd, le, ge⟩
      have i8 : i < 8 := by omega
      refine ⟨_, rfl, l, rfl, st2, fun x H3 nx b3 st3 => ?_⟩
      have ha3 := b3 _ _ ha2 hla.symm
      obtain ⟨xs2, hl2⟩ := st2.some
      have tu3 := tups_keep tu b3 hl2
      refine ⟨_, rfl, _, rfl, a, rfl, ⟨_, .of ha3⟩, fun D hD => ?_⟩
      have ley := Paired.length tu
      rw [List.length_map] at ley
      refine comp_list (own := 2) (fv := []) (xs := ys) rfl gok2 (fun i out H' => Same H3 H' /\ H' D = some (.lst out) /\ out = ((hs.take i).map (·.1)).map V.str) ⟨Same.new hD, upd_same, rfl⟩ (fun i out H' _ ⟨sm, _, _⟩ => .of (sm _ _ ha3)) (fun out H4 ⟨sm, hD4, eo⟩ => ?_) (fun j y out H' hy ⟨sm, hD', eo⟩ => ?_)
      · rw [ley, List.take_length] at eo
        subst eo
        have ha4 := sm _ _ ha3
        have b4 : But l H H4 := (b2.trans b3).trans (But.of sm)
        have st4 : stt H4 l := by
          rcases st3 with ⟨n, e⟩ | ⟨n, m, c, e⟩
          · exact .inl ⟨n, sm _ _ e⟩
          · exact .inr ⟨n, m, c, sm _ _ e⟩
        have tu4 := tu3.same sm
        refine ⟨x, _, rfl, names_rep hD4, _, rfl, ?_⟩
        refine ite2 (fun c => ?_) (fun c => ?_)
        · have nin : x ∉ hs.map (·.1) := by simpa using c
          refine ⟨_, rfl, l, 9, rfl, by decide, by decide, st4, fun r1 H5 q0 q1 b5 st5 => ⟨_, _, rfl, rfl, ?_⟩⟩
          refine ⟨_, rfl, l, 1000, rfl, by decide, by decide, st5, fun r2 H6 q2 q3 b6 st6 => ⟨_, _, rfl, rfl, ?_⟩⟩
          refine ⟨by show 4 <= sizeLine; decide, fun p hp => ?_⟩
          obtain ⟨xs6, hl6⟩ := st6.some
          have lp : l ≠ p := ne_of_none hl6 hp
          have st7 : stt (upd H6 p (.lst [.int 1, .int (1 + r1), .int (1 + r2), .int 1000])) l := by
            unfold stt
            rw [upd_ne lp]
            exact st6
          refine ⟨_, rfl, l, 4, rfl, by decide, by decide, st7, fun r3 H8 q4 q5 b8 st8 => ?_⟩
          have hp8 := b8 _ _ (show upd H6 p (.lst [.int 1, .int (1 + r1), .int (1 + r2), .int 1000]) p = _ from upd_same) lp.symm
          obtain ⟨y, hy, n, en, n1, n2⟩ := hit4 (p := fun y : V => ∃ n : Int, y = .int n /\ 1 <= n /\ n <= 1000) (a := V.int 1) (b := .int (1 + r1)) (c := .int (1 + r2)) (d := .int 1000) q4 q5 ⟨1, rfl, by decide, by decide⟩ ⟨_, rfl, by omega, by omega⟩ ⟨_, rfl, by omega, by omega⟩ ⟨1000, rfl, by decide, by decide⟩
          subst en
          refine ⟨p, _, _, _, rfl, rfl, .of hp8, hy, ?_⟩
          have b48 : But l H4 H8 := ((b5.trans b6).trans (But.of (Same.new hp))).trans b8
          obtain ⟨xs4, hl4⟩ := st4.some
          have ha8 := b48 _ _ ha4 hla.symm
          have tu8 := tups_keep tu4 b48 hl4
          refine ⟨_, rfl, .inl ⟨rfl, _, .of ha8⟩, _, rfl, _, rfl, a, _, rfl, .inl (.of ha8), _, _, rfl, rfl, l, _, rfl, by show (0 : Int) < (ys.length : Int) + 1; omega, by show (ys.length : Int) + 1 < 1073741824; omega, st8, fun r4 H9 q6 q7 b9 st9 => ?_⟩
          have q7 : r4 < (ys.length : Int) + 1 := q7
          obtain ⟨xs8, hl8⟩ := st8.some
          have ha9 := b9 _ _ ha8 hla.symm
          have tu9 := tups_keep tu8 b9 hl8
          refine ⟨_, rfl, _, rfl, by show 2 <= sizeLine; decide, fun t ht => ?_⟩
          have st10 := Same.new (o := .tup [.str x, .int n]) ht
          refine ⟨a, r4.toNat, ys, .ref t, rfl, by rw [Int.toNat_of_nonneg q6], st10 _ _ ha9, by omega, by omega, ?_⟩
          have hl9 : ∃ xs, upd H9 t (.tup [.str x, .int n]) l = some (.lst xs) := by
            obtain ⟨xs, e⟩ := st9.some
            exact ⟨xs, st10 _ _ e⟩
          have tt : upd H9 t (.tup [.str x, .int n]) t = some (.tup ((kH (x, n)).map kV)) := upd_same
          have ta : t ≠ a := (ne_of_none ha9 ht).symm
          refine ⟨_, _, _, _, insAt hs r4.toNat (x, n), rfl, ?_, ?_, upd_same, ?_, ?_, ?_, ?_, ?_⟩
          · intro b o e ne
            rw [upd_ne (ne_of_none e ha)]
            exact st10 _ _ (b9 _ _ (b48 _ _ (b4 _ _ e ne) ne) ne)
          · unfold stt
            rw [upd_ne hla, upd_ne (ne_of_none (st9.some.choose_spec) ht)]
            exact st9
          · rw [insAt_map]
            exact tups_but (paired_ins _ (tu9.same st10) ⟨t, rfl, tt⟩) (st10 _ _ ha9)
          · intro h hh
            rcases List.mem_cons.mp ((insAt_perm _ _ _).mem_iff.mp hh) with rfl | hh
            · exact ⟨nx, n1, n2⟩
            · exact good h hh
          · refine ((insAt_perm hs _ _).map _).nodup_iff.mpr ?_
            rw [List.map_cons]
            exact List.nodup_cons.mpr ⟨nin, nd⟩
          · rw [insAt_len]
            omega
          · intro _
            rw [insAt_len]
            omega
        · refine ⟨_, _, _, _, hs, rfl, b4, st4, ha4, tu4, good, nd, by omega, fun _ => ?_⟩
          have yin : x ∈ hs.map (·.1) := by simpa using c
          have := List.length_pos_of_mem yin
          rw [List.length_map] at this
          omega
      · obtain ⟨h, hh, p, rfl, hp⟩ := paired_map tu3 hy
        refine ⟨_, ⟨p, _, _, rfl, .of (sm _ _ (hpH hp)), rfl⟩, rfl, fun Nx hN => yesT ?_⟩
        refine ⟨_, rfl, out, hD', ?_, hN _ _ ⟨same_but sm hD, upd_same, ?_⟩⟩
        · rw [eo, List.length_map, List.length_map, List.length_take]
          omega
        · rw [take_succ_map _ hh, List.map_append, eo]
          rfl
    · rintro σ H2 ⟨v3, v4, v5, ys, hs, rfl, b2, st2, ha2, tu, good, nd, le, ge⟩
      exact ⟨_, rfl, k a ys hs H2 b2 st2 ha ha2 tu good nd (ge (by omega)) (by omega)⟩
end
end Ev
set_option Elab.async false
set_option linter.all false
set_option maxRecDepth 100000
namespace Ev
open PySem L2
theorem comp_names {K : PySem.W.Frag} {a D : Addr} {ys : List V} {hs : List (Str × Int)} {H : Hp} {Q : VK} {σ0 : St} (hσ : σ0 = [none, none]) (ha : H a = some (.lst ys)) (tu : TupsAt K H ys (hs.map kH)) (h8 : hs.length <= 1000) (hD : H D = none)
    (q : ∀ H', Same H H' -> H' D = some (.lst ((hs.map (·.1)).map V.str)) -> Q (.ref D) H') : CompW (Itl K a) (gTup K 2 (gCons (gName 0) (gCons (gName 1) gNil))) tYes (tVar 0) σ0 D H Q := by
  have sz := sizeLine_eq
  have le := Paired.length tu
  rw [List.length_map] at le
  refine comp_list (own := 2) (fv := []) (xs := ys) hσ gok2 (fun i out H' => Same H H' /\ H' D = some (.lst out) /\ out = ((hs.take i).map (·.1)).map V.str) ⟨Same.new hD, upd_same, rfl⟩ (fun i out H' _ ⟨sm, _, _⟩ => .of (sm _ _ ha)) (fun out H4 ⟨sm, hD4, eo⟩ => ?_) (fun j y out H' hy ⟨sm, hD', eo⟩ => ?_)
  · rw [le, List.take_length] at eo
    subst eo
    exact q _ sm hD4
  · obtain ⟨h, hh, p, rfl, hp⟩ := paired_map tu hy
    refine ⟨_, ⟨p, _, _, rfl, .of (sm _ _ (hpH hp)), rfl⟩, rfl, fun Nx hN => yesT ?_⟩
    refine ⟨_, rfl, out, hD', ?_, hN _ _ ⟨same_but sm hD, upd_same, ?_⟩⟩
    · rw [eo, List.length_map, List.length_map, List.length_take]
      omega
    · rw [take_succ_map _ hh, List.map_append, eo]
      rfl
def kO (t : Str × Str) : List Key := kT (ord2 t.1 t.2)
structure TI (ns : List Str) (k j : Nat) (ts : List (Str × Str)) : Prop where
  at' : ∀ t ∈ ts, ∃ (a b : Nat) (x y : Str), b < a /\ (a < k ∨ (a = k /\ b < j)) /\ ns[a]? = some x /\ ns[b]? = some y /\ (t = (x, y) ∨ t = (y, x))
  nd : (ts.map kO).Nodup
  len : ts.length <= 7 * k + j
theorem TI.skip {ns : List Str} {k j : Nat} {ts : List (Str × Str)} (h : TI ns k j ts) : TI ns k (j + 1) ts :=
  ⟨fun t ht => let ⟨a, b, x, y, h1, h2, h3, h4, h5⟩ := h.at' t ht; ⟨a, b, x, y, h1, by omega, h3, h4, h5⟩, h.nd, by have := h.len; omega⟩
theorem TI.next {ns : List Str} {k : Nat} {ts : List (Str × Str)} (h : TI ns k k ts) (h7 : k <= 7) : TI ns (k + 1) 0 ts :=
  ⟨fun t ht => let ⟨a, b, x, y, h1, h2, h3, h4, h5⟩ := h.at' t ht; ⟨a, b, x, y, h1, by omega, h3, h4, h5⟩, h.nd, by have := h.len; omega⟩
theorem kT_inj {a b : Str × Str} (h : kT a = kT b) : a = b := by
  unfold kT at h
  obtain ⟨h1, h2⟩ := List.cons.inj h
  obtain ⟨h2, _⟩ := List.cons.inj h2
  exact Prod.ext (Sum.inr.inj h1) (Sum.inr.inj h2)
theorem nth_inj {ns : List Str} (nd : ns.Nodup) {i j : Nat} {x : Str} (h : ns[i]? = some x) (h2 : ns[j]? = some x) : i = j := by
  obtain ⟨hi, e1⟩ := List.getElem?_eq_some_iff.mp h
  obtain ⟨hj, e2⟩ := List.getElem?_eq_some_iff.mp h2
  exact (List.getElem_inj nd).mp (e1.trans e2.symm)
theorem kO_two {a b c d : Str} (h : kO (a, b) = kO (c, d)) : (a = c /\ b = d) ∨ (a = d /\ b = c) := by
  have h := kT_inj h
  dsimp only at h
  rcases ord2_or a b with e | e <;> rcases ord2_or c d with e2 | e2 <;> rw [e, e2] at h <;> have h1 := (Prod.mk.inj h).1 <;> have h2 := (Prod.mk.inj h).2
  · exact .inl ⟨h1, h2⟩
  · exact .inr ⟨h1, h2⟩
  · exact .inr ⟨h2, h1⟩
  · exact .inl ⟨h2, h1⟩
theorem TI.add {ns : List Str} {k j : Nat} {ts : List (Str × Str)} (h : TI ns k j ts) (nd : ns.Nodup) {x y : Str} {t : Str × Str} (hj : j < k) (hx : ns[k]? = some x) (hy : ns[j]? = some y) (ht : t = (x, y) ∨ t = (y, x)) (q : Nat) : TI ns k (j + 1) (insAt ts q t) := by
  refine ⟨fun u hu => ?_, ?_, by have := h.len; rw [insAt_len]; omega⟩
  · rcases List.mem_cons.mp ((insAt_perm _ _ _).mem_iff.mp hu) with rfl | hu
    · exact ⟨k, j, x, y, hj, .inr ⟨rfl, by omega⟩, hx, hy, ht⟩
    · exact h.skip.at' u hu
  · refine ((insAt_perm ts q t).map kO).nodup_iff.mpr ?_
    rw [List.map_cons]
    refine List.nodup_cons.mpr ⟨fun m => ?_, h.nd⟩
    obtain ⟨u, hu, e⟩ := List.mem_map.mp m
    obtain ⟨a, b, c, d, h1, h2, h3, h4, h5⟩ := h.at' u hu
    have key : (c = x /\ d = y) ∨ (c = y /\ d = x) := by
      rcases h5 with rfl | rfl <;> rcases ht with rfl | rfl <;> rcases kO_two e with ⟨q1, q2⟩ | ⟨q1, q2⟩ <;> simp_all
    rcases key with ⟨rfl, rfl⟩ | ⟨rfl, rfl⟩
    · have := nth_inj nd h3 hx
      have := nth_inj nd h4 hy
      omega
    · have := nth_inj nd h3 hy
      have := nth_inj nd h4 hx
      omega
theorem TI.good {ns : List Str} {k j : Nat} {ts : List (Str × Str)} (h : TI ns k j ts) (nd : ns.Nodup) (ok : ∀ n ∈ ns, nameB n = true) : ∀ t ∈ ts, goodT t /\ t.1 ∈ ns /\ t.2 ∈ ns := fun t ht => by
  obtain ⟨a, b, x, y, h1, h2, h3, h4, h5⟩ := h.at' t ht
  have mx := List.mem_of_getElem? h3
  have my := List.mem_of_getElem? h4
  have ne : x ≠ y := fun e => by
    subst e
    have := nth_inj nd h3 h4
    omega
  rcases h5 with rfl | rfl
  · exact ⟨⟨ok _ mx, ok _ my, ne⟩, mx, my⟩
  · exact ⟨⟨ok _ my, ok _ mx, ne.symm⟩, my, mx⟩
theorem cut_take (ns : List Str) (k : Nat) : cutV (ns.map V.str) none (some (k : Int)) = (ns.take k).map V.str := by
  unfold cutV
  rw [HT.sIx_none, HT.sIx_nat, List.drop_zero, Nat.sub_zero, List.map_take, List.length_map]
  by_cases h : k <= ns.length
  · rw [Nat.min_eq_left h]
  · rw [Nat.min_eq_right (by omega), List.take_of_length_le (by rw [List.length_map]; omega), List.take_of_length_le (by rw [List.length_map]; omega)]
theorem stt.same {H H' : Hp} {l : Addr} (h : stt H l) (s : Same H H') : stt H' l := by
  rcases h with ⟨n, e⟩ | ⟨n, m, c, e⟩
  · exact .inl ⟨n, s _ _ e⟩
  · exact .inr ⟨n, m, c, s _ _ e⟩
section
variable {P : Program} {w : World} {K : PySem.W.Frag} {mg : Str -> Option Value} {base : Heap}
theorem scLTies : FnScope ["_law_state", "_law_hands_here", "_law_names", "_law_few", "_law_found", "_law_k", "_law_other", "_law_tie"] ["_law_state", "_law_hands_here"] (defScope sLTies) := ⟨rfl, rfl, rfl, by decide +kernel, rfl, by decide +kernel, by decide +kernel⟩
def spLTies (K : PySem.W.Frag) : Sp := fun vs H Q _ => ∃ (l lh : Addr) (ys : List V) (hs : List (Str × Int)), vs = [.ref l, .ref lh] /\ stt H l /\ H lh = some (.lst ys) /\ TupsAt K H ys (hs.map kH) /\ (∀ n ∈ hs.map (·.1), nameB n = true) /\ (hs.map (·.1)).Nodup /\ hs.length <= 8 /\ lh ≠ l /\
  ∀ (a : Addr) (zs : List V) (ts : List (Str × Str)) (H' : Hp), But l H H' -> stt H' l -> H a = none -> H' a = some (.lst zs) -> TupsAt K H' zs (ts.map kT) -> (∀ t ∈ ts, goodT t /\ t.1 ∈ hs.map (·.1) /\ t.2 ∈ hs.map (·.1)) -> (ts.map kO).Nodup -> ts.length < 64 -> Q (.ref a) H'
theorem ok_lties {f : Addr} {fd : FuncData} (F : Fun K "_law_ties" "_law_ties" sLTies f fd) (B : Bi mg) (cD : Cal P w K mg base 1 "_law_digit" ["_law_state", "_law_base"] spDigit) : FnOk P w K mg base CX0 2 f fd ["_law_state", "_law_hands_here"] (spLTies K) := by
  refine F.ok scLTies (fun vs H Q E h => ?_) (fun cdv A outer s H vs Q E hr h => ?_)
  · obtain ⟨l, lh, ys, hs, rfl, _⟩ := h
    rfl
  · obtain ⟨l, lh, ys, hs, rfl, st, hlh, tu, okn, nd, h8, hne, k⟩ := h
    have sz := sizeLine_eq
    refine ⟨_, pss_cons (ps_setC (i := 2) ["_law_name_here", "_law_strength"] 2 [] scLTies.nd rfl (Or.inl rfl) (pi_list (pv 1)) (fun fp s H => pg_tupC (n := 2) (pgs_cons (pg_name (i := 0) (show (["_law_name_here", "_law_strength"] : List Str).Nodup by decide +kernel) rfl (Or.inl rfl)) (pgs_cons (pg_name (i := 1) (show (["_law_name_here", "_law_strength"] : List Str).Nodup by decide +kernel) rfl (Or.inl rfl)) pgs_nil)))
            (fun fp s H => pts_nil) (fun fp s H => pv 0))
      (pss_cons (ps_set (i := 3) scLTies.nd rfl (Or.inl rfl) (pe_op op_add pe_int (pe_fn cD hr (pa_cons (pv 0) (pa_cons pe_int pa_nil)))))
      (pss_cons (ps_set (i := 4) scLTies.nd rfl (Or.inl rfl) (pe_lst pa_nil))
      (pss_cons (ps_for PassesOwn.never rfl (pi_range1 (by rfl) B.range (pa_cons (pe_callB call_len_seq (by rfl) B.len PySem.boot_len (pa_cons (pv 2) pa_nil)) pa_nil)) (pg_name (i := 5) scLTies.nd rfl (Or.inl rfl))
        (pss_one (ps_for PassesOwn.never rfl (pi_list (pe_slice sl_list (pv 2) po_none (po_some (pv 5)))) (pg_name (i := 6) scLTies.nd rfl (Or.inl rfl))
          (pss_one (ps_if (pt_cmpR op_lt (pe_fn cD hr (pa_cons (pv 0) (pa_cons pe_int pa_nil))) (pv 3) (nomark _))
            (pss_cons (ps_set (i := 7) scLTies.nd rfl (Or.inl rfl) (pe_ix ix_list (pe_lst (pa_cons (pe_tup (pa_cons (pe_ix ix_list (pv 2) (pv 5) (fun _ _ => rfl)) (pa_cons (pv 6) pa_nil))) (pa_cons (pe_tup (pa_cons (pv 6) (pa_cons (pe_ix ix_list (pv 2) (pv 5) (fun _ _ => rfl)) pa_nil))) pa_nil))) (pe_fn cD hr (pa_cons (pv 0) (pa_cons pe_int pa_nil))) (fun _ _ => rfl)))
            (pss_one (ps_expr (pe_bm PySem.F.plainAttrs_list PySem.F.slot_list_insert PySem.F.type_list_insert mt_insert (pv 4) (pa_cons (pe_fn cD hr (pa_cons (pv 0) (pa_cons (pe_op op_add (pe_callB call_len_seq (by rfl) B.len PySem.boot_len (pa_cons (pv 4) pa_nil)) pe_int) pa_nil))) (pa_cons (pv 7) pa_nil))))))
            pss_nil)))))
      (pss_one (ps_ret (pv 4)))))), ?_⟩
    refine ⟨_, rfl, lh, rfl, ⟨_, .of hlh⟩, fun ln hln => ?_⟩
    refine comp_names rfl hlh tu (by omega) hln fun H1 s1 hn1 => ?_
    let ns := hs.map (·.1)
    have n8 : ns.length <= 8 := by show (hs.map (·.1)).length <= 8; rw [List.length_map]; exact h8
    have st1 := st.same s1
    refine ⟨_, rfl, l, 3, rfl, by decide, by decide, st1, fun r H2 r0 r3 b2 st2 => ⟨_, _, rfl, rfl, ?_⟩⟩
    obtain ⟨xs1, hl1⟩ := st1.some
    have lnl : ln ≠ l := fun e => by
      subst e
      obtain ⟨xs, e2⟩ := st.some
      rw [hln] at e2
      cases e2
    have hn2 := b2 _ _ hn1 lnl
    refine ⟨by show 0 <= sizeLine; decide, fun a ha => ?_⟩
    obtain ⟨xs2, hl2⟩ := st2.some
    have hla : l ≠ a := ne_of_none hl2 ha
    have lna : ln ≠ a := ne_of_none hn2 ha
    have s3 : Same H2 (upd H2 a (.lst [])) := Same.new ha
    have ha0 : H a = none := by
      cases z : H a with
      | none => rfl
      | some o =>
        have := b2 _ _ (s1 _ _ z) hla.symm
        rw [ha] at this
        cases this
    refine ⟨_, rfl, ln, _, rfl, .inl (.of (s3 _ _ hn2)), _, rfl, by show (-(2 ^ 62) : Int) <= ((ns.map V.str).length : Int); omega, by show (((hs.map (·.1)).map V.str).length : Int) < 2 ^ 62; rw [List.length_map, List.length_map]; omega, ?_⟩
    let Iv : Nat -> Nat -> Hp -> Prop := fun kk j H' => ∃ zs ts, But l H H' /\ stt H' l /\ H' ln = some (.lst (ns.map V.str)) /\ H' a = some (.lst zs) /\ TupsAt K H' zs (ts.map kT) /\ TI ns kk j ts
    have le : (ns.map V.str).length = ns.length := List.length_map _
    refine for_range (lo := 0) (n := ((ns.map V.str).length : Int).toNat) (fun i σ H' => ∃ (v5 v6 v7 : Option V), σ = [some (.ref l), some (.ref lh), some (.ref ln), some (.int (1 + r)), some (.ref a), v5, v6, v7] /\ Iv i 0 H')
      ⟨none, none, none, rfl, [], [], ((But.of s1).trans b2).trans (But.of s3), st2.same s3, s3 _ _ hn2, upd_same, .nil, ⟨by simp, .nil, Nat.zero_le _⟩⟩ ?_ ?_
    · rintro i σ H4 hi ⟨v5, v6, v7, rfl, zs4, ts4, b4, st4, hn4, ha4, tu4, ti4⟩
      rw [Int.zero_add]
      have hi : i < ns.length := by omega
      refine ⟨_, rfl, _, rfl, _, rfl, ln, _, rfl, .of hn4, fun p hp => ?_⟩
      rw [cut_take]
      have s5 : Same H4 (upd H4 p (.lst ((ns.take i).map V.str))) := Same.new hp
      have lp : l ≠ p := by
        obtain ⟨xs, e⟩ := st4.some
        exact ne_of_none e hp
      have pln : ln ≠ p := ne_of_none hn4 hp
      have pa : p ≠ a := (ne_of_none ha4 hp).symm
      refine ⟨p, rfl, ⟨_, .of upd_same⟩, for_list (K := K) (a := p) (xs := (ns.take i).map V.str) (fun j σ H' => ∃ (v6 v7 : Option V), σ = [some (.ref l), some (.ref lh), some (.ref ln), some (.int (1 + r)), some (.ref a), some (.int i), v6, v7] /\ H' p = some (.lst ((ns.take i).map V.str)) /\ Iv i j H')
        ⟨_, _, rfl, upd_same, zs4, ts4, b4.trans (But.of s5), st4.same s5, s5 _ _ hn4, s5 _ _ ha4, tu4.same s5, ti4⟩ (fun j σ H' _ ⟨_, _, _, q, _⟩ => .of q) ?_ ?_⟩
      · rintro j y σ H6 hy ⟨v6, v7, rfl, hp6, zs6, ts6, b6, st6, hn6, ha6, tu6, ti6⟩
        obtain ⟨o, ho, rfl⟩ := map_get_str hy
        have hj : j < i := by
          have := (List.getElem?_eq_some_iff.mp ho).1
          rw [List.length_take] at this
          omega
        have ho : ns[j]? = some o := by
          rw [List.getElem?_take_of_lt hj] at ho
          exact ho
        have hx : ns[i]? = some ns[i] := List.getElem?_eq_getElem hi
        have hat : atI (ns.map V.str) (i : Int) = some (.str ns[i]) := by
          rw [atI_nat (by omega) (by rw [List.length_map]; omega), Int.toNat_natCast, List.getElem?_map, hx]
          rfl
        refine ⟨_, rfl, l, 4, rfl, by decide, by decide, st6, fun r2 H7 q0 q1 b7 st7 => ⟨_, rfl, _, _, rfl, rfl, _, rfl, ?_⟩⟩
        obtain ⟨xs6, hl6⟩ := st6.some
        have hn7 := b7 _ _ hn6 lnl
        have ha7 := b7 _ _ ha6 hla.symm
        have hp7 := b7 _ _ hp6 lp.symm
        have tu7 := tups_keep tu6 b7 hl6
        refine ite2 (fun c => ?_) (fun c => ?_)
        · refine ⟨_, rfl, _, rfl, ln, _, _, _, rfl, rfl, .of hn7, hat, _, rfl, by show 2 <= sizeLine; decide, fun t1 ht1 => ?_⟩
          have s8 := Same.new (o := .tup [.str ns[i], .str o]) ht1
          refine ⟨_, rfl, _, rfl, _, rfl, ln, _, _, _, rfl, rfl, .of (s8 _ _ hn7), hat, by show 2 <= sizeLine; decide, fun t2 ht2 => ?_⟩
          have s9 := Same.new (o := .tup [.str o, .str ns[i]]) ht2
          refine ⟨by show 2 <= sizeLine; decide, fun lx hlx => ?_⟩
          have s10 := Same.new (o := .lst [.ref t1, .ref t2]) hlx
          have s7 := (s8.trans s9).trans s10
          have st10 := st7.same s7
          refine ⟨_, rfl, l, 2, rfl, by decide, by decide, st10, fun r3 H11 q2 q3 b11 st11 => ?_⟩
          have lxl : lx ≠ l := by
            obtain ⟨xs, e⟩ := (st7.same (s8.trans s9)).some
            exact (ne_of_none e hlx).symm
          have hlx11 := b11 _ _ (show upd (upd (upd H7 t1 (.tup [.str ns[i], .str o])) t2 (.tup [.str o, .str ns[i]])) lx (.lst [.ref t1, .ref t2]) lx = _ from upd_same) lxl
          obtain ⟨xs10, hl10⟩ := st10.some
          have ht1' := s10 _ _ (s9 _ _ (show upd H7 t1 (.tup [.str ns[i], .str o]) t1 = _ from upd_same))
          have ht2' := s10 _ _ (show upd (upd H7 t1 (.tup [.str ns[i], .str o])) t2 (.tup [.str o, .str ns[i]]) t2 = _ from upd_same)
          have ht1'' := b11 _ _ ht1' (ne_of ht1' hl10 (by intro z; cases z))
          have ht2'' := b11 _ _ ht2' (ne_of ht2' hl10 (by intro z; cases z))
          have pick : ∃ (t : Addr) (tt : Str × Str), atI [V.ref t1, V.ref t2] r3 = some (.ref t) /\ H11 t = some (.tup ((kT tt).map kV)) /\ (tt = (ns[i], o) ∨ tt = (o, ns[i])) := by
            rcases hit2 (a := V.ref t1) (b := V.ref t2) q2 q3 with e | e
            · exact ⟨t1, (ns[i], o), e, ht1'', .inl rfl⟩
            · exact ⟨t2, (o, ns[i]), e, ht2'', .inr rfl⟩
          obtain ⟨t, tt, et, ht, etc⟩ := pick
          refine ⟨lx, _, _, _, rfl, rfl, .of hlx11, et, ?_⟩
          have b711 : But l H7 H11 := (But.of s7).trans b11
          obtain ⟨xs7, hl7⟩ := st7.some
          have ha11 := b711 _ _ ha7 hla.symm
          have hn11 := b711 _ _ hn7 lnl
          have hp11 := b711 _ _ hp7 lp.symm
          have tu11 := tups_keep tu7 b711 hl7
          have lz := Paired.length tu6
          rw [List.length_map] at lz
          have tl := ti6.len
          refine ⟨_, rfl, .inl ⟨rfl, _, .of ha11⟩, _, rfl, _, rfl, a, _, rfl, .inl (.of ha11), _, _, rfl, rfl, l, _, rfl, by show (0 : Int) < (zs6.length : Int) + 1; omega, by show (zs6.length : Int) + 1 < 1073741824; omega, st11, fun r4 H12 q4 q5 b12 st12 => ?_⟩
          have q5 : r4 < (zs6.length : Int) + 1 := q5
          obtain ⟨xs11, hl11⟩ := st11.some
          have ha12 := b12 _ _ ha11 hla.symm
          have hn12 := b12 _ _ hn11 lnl
          have hp12 := b12 _ _ hp11 lp.symm
          have ht12 := b12 _ _ ht (ne_of ht hl11 (by intro z; cases z))
          have tu12 := tups_keep tu11 b12 hl11
          refine ⟨_, rfl, a, r4.toNat, zs6, .ref t, rfl, by rw [Int.toNat_of_nonneg q4], ha12, by omega, by omega, ?_⟩
          refine ⟨_, _, rfl, by rw [upd_ne pa]; exact hp12, _, insAt ts6 r4.toNat tt, ?_, ?_, by rw [upd_ne lna]; exact hn12, upd_same, ?_, ti6.add nd hj hx ho etc _⟩
          · intro b o e ne
            rw [upd_ne (ne_of_none e ha0)]
            exact b12 _ _ (b711 _ _ (b7 _ _ (b6 _ _ e ne) ne) ne) ne
          · unfold stt
            rw [upd_ne hla]
            exact st12
          · rw [insAt_map]
            exact tups_but (paired_ins _ tu12 ⟨t, rfl, ht12⟩) ha12
        · exact ⟨_, _, rfl, hp7, zs6, ts6, b6.trans b7, st7, hn7, ha7, tu7, ti6.skip⟩
      · rintro σ H6 ⟨v6, v7, rfl, hp6, zs6, ts6, b6, st6, hn6, ha6, tu6, ti6⟩
        rw [List.length_map, List.length_take, Nat.min_eq_left (by omega)] at ti6
        exact ⟨_, _, _, rfl, zs6, ts6, b6, st6, hn6, ha6, tu6, ti6.next (by omega)⟩
    · rintro σ H6 ⟨v5, v6, v7, rfl, zs6, ts6, b6, st6, hn6, ha6, tu6, ti6⟩
      have := ti6.len
      exact ⟨_, rfl, k a zs6 ts6 H6 b6 st6 ha0 ha6 tu6 (ti6.good nd okn) ti6.nd (by omega)⟩
end
end Ev
set_option Elab.async false
set_option linter.all false
set_option maxRecDepth 100000
namespace L2
open PySem PySem.Spec PyProof.Rows
theorem ObjOk.here {P : Program} {w : World} {H : Hp} {h : Heap} {a : Addr} {o : HO} (x : ObjOk P w H h a o) : ∃ u, h.get? a = some u := by
  cases o with
  | lst xs => obtain ⟨_, _, _, _, e⟩ := x; exact ⟨_, e⟩
  | tup xs => obtain ⟨_, _, _, ⟨o, e, _⟩, _⟩ := x; exact ⟨_, e⟩
  | dK kvs => obtain ⟨_, _, _, _, o, _, _, e, _⟩ := x; exact ⟨_, e⟩
  | dT kvs => obtain ⟨_, _, _, _, o, _, _, e, _⟩ := x; exact ⟨_, e⟩
  | set S n => obtain ⟨o, _, _, _, e, _⟩ := x; exact ⟨_, e⟩
  | ins C dx fs => obtain ⟨_, _, _, e, _⟩ := x; exact ⟨_, e⟩
  | own y => exact x
  | xd fs => obtain ⟨_, ⟨_, _, _, e, _⟩, _⟩ := x; exact ⟨_, e⟩
  | rng lo hi => obtain ⟨_, _, _, e⟩ := x; exact ⟨_, e⟩
  | frz ob u => obtain ⟨e, _⟩ := x; exact ⟨_, e⟩
  | tbl ps => exact ⟨_, show h.get? a = some _ from x⟩
  | met f y => exact ⟨_, show h.get? a = some _ from x⟩
  | ext φ => obtain ⟨_, e, _⟩ := x; exact e
def InB (B : Heap) (l : List Env) (H : Hp) (h0 h : Heap) : Prop :=
  ∀ b o, h.get? b = some o -> b ∉ frs l -> ((H b).isSome = true ∨ ∃ o0, h0.get? b = some o0) -> B.get? b = some o
section
variable {P : Program} {w : World} {H H' : Hp} {B h0 h h1 : Heap} {l : List Env}
theorem flown_hok (hok : HOk P w H' h) (fr : ∀ b ∈ frs l, H' b = none) (i : InB B l H' h0 h) (st : B.StaysIn h1) : HOk P w H' h1 := fun b o e =>
  (hok b o e).stay (fun c u hc q => by
    have hs : ∃ x, H' c = some x := by
      rcases hc with z | z
      · exact ⟨o, z ▸ e⟩
      · exact ⟨_, z⟩
    obtain ⟨x, hx⟩ := hs
    exact st c u (i c u q (fun m => by rw [fr c m] at hx; cases hx) (.inl (by rw [hx]; rfl)))) (fun _ q => q) (fun _ _ q => q)
theorem flown_un (un : Un (frs l) [] H H' h0 h) (ff : h.FunFrames B l) (i : InB B l H' h0 h) (st : B.StaysIn h1) (up : h.UpToSlots h1) : Un (frs l) [] H H' h0 h1 where
  keep := fun b o q n hb hx => st b o (i b o (un.keep b o q n hb hx) hb (.inr ⟨o, q⟩))
  slot := fun b o q n hb hx => by
    obtain ⟨sl, e⟩ := un.slot b o q n hb hx
    obtain ⟨_, o', e', d⟩ := ff.mem hb
    rw [e] at e'; cases e'
    obtain ⟨sl2, e2⟩ := up b _ e d
    exact ⟨sl2, e2⟩
  free := un.free
  there := fun b o q hx => by
    obtain ⟨o', e⟩ := un.there b o q hx
    by_cases hb : b ∈ frs l
    · obtain ⟨_, o2, e', d⟩ := ff.mem hb
      rw [e] at e'; cases e'
      obtain ⟨sl2, e2⟩ := up b _ e d
      exact ⟨_, e2⟩
    · exact ⟨o', st b o' (i b o' e hb (.inr ⟨o, q⟩))⟩
  tups := un.tups
  frzs := un.frzs
  tbls := un.tbls
theorem flown_in (hok : HOk P w H' h) (un : Un (frs l) [] H H' h0 h) (i : InB B l H' h0 h) (st : B.StaysIn h1) : InB B l H' h0 h1 := fun b o e hb c => by
  have : ∃ u, h.get? b = some u := by
    rcases c with z | ⟨o0, z⟩
    · obtain ⟨x, hx⟩ := Option.isSome_iff_exists.mp z
      exact (hok b x hx).here
    · exact un.there b o0 z (by simp)
  obtain ⟨u, hu⟩ := this
  have q := i b u hu hb c
  have := st b u q
  rw [e] at this; cases this
  exact q
end
def CX1 (P : Program) (w : World) : CXT := fun l H s E e s' =>
  ∃ a cls H' B a0, e = Value.ref a /\ s'.os = s.os /\ AllBare s'.gens /\ Un (frs l) [] H H' s.heap s'.heap /\ HOk P w H' s'.heap /\ Heap.FlyingW B l a cls a0 s'.heap /\ InB B l H' s.heap s'.heap /\ E cls none H'
section
variable {X : Cx} {pins : List (Addr × Obj)} {σ : St} {H H' : Hp} {s s1 : Shared} {B h : Heap} {a : Addr} {cls a0 : Value} {E : XK}
theorem stk_free (I : Inv X pins σ H s) (un : Un (frs X.stack) [] H H' s.heap h) : ∀ b ∈ frs X.stack, H' b = none := fun b hb => by
  obtain ⟨_, o, ho, _⟩ := I.stack.mem hb
  exact un.free b o ho (I.stkFree b hb) (by simp)
theorem leave_end (I : Inv X pins σ H s) (hex : X.ex = []) (os : s1.os = s.os) (bare : AllBare s1.gens) (un : Un (frs X.stack) [] H H' s.heap h) (hok : HOk X.prog X.w H' h) (i : InB B X.stack H' s.heap h) (ff : h.FunFrames B X.stack) (up : h.UpToSlots s1.heap)
    (fl : Heap.FlyingW B X.outer a cls a0 s1.heap) (hE : E cls none H') : CX1 X.prog X.w X.outer X.H₀ X.s₀ E (.ref a) s1 := by
  have un1 := flown_un un ff i fl.1 up
  have hok1 := flown_hok hok (stk_free I un) i fl.1
  have I1 : Inv X pins σ H' s1 := I.call' os un1 hok1 bare (fun b z => absurd z (by simp))
  have bs := I1.base
  rw [hex] at bs
  refine ⟨a, cls, H', B, a0, rfl, I1.os, I1.bare, bs, I1.hok, fl, fun b o e hb c => ?_, hE⟩
  have nL : b ≠ X.env.locals := by
    rcases c with z | ⟨o0, z⟩
    · intro q
      rw [q, I1.free] at z
      cases z
    · exact Nat.ne_of_lt (Nat.lt_of_lt_of_le (Heap.lt_size z) I.ok.above)
  refine flown_in hok un i fl.1 b o e (fun hm => ?_) (c.imp id fun ⟨o0, z⟩ => I.base.there b o0 z (by rw [hex]; simp))
  rcases List.mem_cons.mp (I.stkSub b hm) with z | z
  · exact nL z
  · exact hb z
end
section
variable {P : Program} {w : World} {K : PySem.W.Frag} {mg : Str -> Option Value} {base : Heap} {N : List Str} {qual : Str} {scope : Scope} {f : Addr} {cd : Value} {A : Around} {outer : List Env} {s : Shared} {H : Hp} {E : XK}
theorem passes1 : Passes (CX1 P w) (cxOf (CX1 P w) P w K mg base N qual scope f cd A outer s H E) E := by
  intro pins σ H1 s1 e s' I hc
  obtain ⟨a, cls, H', B, a0, rfl, os, bare, un, hok, fl, i, hE⟩ := hc
  refine wpAny_leaves_onW (base := B) I.ok.frames rfl fl fun h1 fl1 up => ?_
  exact leave_end (s1 := { s' with heap := h1 }) I rfl os bare un hok i fl.2.2.1 up fl1 hE
def Raises (X : Cx) (E : XK) : Prop := ∀ (pins : List (Addr × Obj)) (σ : St) (H : Hp) (s : Shared) (h' : Heap) (e : Addr) (cls : Value) (vs : List Value), Inv X pins σ H s -> Heap.MadeExcOf s.heap h' e cls vs -> E cls none H -> X.xe (.ref e) { s with heap := h' }
theorem raises1 : Raises (cxOf (CX1 P w) P w K mg base N qual scope f cd A outer s H E) E := by
  intro pins σ H1 s1 h' e cls vs I hx hE
  have ff := PySem.W.funFrames_hide (as := frs (cxOf (CX1 P w) P w K mg base N qual scope f cd A outer s H E).stack) I.stack (fun env he b hb => List.mem_filterMap.mpr ⟨env, he, hb⟩)
  refine wpAny_leaves_madeW (base := PySem.W.hideAll s1.heap (frs (cxOf (CX1 P w) P w K mg base N qual scope f cd A outer s H E).stack)) (h := s1.heap) I.ok.frames rfl (fun b o q => PySem.W.of_hideAll _ q) ff hx fun h1 t fl tup nt up => ?_
  exact leave_end (s1 := { s1 with heap := h1 }) I rfl rfl I.bare Un.refl I.hok (fun b o q hb _ => PySem.W.hideAll_get _ q hb) ff ((Heap.UpToSlots.of_keeps hx.keeps).trans up) fl hE
end
section
variable {X : Cx} {x : Str} {C : Addr} {bm : List Value} {B newId initId : String} {np cpos pos : Pos} {e₀ : Expr} {t : TA} {E : XK}
theorem own_of {K : PySem.W.Frag} {h : Heap} {mg : Str -> Option Value} {bmB : List Value} (X : K.In h) (hm : mg x = some (.ref C)) (q : PySem.W.excIn K C bmB newId = true) : OwnCls x C bmB newId mg h := by
  refine ⟨hm, ?_⟩
  unfold PySem.W.excIn at q
  split at q
  · rename_i dd cd sl ho
    split at q
    · rename_i C' bm k0 k1 k2 k3 n k5 hm' hs
      simp only [Bool.and_eq_true, beq_iff_eq, Bool.not_eq_true'] at q
      obtain ⟨⟨⟨⟨⟨rfl, rfl⟩, hdel⟩, ht⟩, hok⟩, hni⟩ := q
      obtain ⟨nm, bs, mro, ns, qn, hd, sn, sub, ab, col, del⟩ := cd
      dsimp only at hm' hdel hok hni
      subst hm' hdel
      have hsl : sl = #[k0, k1, k2, k3, some (.builtin n), k5] := by
        obtain ⟨l⟩ := sl
        simp only at hs
        rw [hs]
      subst hsl
      exact ⟨bm, ns, nm, qn, bs, hd, sn, sub, ab, col, dd, k0, k1, k2, k3, k5, _, X _ _ ho, .of_isNs (PySem.W.isNs_of_in X hok), PySem.W.nsMap_none_of_in X hok hni, PySem.W.tail_of_in X ht⟩
    · cases q
  · cases q
def tRaise (cls : Value) (E : XK) (t : TA) : TS := fun _ σ H => t σ H fun vs H1 => vs.length <= sizeLine /\ E cls none H1
theorem ps_raise (hh : X.calm = true) (R : Raises X E) (hm : X.mg x = some (.ref C)) (qx : PySem.W.excIn X.K C bm newId = true) (FB : ExcBaseFacts B newId initId bm) (hg : Gl X x) (ha : PA X [e₀] t)
    (he : starEach [e₀] X.env = (false, eval e₀ X.env) :: starEach [] X.env := by rfl) (hpl : (backTo cpos (starEach [e₀] X.env)).any (·.1) = false := by rfl) (hd : (x == ("__debug__" : Str)) = false := by decide) :
    PS X (.Raise (some (.Call (.Name x np) [e₀] [] cpos)) none pos) (tRaise (.ref C) E t) := by
  intro pins s σ H D I h
  have O := own_of I.ok.mod.kin hm qx
  obtain ⟨tl, N, nm, q, bs, hdct, sn, sub, ab, col, dd, k0, k1, k2, k3, k5, mN, hC, hN, hni, T⟩ := O.obj
  refine wpAny_Raise_call_subT (C := C) (nm := nm) (q := q) (N := N) (bs := bs) (bm := tl) (hdct := hdct) (sn := sn) (sub := sub) (ab := ab) (col := col) (dd := dd) (k0 := k0) (k1 := k1) (k2 := k2) (k3 := k3) (k5 := k5)
    FB (mN := mN) (T.hasType FB.hasBase) (I.ok.hd hh) hpl hni (ld_glob I hg O.bound ⟨rfl, ?_⟩ hd)
  have ha' := ha cpos pins s σ H _ I h
  rw [he] at ha' ⊢
  refine Calls.evalArgs_plain (wpAny_mono ha' (fun us s₂ ⟨vs, H1, I1, r, z, q⟩ => ⟨rfl, by rw [<- r.length]; exact z, I1.bk _ _ hC, hN.keeps I1.bk, T.keeps I1.bk, fun h' e hm => R pins σ H1 s₂ h' e _ _ I1 hm q⟩) fun _ _ y => y)
end
section
variable {P : Program} {w : World} {K : PySem.W.Frag} {mg : Str -> Option Value} {base : Heap}
theorem Fun.okX {x qual : Str} {st : Stmt} {f : Addr} {fd : FuncData} {N ps : List Str} {k : Nat} {sp : Sp} (F : Fun K x qual st f fd) (S : FnScope N ps (defScope st)) (len : ∀ vs H Q E, sp vs H Q E -> vs.length = ps.length)
    (hbody : ∀ (cdv : Value) (A : Around) (outer : List Env) (s : Shared) (H : Hp) (vs : List V) (Q : VK) (E : XK), Room k (A.deeper (envOfC qual (defScope st) s.heap.objs.size f cdv)) -> sp vs H Q E ->
      ∃ t, PSs (cxOf (CX1 P w) P w K mg base N qual (defScope st) f cdv A outer s H E) (defBody st) t /\ t { nx := fun _ H' => Q .non H', rt := Q } (start N vs) H) : FnOk P w K mg base (CX1 P w) (k + 1) f fd ps sp := by
  obtain ⟨oc, od, kV, doc, pm, an, cdv, ct, osl, rfl, lk, hcd⟩ := F.ex
  refine fn_of lk hcd S len fun A outer s H vs Q E hr hsp => ?_
  obtain ⟨t, h, q⟩ := hbody cdv A outer s H vs Q E hr hsp
  exact ⟨t, h, q⟩
theorem FnOk.up {CX : CXT} {k : Nat} {f : Addr} {fd : FuncData} {ps : List Str} {sp : Sp} (F : FnOk P w K mg base CX0 k f fd ps sp) : FnOk P w K mg base CX k f fd ps sp :=
  ⟨F.len, fun A outer s H args us vs Q E hr he hb hv hs => codeAny_mono (F.run A outer s H args us vs Q E hr he hb hv hs) fun r s' h => by
    cases r with
    | error e => exact h.elim
    | ok fl => cases fl <;> exact h⟩
end
end L2
set_option Elab.async false
set_option linter.all false
set_option maxRecDepth 100000
namespace L2
open PySem PySem.Spec PySem.Calls PyProof.Rows PySem.W Builtin Builtin.ObjectAttr Builtin.Getset_descriptor
structure ExcK (K : PySem.W.Frag) (C : Addr) : Prop where
  cl : (clsIn K C).isSome = true
  ga : findIn K (.ref C) "__getattribute__" = some (some (.builtin "BaseException.__getattribute__"))
  ha : findIn K (.ref C) "__getattr__" = some none
  ca : findIn K (.ref C) "__class__" = some (some (.builtin "object.__class__"))
  gt : specialIn K (.builtin "object.__class__") "__get__" = some (some (.builtin "getset_descriptor.__get__"))
  tk : takesIn K (.builtin "object.__class__") = some true
  mo : mroIn K C (.type "object") = some true
  mb : mroIn K C (.type "BaseException") = some true
section
variable {prog : Program} {w : World} {A : Around} {E : Value -> Shared -> Prop} {s : Shared} {K : PySem.W.Frag} {x C : Addr}
theorem exc_class_get {R : Result -> Shared -> Prop} {tp : Value} (X : K.In s.heap) (L0 : Looks (model prog w) s.heap (typeOf (.ref x)) (.ref C)) (hm : mroIn K C (.type "object") = some true)
    (h : R (.ok (.ret (.ref C))) s) : codeAny (model prog w) A (.call (.builtin "getset_descriptor.__get__") ⟨[.builtin "object.__class__", .ref x, tp], []⟩) R s := by
  obtain ⟨hh, g, dr, t, os⟩ := s
  have L1 := looks_mroIn (M := model prog w) X hm
  refine codeAny_call_builtin KF.slot_gs.plain KF.entry_gs (KF.slot_gs.check _ _ _ _ _ _ _ _ KF.type_class (KF.args_gs _ _ _) ?_)
  unfold Builtin.«getset_descriptor.__get__» descrGet
  rw [dga_obj]
  refine wpAny_bind (wpAny_pure ?_)
  unfold descrGetter descrCheckInstance descrNameAndClass isInstance
  simp only [KF.owner_class]
  repeat lk
  refine ⟨Code.quiet_builtin _ (by decide +kernel), codeAny_builtin KF.entry_class ?_⟩
  unfold Builtin.«object.__class__» shownTypeOf
  repeat lk
  exact h
theorem exc_find {M : Model} {h : Heap} (k : ExcK K C) (X : K.In h) : Looks M h (find (.ref x) (.ref C) "__class__") (.bind (.builtin "getset_descriptor.__get__") (.builtin "object.__class__")) := by
  refine (looks_findIn X k.ca).andThen ((show Looks M h (getOf (some (.builtin "object.__class__"))) _ from looks_specialIn X k.gt).andThen ?_)
  exact (show Looks M h (dataDescriptor? (some _) (some _)) (some (_, _)) from (looks_takesIn X k.tk).andThen .now).andThen (Looks.tag .now)
theorem exc_entry {tk : Tok} {Q : Fin -> Shared -> Prop} (k : ExcK K C) (X : K.In s.heap) (L0 : Looks (model prog w) s.heap (typeOf (.ref x)) (.ref C)) (hq : Q (.done (.ret (.ref C))) s) :
    wpAny (model prog w) A (Builtin.«object.__getattribute__» ⟨[.ref x, .str "__class__" tk], []⟩) Q E s := by
  obtain ⟨hh, g, dr, t, os⟩ := s
  have L1 := exc_find (M := model prog w) (x := x) k X
  unfold Builtin.«object.__getattribute__»
  refine wpAny_bind (wpAny_pure ?_)
  refine wpAny_bind (wpAny_pure ?_)
  refine wpAny_bind (L0.at ?_)
  refine wpAny_bind (L1.at ?_)
  show wpAny _ _ (holding [_] (call _ [_, .ref x, .ref C]) >>= ret) _ _ _
  exact wpAny_bind (wpAny_holding (wpAny_call (exc_class_get X L0 k.mo (wpAny_pure hq))))
theorem exc_class_attr {Q : Option Value -> Shared -> Prop} (k : ExcK K C) (X : K.In s.heap) (L0 : ∀ M, Looks M s.heap (typeOf (.ref x)) (.ref C)) (h : Q (some (.ref C)) { s with toks := s.toks + 1 }) :
    wpAny (model prog w) A (getAttr? (.ref x) "__class__") Q E s := by
  obtain ⟨hh, g, d, t, os⟩ := s
  have L0' := L0 (model prog w)
  have L1 := looks_findIn (M := model prog w) X k.ga
  have L2 := looks_findIn (M := model prog w) X k.ha
  have LB : Looks (model prog w) hh (isInstance (.ref x) (.type "BaseException")) true := L0'.andThen (looks_mroIn X k.mb)
  have hk : builtinKind "BaseException.__getattribute__" = some .slot := by decide +kernel
  have hsplit : splitId "BaseException.__getattribute__" = some ("BaseException", "__getattribute__") := by decide +kernel
  unfold getAttr? getAttrBy? getAttrBy
  refine wpAny_bind (wpAny_mkText (wpAny_bind (wpAny_attempt (wpAny_holding (wpAny_bind (L0'.at (wpAny_bind (L1.at ?_))))))))
  show wpAny _ _ (getAttrByItsOwn _ _ _ _ _ _) _ _ _
  unfold getAttrByItsOwn hookBefore
  refine wpAny_bind (L2.at ?_)
  refine wpAny_bind (wpAny_attempt (wpAny_holding ?_))
  show wpAny _ _ (boundAndCalled _ _ _) _ _ _
  unfold boundAndCalled
  refine wpAny_bind (wpAny_of_eq (PySem.F.attr_ValueError.ga.bind (.ref x)) ?_)
  refine wpAny_call (codeAny_call_builtin PySem.F.attr_ValueError.ga.plain PySem.F.entry_bexc_ga ?_)
  simp only [checkBuiltinCall, hk, hsplit]
  refine wpAny_bind (LB.at ?_)
  have ha := PySem.F.args_bexc_ga (.ref x) (.str "__class__" t)
  have key : ∀ {A' : Around} {E' : Value -> Shared -> Prop} {R : Unit -> Shared -> Prop}, R () ⟨hh, g, d, t + 1, os⟩ -> wpAny (model prog w) A' (match Manifest.signature? "BaseException.__getattribute__" with
      | some sig => Bind.checkArgs "BaseException.__getattribute__" sig { pos := [Value.ref x] ++ [Value.str (Str.ofString "__class__") t] }
      | x => pure ()) R E' ⟨hh, g, d, t + 1, os⟩ := by
    intro A' E' R hR
    have ha' : (match Manifest.signature? "BaseException.__getattribute__" with
      | some sig => Bind.checkArgs "BaseException.__getattribute__" sig { pos := [Value.ref x] ++ [Value.str (Str.ofString "__class__") t] }
      | x => pure ()) = pure () := ha
    rw [ha']
    exact wpAny_pure hR
  rw [if_neg (by decide)]
  refine key ?_
  refine exc_entry (C := C) k X L0' ?_
  exact wpAny_pure (wpAny_pure h)
theorem kitx_exc {a : Addr} (k : ExcK K C) : KitX K (.ref a) (.ref C) (fun h => ∃ o, h.get? a = some o /\ o.cls = .ref C) where
  ty := fun M h _ ⟨o, h1, h2⟩ => h2 ▸ (Looks.ld h1).andThen .now
  it := fun _ _ X _ => by
    obtain ⟨cdD, hcD⟩ := Option.isSome_iff_exists.mp k.cl
    unfold clsIn at hcD
    split at hcD
    · rename_i c' d' cd' sl' ho
      intro A' Q' E' s' kk q
      unfold isType loadHead
      exact wpAny_bind (wpAny_loadPart (kk _ _ (X _ _ ho)) (wpAny_pure q))
    · cases hcD
  ne := fun h tp dd its n sl X htp => by
    obtain ⟨cdD, hcD⟩ := Option.isSome_iff_exists.mp k.cl
    refine Bool.eq_false_iff.mpr fun q => ?_
    have e : C = tp := Value.ref.inj (beq_iff_eq.mp q)
    subst e
    unfold clsIn at hcD
    split at hcD
    · rename_i c' d' cd' sl' ho
      have z := (X _ _ ho).symm.trans htp
      cases z
    · cases hcD
  ca := fun X ⟨o, h1, h2⟩ q => exc_class_attr k X (fun M => h2 ▸ (Looks.ld h1).andThen .now) q
end
section
variable {X : Cx}
def clsV : V -> Option Value
  | .ref C => some (.ref C)
  | .ty T => some (.type T)
  | _ => none
theorem clsV_rel {c : V} {u v : Value} (r : RelV c u) (h : clsV c = some v) : u = v := by
  cases c with
  | ref C => cases h; exact r
  | ty T => cases h; exact r
  | _ => cases h
end
end L2
set_option Elab.async false
set_option linter.all false
set_option maxRecDepth 100000
namespace L2
open PySem PySem.Spec PyProof.Rows
abbrev Cx.inX (X : Cx) (a : Addr) : Cx := { X with A := X.A.mark (some (.ref a)), calm := false }
section
variable {X : Cx} {pins : List (Addr × Obj)} {σ : St} {H : Hp} {s : Shared} {a : Addr}
theorem Cx.Ok.inX (ok : X.Ok) (a : Addr) : (X.inX a).Ok :=
  ⟨ok.mod, ok.kind, ok.glob, ok.blt, ok.above, ok.inj, ok.has, ok.cab, fun z => absurd z (by simp), ok.frames, ok.stk, ok.exf, ok.bs, ok.bsz, ok.noex, ok.exfs, ok.funs, ok.frf⟩
theorem Inv.inX (I : Inv X pins σ H s) (a : Addr) : Inv (X.inX a) pins σ H s := ⟨I.ok.inX a, I.os, I.bare, I.base, I.loc, I.cell, I.free, I.freeC, I.pin, I.hok, I.len⟩
theorem Inv.outX (ok : X.Ok) (I : Inv (X.inX a) pins σ H s) : Inv X pins σ H s := ⟨ok, I.os, I.bare, I.base, I.loc, I.cell, I.free, I.freeC, I.pin, I.hok, I.len⟩
theorem goes_ok {M : Model} {A : Around} {E : Value -> Shared -> Prop} {i : Nat} {n : Str} {pos : Pos} {Q : Unit -> Shared -> Prop} (I : Inv X pins σ H s) (hN : X.N.Nodup) (hi : X.N[i]? = some n) (hl : X.env.scope.names.lookup n = some .local)
    (h : ∀ s', Inv X pins (σ.set i none) H s' -> Q () s') : wpAny M A (do bindName X.env n .none; unbindBehindTheSuite X.env n pos) Q E s := by
  obtain ⟨m, hn, hl'⟩ := id I.loc
  have hcls : (X.env.scope.kind == .class || (X.env.scope.kind == .module && X.env.locals != X.env.globals)) = false := by rw [I.ok.kind]; rfl
  have hiσ : i < σ.length := by rw [I.len]; exact (List.getElem?_eq_some_iff.mp hi).1
  have cne := I.cne
  refine wpAny_nameGoes_keeps hl hn hcls fun h' v hn' hs => ?_
  obtain ⟨oL, _, _, hoL, _⟩ := id hn
  refine h _ ⟨I.ok, I.os, I.bare, ⟨fun b o e n hb hx => ?_, fun b o e n hb hx => ?_, I.base.free, fun b o e hx => ?_, I.base.tups, I.base.frzs, I.base.tbls⟩, ⟨_, hn', fun j y v' e1 e2 e3 => ?_⟩, fun y c e => ?_, I.free, I.freeC, fun p hp => ?_, fun b ob e => ?_, by simpa using I.len⟩
  · exact (hs.2 b (Nat.ne_of_lt (Nat.lt_of_lt_of_le (Heap.lt_size e) I.ok.above))).trans (I.base.keep b o e n hb hx)
  · obtain ⟨sl, e1⟩ := I.base.slot b o e n hb hx
    exact ⟨sl, (hs.2 b (Nat.ne_of_lt (Nat.lt_of_lt_of_le (Heap.lt_size e) I.ok.above))).trans e1⟩
  · obtain ⟨o', e1⟩ := I.base.there b o e hx
    exact ⟨o', (hs.2 b (Nat.ne_of_lt (Nat.lt_of_lt_of_le (Heap.lt_size e) I.ok.above))).trans e1⟩
  · by_cases hj : j = i
    · subst hj
      rw [List.getElem?_set_self hiσ] at e2
      cases e2
    · rw [List.getElem?_set_ne (Ne.symm hj)] at e2
      obtain ⟨u', r', q⟩ := hl' j y v' e1 e2 e3
      refine ⟨u', r', ?_⟩
      rcases q with ⟨k, e⟩ | ⟨k, c, e, z⟩
      · refine .inl ⟨k, ?_⟩
        have : y ≠ n := fun e => hj (nodup_ix hN e1 (e ▸ hi))
        simp [this, e]
      · exact .inr ⟨k, c, e, z.sameBut hs (cne y c e)⟩
  · obtain ⟨w', z⟩ := I.cell y c e
    exact ⟨w', z.sameBut hs (cne y c e)⟩
  · obtain ⟨e, n, ne, nf, d⟩ := I.pin p hp
    exact ⟨(hs.2 p.1 ne).trans e, n, ne, nf, d⟩
  · refine (I.hok b ob e).stay (fun c w' hc q => (hs.2 c ?_).trans q) (fun _ q => q) fun _ _ q => q
    rintro rfl
    rcases hc with z | hc
    · rw [<- z, I.free] at e; cases e
    · rw [I.free] at hc; cases hc
end
section
variable {X : Cx} {st : Stmt} {e c : Expr} {te : XS -> TE} {t u : XS -> TS} {pos : Pos} {a b : List Stmt} {tc : TT}
end
section
variable {X : Cx} {k : Nat} {f C : Addr} {fd : FuncData} {ps : List Str} {sp : Sp} {dvs : List V} {ds : List Value} {ES : XS} {x m : Str} {p pos apos : Pos} {e o : Expr} {es : List Expr} {ta : TE} {t : TA}
end
section
variable {X : Cx} {i : Nat} {x n : Str} {D C : Addr} {np hpos pos : Pos} {b₀ : Stmt} {suite body : List Stmt} {tb : XS -> TS} {ts : TS}
def Ends.gone (D : Ends) (i : Nat) : Ends := { nx := fun σ H => D.nx (σ.set i none) H, rt := D.rt, bk := fun σ H => D.bk (σ.set i none) H, ct := fun σ H => D.ct (σ.set i none) H }
end
end L2
set_option Elab.async false
set_option linter.all false
set_option maxRecDepth 100000
namespace L2
open PySem PySem.Spec PyProof.Rows
def CXH (P : Program) (w : World) (L : Addr) : CXT := fun l H s E e s' =>
  ∃ a cls H' B a0, e = Value.ref a /\ s'.os = s.os /\ AllBare s'.gens /\ Un (frs l) [] H H' s.heap s'.heap /\ HOk P w H' s'.heap /\ Heap.HeldW B l a cls a0 L s'.heap /\ InB B l H' s.heap s'.heap /\ E cls none H'
def XQ (X : Cx) (E : XK) : Value -> Shared -> Prop := fun e s' => ∃ pins σ H s, Inv X pins σ H s /\
  (CX1 X.prog X.w X.stack H s E e s' ∨ CXH X.prog X.w X.env.locals X.stack H s E e s' ∨ ∃ h' a cls vs, e = Value.ref a /\ s' = { s with heap := h' } /\ Heap.MadeExcOf s.heap h' a cls vs /\ E cls none H)
section
variable {M : Model} {A : Around} {E : Value -> Shared -> Prop} {s : Shared}
theorem flight_same {B : Heap} {l : List Env} {e L : Addr} {cls a0 : Value} {Q : Unit -> Shared -> Prop} (hh : Heap.HeldW B l e cls a0 L s.heap)
    (hQ : ∀ h', Heap.HeldW B l e cls a0 L h' -> s.heap.UpToSlots h' -> Q () { s with heap := h' }) : wpAny M A (setFlight (.ref e) (some L)) Q E s := by
  obtain ⟨st, ne, ff, oe, vs, T, oT, ts, he, hc, hd, h1, nT, Te, hT, dT, h3⟩ := hh
  have z3 : 3 < ts.size := (Array.getElem?_eq_some_iff.mp h3).1
  have oth : ∀ b o, s.heap.get? b = some o -> b ≠ T -> (s.heap.update T (Obj.mapFields (·.setIfInBounds 3 (rawInt L)))).get? b = some o := fun b o q n => by
    rw [Heap.get?_update_other _ _ n.symm]
    exact q
  have nrec : ∀ b o, s.heap.get? b = some o -> (∀ us, o.data ≠ .fields us) -> b ≠ T := fun b o q n y => by
    subst y
    rw [hT] at q
    cases q
    exact n ts dT
  unfold setFlight
  refine wpAny_bind (wpAny_field he hd h1 ?_)
  rw [if_pos (by simp)]
  refine wpAny_setField hT dT z3 (hQ _ ⟨fun b o q => ?_, ne, ?_, ?_⟩ ?_)
  · exact oth b o (st b o q) fun y => by
      rw [y, nT] at q
      cases q
  · exact ff.of_keeps fun b o q n => ⟨o, oth b o q (nrec b o q n), rfl⟩
  · refine ⟨oe, vs, T, _, _, oth e oe he Te.symm, hc, hd, h1, nT, Te, Heap.get?_update_self _ hT (Obj.isFreed_of_fields (Obj.data_mapFields dT _)), Obj.data_mapFields dT _, ?_⟩
    simp [z3]
  · exact fun b o q n => ⟨o.slots, oth b o q (nrec b o q n)⟩
theorem back_held {B : Heap} {env : Env} {l : List Env} {e L : Addr} {cls a0 : Value} (hf : env.frame = some L) (hh : Heap.HeldW B l e cls a0 L s.heap)
    (hQ : ∀ h', Heap.HeldW B l e cls a0 L h' -> s.heap.UpToSlots h' -> E (.ref e) { s with heap := h' }) : cameBackBy M A env E (.ref e) s := by
  unfold cameBackBy
  have hh2 := hh
  obtain ⟨st, ne, ff, oe, vs, T, oT, ts, he, hc, hd, h1, nT, Te, hT, dT, h3⟩ := hh
  refine wpAny_bind (wpAny_field he hd h1 ?_)
  rw [if_neg (by simp), hf]
  exact flight_same hh2 fun h' q up => hQ h' q up
end
section
variable {X : Cx} {E : XK}
theorem cxh_up {pins : List (Addr × Obj)} {σ : St} {H H' : Hp} {s s' : Shared} {B h1 : Heap} {a L : Addr} {cls a0 : Value} (I : Inv X pins σ H s) (os : s'.os = s.os) (bare : AllBare s'.gens) (un : Un (frs X.stack) [] H H' s.heap s'.heap) (hok : HOk X.prog X.w H' s'.heap)
    (ff : s'.heap.FunFrames B X.stack) (i : InB B X.stack H' s.heap s'.heap) (hE : E cls none H') (hd : Heap.HeldW B X.stack a cls a0 L h1) (up : s'.heap.UpToSlots h1) : CXH X.prog X.w L X.stack H s E (.ref a) { s' with heap := h1 } :=
  ⟨a, cls, H', B, a0, rfl, os, bare, flown_un un ff i hd.1 up, flown_hok hok (stk_free I un) i hd.1, hd, flown_in hok un i hd.1, hE⟩
theorem passQ (hst : X.stack = X.env :: X.outer) (hfr : X.env.frame = some X.env.locals) : PassesOwn (model X.prog X.w) X.A X.env (XQ X E) := by
  intro e s' h
  obtain ⟨pins, σ, H, s, I, c⟩ := h
  have back : ∀ s2, CXH X.prog X.w X.env.locals X.stack H s E e s2 -> cameBackBy (model X.prog X.w) X.A X.env (XQ X E) e s2 := fun s2 hc => by
    obtain ⟨a, cls, H', B, a0, rfl, os, bare, un, hok, hd, i, hE⟩ := hc
    exact back_held hfr hd fun h' q up => ⟨pins, σ, H, s, I, .inr (.inl (cxh_up I os bare un hok hd.2.2.1 i hE q up))⟩
  unfold notedBy
  have fin : wpAny (model X.prog X.w) X.A (noteFrame e X.env) (fun _ s2 => CXH X.prog X.w X.env.locals X.stack H s E e s2) (cameBackBy (model X.prog X.w) X.A X.env (XQ X E)) s' := by
    rcases c with c | c | ⟨h', a, cls, vs, rfl, rfl, hx, hE⟩
    · obtain ⟨a, cls, H', B, a0, rfl, os, bare, un, hok, fl, i, hE⟩ := c
      refine wpAny_looks_onW (base := B) (by rw [I.ok.frames, hst]) hfr (by rw [<- hst]; exact fl) fun h4 hd up => ?_
      rw [<- hst] at hd
      exact cxh_up I os bare un hok fl.2.2.1 i hE hd up
    · obtain ⟨a, cls, H', B, a0, rfl, os, bare, un, hok, hd, i, hE⟩ := c
      exact wpAny_noteFrame_againW hfr hd.2.2.2 ⟨a, cls, H', B, a0, rfl, os, bare, un, hok, hd, i, hE⟩
    · have ff := PySem.W.funFrames_hide (as := frs X.stack) I.stack (fun env he b hb => List.mem_filterMap.mpr ⟨env, he, hb⟩)
      have hk : (PySem.W.hideAll s.heap (frs X.stack)).StaysIn s.heap := fun b o q => PySem.W.of_hideAll _ q
      obtain ⟨t, he, htn, ht⟩ := hx.there
      have frs0 : ∀ b, s.heap.get? b = none -> (PySem.W.hideAll s.heap (frs X.stack)).get? b = none := fun b hb => by
        cases hq : (PySem.W.hideAll s.heap (frs X.stack)).get? b with
        | none => rfl
        | some o' =>
          have := hk b o' hq
          rw [hb] at this
          cases this
      have ff1 : Heap.FunFrames h' (PySem.W.hideAll s.heap (frs X.stack)) X.stack := ff.of_keeps fun b o hb _ => ⟨o, hx.keeps b o hb, rfl⟩
      unfold noteFrame
      simp only [hfr]
      refine wpAny_bind (wpAny_field he rfl rfl ?_)
      rw [if_neg (by simp)]
      refine wpAny_entryW (base := PySem.W.hideAll s.heap (frs X.stack)) (outer := X.outer) (a0 := .ref t) (by rw [I.ok.frames, hst]) (by rw [<- hst]; exact ff1) hfr he (fun b o q => hx.keeps b o (hk b o q)) (frs0 a hx.new) rfl (by simp) rfl fun h4 nt => ?_
      rw [<- hst] at nt
      obtain ⟨k1, k2, k3, k4⟩ := nt
      have un : Un (frs X.stack) [] H H s.heap h' := Un.kept hx.keeps
      have hok : HOk X.prog X.w H h' := I.hok.kept hx.keeps
      have i : InB (PySem.W.hideAll s.heap (frs X.stack)) X.stack H s.heap h' := fun b o q hb c => by
        rcases c with c | ⟨o0, z⟩
        · obtain ⟨u, hu⟩ := Option.isSome_iff_exists.mp c
          obtain ⟨o1, z⟩ := (I.hok b u hu).here
          have := hx.keeps b o1 z
          rw [q] at this
          cases this
          exact PySem.W.hideAll_get _ z hb
        · have := hx.keeps b o0 z
          rw [q] at this
          cases this
          exact PySem.W.hideAll_get _ z hb
      exact cxh_up (s' := { s with heap := h' }) I rfl I.bare un hok ff1 i hE ⟨k1, frs0 a hx.new, k2, k3⟩ k4
  exact wpAny_mono fin (fun _ s2 q => back s2 q) fun _ _ z => z
end
section
variable {P : Program} {w : World} {K : PySem.W.Frag} {mg : Str -> Option Value} {base : Heap}
abbrev cxQ (P : Program) (w : World) (K : PySem.W.Frag) (mg : Str -> Option Value) (base : Heap) (N : List Str) (qual : Str) (scope : Scope) (f : Addr) (cd : Value) (A : Around) (outer : List Env) (s : Shared) (H : Hp) (E : XK) : Cx :=
  (cxOf (CX1 P w) P w K mg base N qual scope f cd A outer s H E).wish (XQ (cxOf (CX1 P w) P w K mg base N qual scope f cd A outer s H E) E)
section
variable {N : List Str} {qual : Str} {scope : Scope} {f : Addr} {cd : Value} {A : Around} {outer : List Env} {s : Shared} {H : Hp} {E : XK}
theorem ownQ : PassesOwn (model P w) (cxQ P w K mg base N qual scope f cd A outer s H E).A (cxQ P w K mg base N qual scope f cd A outer s H E).env (cxQ P w K mg base N qual scope f cd A outer s H E).xe := passQ (X := cxOf (CX1 P w) P w K mg base N qual scope f cd A outer s H E) rfl rfl
theorem passesQ : Passes (CX1 P w) (cxQ P w K mg base N qual scope f cd A outer s H E) E := fun pins σ H1 s1 e s' I hc => ⟨pins, σ, H1, s1, I.unwish, .inl hc⟩
theorem raisesQ : Raises (cxQ P w K mg base N qual scope f cd A outer s H E) E := fun pins σ H1 s1 h' e cls vs I hx hE => ⟨pins, σ, H1, s1, I.unwish, .inr (.inr ⟨h', e, cls, vs, rfl, rfl, hx, hE⟩)⟩
theorem leaveQ {e : Value} {s' : Shared} (h : XQ (cxOf (CX1 P w) P w K mg base N qual scope f cd A outer s H E) E e s') : (cxOf (CX1 P w) P w K mg base N qual scope f cd A outer s H E).xe e s' := by
  obtain ⟨pins, σ, H1, s1, I, c⟩ := h
  rcases c with c | c | ⟨h', a, cls, vs, rfl, rfl, hx, hE⟩
  · exact passes1 pins σ H1 s1 e s' I c
  · obtain ⟨a, cls, H', B, a0, rfl, os, bare, un, hok, hd, i, hE⟩ := c
    show wpAny _ _ (leaving _ _) _ _ _
    unfold leaving
    refine wpAny_bind (wpAny_noteFrame_againW rfl hd.2.2.2 (wpAny_landsW hd fun h1 fl up => ?_))
    have ff := hd.2.2.1
    obtain ⟨k1, k2, ⟨_, _, k3⟩, k4⟩ := fl
    exact leave_end (s1 := { s' with heap := h1 }) I rfl os bare un hok i ff up ⟨k1, k2, k3, k4⟩ hE
  · exact raises1 pins σ H1 s1 h' a cls vs I hx hE
end
theorem Fun.okQ {x qual : Str} {st : Stmt} {f : Addr} {fd : FuncData} {N ps : List Str} {k : Nat} {sp : Sp} (F : Fun K x qual st f fd) (S : FnScope N ps (defScope st)) (len : ∀ vs H Q E, sp vs H Q E -> vs.length = ps.length)
    (hbody : ∀ (cdv : Value) (A : Around) (outer : List Env) (s : Shared) (H : Hp) (vs : List V) (Q : VK) (E : XK), Room k (A.deeper (envOfC qual (defScope st) s.heap.objs.size f cdv)) -> sp vs H Q E ->
      PassesOwn (model P w) (cxQ P w K mg base N qual (defScope st) f cdv A outer s H E).A (cxQ P w K mg base N qual (defScope st) f cdv A outer s H E).env (cxQ P w K mg base N qual (defScope st) f cdv A outer s H E).xe ->
      Passes (CX1 P w) (cxQ P w K mg base N qual (defScope st) f cdv A outer s H E) E -> Raises (cxQ P w K mg base N qual (defScope st) f cdv A outer s H E) E ->
      ∃ t, PSs (cxQ P w K mg base N qual (defScope st) f cdv A outer s H E) (defBody st) t /\ t { nx := fun _ H' => Q .non H', rt := Q } (start N vs) H) : FnOk P w K mg base (CX1 P w) (k + 1) f fd ps sp :=
  F.okX S len fun cdv A outer s H vs Q E hr hsp => by
    obtain ⟨t, h, q⟩ := hbody cdv A outer s H vs Q E hr hsp ownQ passesQ raisesQ
    exact ⟨t, fun pins s1 σ H1 D I hw => wpAny_mono (h pins s1 σ H1 D (I.wish _) hw) (fun _ _ q => q.unwish) fun _ _ z => leaveQ z, q⟩
end
end L2
set_option Elab.async false
set_option linter.all false
set_option maxRecDepth 100000
namespace L2
open PySem PySem.Spec PySem.Calls PyProof.Rows PySem.W
section
variable {M : Model} {A : Around} {E : Value -> Shared -> Prop} {s : Shared} {base : Heap} {env : Env} {outer : List Env} {L e : Addr} {cls a0 : Value} {Q : Unit -> Shared -> Prop}
def TracedD (h base : Heap) (e : Addr) (cls a0 : Value) (dd : Option Addr) : Prop := ∃ oe vs T oT ts, h.get? e = some oe /\ (oe.cls = cls /\ vs[0]? = some a0) /\ oe.data = Data.fields vs /\ vs[1]? = some (Value.ref T) /\ base.get? T = none /\ T ≠ e /\ h.get? T = some oT /\ oT.data = Data.fields ts /\ ts[3]? = some Value.none /\ oe.dict = dd
def FlyingD (base : Heap) (l : List Env) (e : Addr) (cls a0 : Value) (dd : Option Addr) (h : Heap) : Prop := base.StaysIn h /\ base.get? e = none /\ h.FunFrames base l /\ TracedD h base e cls a0 dd
theorem newEntryD {oe : Obj} {vs : Array Value} {head : Value} {hadNext : Bool} (hfr : A.frames = some (env :: outer)) (hl : s.heap.FunFrames base (env :: outer)) (hf : env.frame = some L) (he : s.heap.get? e = some oe) (hkb : base.StaysIn s.heap) (hen : base.get? e = none) (hd : oe.data = Data.fields vs) (hsz : 1 < vs.size) (h0 : vs[0]? = some a0)
    (h : ∀ h', base.StaysIn h' -> h'.FunFrames base (env :: outer) -> TracedD h' base e oe.cls a0 oe.dict -> s.heap.UpToSlots h' -> Q () { s with heap := h' }) :
    wpAny M A (do
      let a <- PySem.frameOf env
      let pl <- entryPlaceOf L hadNext
      let b <- EntryCells.newEntry head a Value.none (rawInt L) Value.none pl
      setField (Value.ref e) 1 b) (fun _ s' => wpAny M A (setFlight (Value.ref e) none) Q E s') E s := by
  have hene : e ∉ List.filterMap (fun x => x.frame) (env :: outer) := fun hm => by
    obtain ⟨_, o, ho, hnf⟩ := Heap.FunFrames.mem hl hm
    rw [he] at ho
    cases ho
    exact hnf vs hd
  refine wpAny_bind (wpAny_frameOf_fun hfr hl hf fun h₁ hs₁ => wpAny_bind (wpAny_entryPlaceOf fun pl hpl => ?_))
  unfold EntryCells.newEntry newFields
  have hsz1 : h₁.objs.size = s.heap.objs.size := hs₁.1
  have he₁ := (hs₁.right.left e hene).trans he
  have hlt : ∀ b o, s.heap.get? b = some o -> b ≠ h₁.objs.size := fun b o q => Nat.ne_of_lt (by rw [hsz1]; exact Heap.lt_size q)
  have hbn : base.get? h₁.objs.size = none := by
    cases q : base.get? h₁.objs.size with
    | none => rfl
    | some o => exact absurd rfl (hlt _ o (hkb _ o q))
  have hbase : ∀ b o, base.get? b = some o -> h₁.get? b = some o := fun b o q => (hs₁.right.left b (fun hm => by
    have := (Heap.FunFrames.mem hl hm).1
    rw [q] at this
    cases this)).trans (hkb b o q)
  obtain ⟨tbs, htb, ht3⟩ : ∃ tbs : Array Value, ([head, Value.ref L, Value.none, rawInt ↑L, Value.none] ++ if pl.isEmpty = true then List.replicate 6 Value.none else pl).toArray = tbs /\ 3 < tbs.size := ⟨_, rfl, by simp⟩
  have hts : tbs.size <= sizeLine + 2 := by
    rw [<- htb]
    rcases hpl with rfl | ⟨a, b, c, d, c9, b10, _, rfl⟩
    · show 11 <= sizeLine + 2
      decide
    · show 11 <= sizeLine + 2
      decide
  refine wpAny_bind (wpAny_newObj_type ?_ (by rw [htb]; exact hts))
  rw [htb]
  have he₂ : (h₁.push { cls := Value.type "traceback", data := Data.fields tbs }).get? e = some oe := Heap.get?_push_of_some _ he₁
  have hn₂ : (h₁.push { cls := Value.type "traceback", data := Data.fields tbs }).get? h₁.objs.size = some { cls := Value.type "traceback", data := Data.fields tbs } := Heap.get?_push_size h₁ rfl
  have hTe : h₁.objs.size ≠ e := (hlt e oe he).symm
  refine wpAny_setField he₂ hd hsz ?_
  have hd₃ := Obj.data_mapFields hd fun x => x.setIfInBounds 1 (Value.ref h₁.objs.size)
  have he₃ := Heap.get?_update_self (Obj.mapFields fun x => x.setIfInBounds 1 (Value.ref h₁.objs.size)) he₂ (Obj.isFreed_of_fields hd₃)
  have hn₃ := (Heap.get?_update_other (h₁.push { cls := Value.type "traceback", data := Data.fields tbs }) (Obj.mapFields fun x => x.setIfInBounds 1 (Value.ref h₁.objs.size)) hTe.symm).trans hn₂
  unfold setFlight
  refine wpAny_bind (wpAny_field (x := .ref h₁.objs.size) he₃ hd₃ (by simp [hsz]) ?_)
  rw [if_pos (by simp)]
  refine wpAny_setField hn₃ rfl ht3 ?_
  have hd₄ := Obj.data_mapFields (o := { cls := Value.type "traceback", data := Data.fields tbs }) rfl fun x => x.setIfInBounds 3 Value.none
  have hn₄ := Heap.get?_update_self (Obj.mapFields fun x => x.setIfInBounds 3 Value.none) hn₃ (Obj.isFreed_of_fields hd₄)
  have he₄ := (Heap.get?_update_other ((h₁.push { cls := Value.type "traceback", data := Data.fields tbs }).update e (Obj.mapFields fun x => x.setIfInBounds 1 (Value.ref h₁.objs.size))) (Obj.mapFields fun x => x.setIfInBounds 3 Value.none) hTe).trans he₃
  have oth : ∀ b o, b ≠ e -> b ≠ h₁.objs.size -> h₁.get? b = some o -> (((h₁.push { cls := Value.type "traceback", data := Data.fields tbs }).update e (Obj.mapFields fun x => x.setIfInBounds 1 (Value.ref h₁.objs.size))).update h₁.objs.size (Obj.mapFields fun x => x.setIfInBounds 3 Value.none)).get? b = some o := fun b o n1 n2 q =>
    (Heap.get?_update_other _ _ n2.symm).trans ((Heap.get?_update_other _ _ n1.symm).trans (Heap.get?_push_of_some _ q))
  have hec : ((Obj.mapFields fun x => x.setIfInBounds 1 (Value.ref h₁.objs.size)) oe).cls = oe.cls /\ ((Obj.mapFields fun x => x.setIfInBounds 1 (Value.ref h₁.objs.size)) oe).dict = oe.dict := by
    obtain ⟨c, dt, da, sl⟩ := oe
    have : da = Data.fields vs := hd
    subst this
    exact ⟨rfl, rfl⟩
  have ups : ∀ b o, s.heap.get? b = some o -> (∀ vs, o.data ≠ Data.fields vs) -> ∃ sl, (((h₁.push { cls := Value.type "traceback", data := Data.fields tbs }).update e (Obj.mapFields fun x => x.setIfInBounds 1 (Value.ref h₁.objs.size))).update h₁.objs.size (Obj.mapFields fun x => x.setIfInBounds 3 Value.none)).get? b = some { cls := o.cls, dict := o.dict, data := o.data, slots := sl } := fun b o q nf => by
    obtain ⟨sl, q1⟩ := hs₁.right.right b o q
    refine ⟨sl, oth b _ (fun z => ?_) (hlt b o q) q1⟩
    subst z
    rw [he] at q
    cases q
    exact nf vs hd
  refine h _ (fun b o q => oth b o (fun z => ?_) (fun z => ?_) (hbase b o q)) (Heap.FunFrames.of_keeps (fun b o q nf => ?_) hl) ⟨_, _, h₁.objs.size, _, _, he₄, ⟨hec.1, ?_⟩, hd₃, ?_, hbn, hTe, hn₄, hd₄, ?_, hec.2⟩ ups
  · subst z
    rw [hen] at q
    cases q
  · subst z
    rw [hbn] at q
    cases q
  · obtain ⟨sl, q1⟩ := ups b o q nf
    exact ⟨_, q1, rfl⟩
  · rw [Array.getElem?_setIfInBounds]
    simpa using h0
  · simp [hsz]
  · simp [ht3]
theorem FlyingD.obj {dd : Option Addr} {l : List Env} {h : Heap} (f : FlyingD base l e cls a0 dd h) : ∃ oe vs, h.get? e = some oe /\ oe.cls = cls /\ oe.data = Data.fields vs /\ oe.dict = dd := by
  obtain ⟨f1, f2, f3, oe, vs, T, oT, ts, h1, h2, h3, h4, h5, h6, h7, h8, h9, h10⟩ := f
  exact ⟨oe, vs, h1, h2.1, h3, h10⟩
theorem FlyingD.less {dd : Option Addr} {h : Heap} (f : FlyingD base (env :: outer) e cls a0 dd h) : FlyingD base outer e cls a0 dd h := ⟨f.1, f.2.1, f.2.2.1.2.2, f.2.2.2⟩
theorem looks_landsD {dd : Option Addr} (hfr : A.frames = some (env :: outer)) (hf : env.frame = some L) (hfl : FlyingD base (env :: outer) e cls a0 dd s.heap)
    (hQ : ∀ h', FlyingD base (env :: outer) e cls a0 dd h' -> s.heap.UpToSlots h' -> Q () { s with heap := h' }) : wpAny M A (noteFrame (Value.ref e) env) (fun _ s₂ => wpAny M A (setFlight (Value.ref e) none) Q E s₂) E s := by
  obtain ⟨f1, f2, f3, oe, vs, T, oT, ts, he, ⟨hc, h0⟩, hd, h1, hnT, hTe, hT, hdT, h3, hdd⟩ := hfl
  unfold noteFrame
  rw [hf]
  dsimp only
  refine wpAny_bind (wpAny_field he hd h1 ?_)
  rw [if_pos (by simp)]
  refine wpAny_bind (wpAny_field hT hdT h3 ?_)
  rw [if_neg (by simp [rawInt])]
  refine wpAny_bind (wpAny_setField hT hdT (Array.getElem?_eq_some_iff.mp h3).1 ?_)
  have other : ∀ b, b ≠ T -> (s.heap.update T (Obj.mapFields fun x => x.setIfInBounds 3 Value.none)).get? b = s.heap.get? b := fun b hb => Heap.get?_update_other _ _ hb.symm
  have nrec : ∀ b o, s.heap.get? b = some o -> (∀ vs, o.data ≠ Data.fields vs) -> b ≠ T := fun b o q nf z => by
    subst z
    rw [hT] at q
    cases q
    exact nf ts hdT
  refine newEntryD (base := base) (s := { s with heap := s.heap.update T (Obj.mapFields fun x => x.setIfInBounds 3 Value.none) }) hfr (Heap.FunFrames.of_keeps (fun b o q nf => ⟨o, (other b (nrec b o q nf)).trans q, rfl⟩) f3) hf ((other e hTe.symm).trans he) (fun b o q => (other b (fun z => ?_)).trans (f1 b o q)) f2 hd (Array.getElem?_eq_some_iff.mp h1).1 h0 fun h' g1 g2 g3 g4 => ?_
  · subst z
    rw [hnT] at q
    cases q
  · refine hQ h' ⟨g1, f2, g2, ?_⟩ fun b o q nf => g4 b o ((other b (nrec b o q nf)).trans q) nf
    rw [hc, hdd] at g3
    exact g3
theorem leaves_onD {dd : Option Addr} (hfr : A.frames = some (env :: outer)) (hf : env.frame = some L) (hfl : FlyingD base (env :: outer) e cls a0 dd s.heap)
    (hQ : ∀ h', FlyingD base outer e cls a0 dd h' -> s.heap.UpToSlots h' -> Q () { s with heap := h' }) : wpAny M A (leaving env (Value.ref e)) Q E s := by
  unfold leaving
  exact wpAny_bind (looks_landsD hfr hf hfl fun h' f u => hQ h' f.less u)
theorem lands_againD {dd : Option Addr} {l : List Env} (hfl : FlyingD base l e cls a0 dd s.heap) (hQ : ∀ h', FlyingD base l e cls a0 dd h' -> s.heap.UpToSlots h' -> Q () { s with heap := h' }) : wpAny M A (setFlight (Value.ref e) none) Q E s := by
  obtain ⟨f1, f2, f3, oe, vs, T, oT, ts, he, ⟨hc, h0⟩, hd, h1, hnT, hTe, hT, hdT, h3, hdd⟩ := hfl
  unfold setFlight
  refine wpAny_bind (wpAny_field he hd h1 ?_)
  rw [if_pos (by simp)]
  refine wpAny_setField hT hdT (Array.getElem?_eq_some_iff.mp h3).1 ?_
  have other : ∀ b, b ≠ T -> (s.heap.update T (Obj.mapFields fun x => x.setIfInBounds 3 Value.none)).get? b = s.heap.get? b := fun b hb => Heap.get?_update_other _ _ hb.symm
  have nrec : ∀ b o, s.heap.get? b = some o -> (∀ vs, o.data ≠ Data.fields vs) -> b ≠ T := fun b o q nf z => by
    subst z
    rw [hT] at q
    cases q
    exact nf ts hdT
  have hd4 := Obj.data_mapFields hdT fun x => x.setIfInBounds 3 Value.none
  have hT4 := Heap.get?_update_self (Obj.mapFields fun x => x.setIfInBounds 3 Value.none) hT (Obj.isFreed_of_fields hd4)
  refine hQ _ ⟨fun b o q => (other b (fun z => ?_)).trans (f1 b o q), f2, Heap.FunFrames.of_keeps (fun b o q nf => ⟨o, (other b (nrec b o q nf)).trans q, rfl⟩) f3, oe, vs, T, _, _, (other e hTe.symm).trans he, ⟨hc, h0⟩, hd, h1, hnT, hTe, hT4, hd4, ?_, hdd⟩ fun b o q nf => ⟨o.slots, (other b (nrec b o q nf)).trans q⟩
  · subst z
    rw [hnT] at q
    cases q
  · have := (Array.getElem?_eq_some_iff.mp h3).1
    simp [this]
theorem leaves_firstD {dd : Option Addr} {oe : Obj} {vs : Array Value} (hfr : A.frames = some (env :: outer)) (hf : env.frame = some L) (st : base.StaysIn s.heap) (ff : s.heap.FunFrames base (env :: outer)) (hen : base.get? e = none) (he : s.heap.get? e = some oe) (hc : oe.cls = cls) (hdd : oe.dict = dd) (hd : oe.data = Data.fields vs) (h0 : vs[0]? = some a0) (h1 : vs[1]? = some Value.none)
    (hQ : ∀ h', FlyingD base outer e cls a0 dd h' -> s.heap.UpToSlots h' -> Q () { s with heap := h' }) : wpAny M A (leaving env (Value.ref e)) Q E s := by
  unfold leaving noteFrame
  rw [hf]
  dsimp only
  refine wpAny_bind (wpAny_bind (wpAny_field he hd h1 ?_))
  rw [if_neg (by simp)]
  refine newEntryD (base := base) hfr ff hf he st hen hd (Array.getElem?_eq_some_iff.mp h1).1 h0 fun h' g1 g2 g3 g4 => ?_
  refine hQ h' ⟨g1, hen, g2.2.2, ?_⟩ g4
  rw [hc, hdd] at g3
  exact g3
end
end L2
set_option Elab.async false
set_option linter.all false
set_option maxRecDepth 100000
namespace L2
open PySem PySem.Spec PySem.Calls PyProof.Rows PySem.W
section
variable {prog : Program} {w : World} {A : Around} {E : Value -> Shared -> Prop} {h : Heap} {g : Array GenState} {d : Drawn} {t : Nat} {os : OsState} {nm q : Str} {C N f : Addr} {bs bm bmB : List Value} {hdct : Bool} {sn : List Str} {sub : List Value} {ab : Bool} {col : Option Bool} {dd : Option Addr} {k0 k1 k2 k3 k5 : Option Value} {B newId initId : String} {K : PySem.W.Frag} {rest : List Value}
end
end L2
set_option Elab.async false
set_option linter.all false
set_option maxRecDepth 100000
namespace L2
open PySem PySem.Spec PySem.Calls PyProof.Rows PySem.W Builtin Builtin.ObjectAttr
def excMro (C CE : Addr) : List Value := [.ref C, .ref CE, .type "ValueError", .type "Exception", .type "BaseException", .type "object"]
section
variable {prog : Program} {w : World} {A : Around} {E : Value -> Shared -> Prop} {s : Shared} {K : PySem.W.Frag} {x C CE : Addr} {ox : Obj} {od : Option Obj} {name : Str} {tk : Tok} {v : Value} {cd : ClassData}
end
end L2
set_option Elab.async false
set_option linter.all false
set_option maxRecDepth 100000
namespace L2
open PySem PySem.Spec PySem.Calls PyProof.Rows PySem.W
section
variable {M : Model} {A : Around} {E : Value -> Shared -> Prop} {s : Shared} {env : Env} {nm q : Str} {C N : Addr} {bs bm : List Value} {hdct : Bool} {sn : List Str} {sub : List Value} {ab : Bool} {col : Option Bool} {dd : Option Addr} {k0 k1 k2 k3 k5 : Option Value} {newId : String}
end
end L2
set_option Elab.async false
set_option linter.all false
set_option maxRecDepth 100000
namespace L2
open PySem PySem.Spec PySem.Calls PyProof.Rows PySem.W
def excInO (K : PySem.W.Frag) (C : Addr) (bmB : List Value) (newId : String) : Bool :=
  match K.lookup C with
  | some ⟨.type "type", _, .cls cd, sl⟩ =>
    match cd.mro, sl.toList with
    | .ref C' :: bm, [_, _, _, _, some (.builtin n), _] => C' == C && n == newId && !cd.hasDel && tailIn K bmB bm && nsOkIn K cd.ns
    | _, _ => false
  | _ => false
def clsO (K : PySem.W.Frag) (C CE : Addr) : Bool :=
  match clsIn K C with
  | some cd => cd.mro == excMro C CE && cd.hasDict
  | none => false
structure ExO (K : PySem.W.Frag) (C CE : Addr) : Prop where
  kx : ExcK K C
  ex : excInO K C bmV "ValueError.__new__" = true
  es : findIn K (.ref C) "__setattr__" = some (some (.builtin "object.__setattr__"))
  cl : clsO K C CE = true
structure ExF (K : PySem.W.Frag) (C : Addr) (f : Str) : Prop where
  tk : takerIn K C f = some none
  fd : findIn K (.ref C) f = some none
structure ExB (K : PySem.W.Frag) (CE : Addr) : Prop where
  sp : specialIn K (.ref CE) "__getattribute__" = some (some (.builtin "type.__getattribute__"))
  rd : readsIn K CE (.type "type") = true
  fc : findCls K (.ref CE) (.type "type") "__init__" = some (.val (.builtin "ValueError.__init__"))
def exn (e C a0 : Addr) (dd : Option Addr) : HO := .ext fun h => ∃ o, h.get? e = some o /\ o.cls = .ref C /\ o.dict = dd /\ o.data = .fields #[.ref a0, .none, .none, .none, .bool false, .none]
def exq (e C : Addr) (dd : Option Addr) : HO := .ext fun h => ∃ o vs, h.get? e = some o /\ o.cls = .ref C /\ o.dict = dd /\ o.data = .fields vs
section
variable {P : Program} {w : World} {H : Hp} {h : Heap} {e C a0 d : Addr} {dd : Option Addr} {fs : List (Str × V)}
theorem exq_ok {o : Obj} {vs : Array Value} (h1 : h.get? e = some o) (h2 : o.cls = .ref C) (h3 : o.dict = dd) (h4 : o.data = .fields vs) : ObjOk P w H h e (exq e C dd) := ⟨⟨o, vs, h1, h2, h3, h4⟩, ⟨o, h1⟩, fun _ _ ⟨u, vs, q, r⟩ k => ⟨u, vs, k u q, r⟩⟩
end
section
variable {X : Cx} {C CE : Addr} {x f : Str} {p apos pos pos' : Pos} {o e value : Expr} {es : List Expr} {ta tv : TE} {t : TA}
end
end L2
set_option Elab.async false
set_option linter.all false
set_option maxRecDepth 100000
namespace L2
open PySem PySem.Spec PySem.Calls PyProof.Rows PySem.W
def CX2 (P : Program) (w : World) : CXT := fun l H s E e s' =>
  ∃ a cls H' B a0 dd, e = Value.ref a /\ s'.os = s.os /\ AllBare s'.gens /\ Un (frs l) [] H H' s.heap s'.heap /\ HOk P w H' s'.heap /\ FlyingD B l a cls a0 dd s'.heap /\ InB B l H' s.heap s'.heap /\ E cls dd H'
section
variable {X : Cx} {pins : List (Addr × Obj)} {σ : St} {H H' : Hp} {s s1 : Shared} {B h : Heap} {a : Addr} {cls a0 : Value} {dd : Option Addr} {E : XK}
theorem leave_endD (I : Inv X pins σ H s) (hex : X.ex = []) (os : s1.os = s.os) (bare : AllBare s1.gens) (un : Un (frs X.stack) [] H H' s.heap h) (hok : HOk X.prog X.w H' h) (i : InB B X.stack H' s.heap h) (ff : h.FunFrames B X.stack) (up : h.UpToSlots s1.heap)
    (fl : FlyingD B X.outer a cls a0 dd s1.heap) (hE : E cls dd H') : CX2 X.prog X.w X.outer X.H₀ X.s₀ E (.ref a) s1 := by
  have un1 := flown_un un ff i fl.1 up
  have hok1 := flown_hok hok (stk_free I un) i fl.1
  have I1 : Inv X pins σ H' s1 := I.call' os un1 hok1 bare (fun b z => absurd z (by simp))
  have bs := I1.base
  rw [hex] at bs
  refine ⟨a, cls, H', B, a0, dd, rfl, I1.os, I1.bare, bs, I1.hok, fl, fun b o e hb c => ?_, hE⟩
  have nL : b ≠ X.env.locals := by
    rcases c with z | ⟨o0, z⟩
    · intro q
      rw [q, I1.free] at z
      cases z
    · exact Nat.ne_of_lt (Nat.lt_of_lt_of_le (Heap.lt_size z) I.ok.above)
  refine flown_in hok un i fl.1 b o e (fun hm => ?_) (c.imp id fun ⟨o0, z⟩ => I.base.there b o0 z (by rw [hex]; simp))
  rcases List.mem_cons.mp (I.stkSub b hm) with z | z
  · exact nL z
  · exact hb z
def dropH (H : Hp) (e : Addr) : Hp := fun b => if b = e then none else H b
theorem dropH_same {e : Addr} : dropH H e e = none := by unfold dropH; rw [if_pos rfl]
theorem dropH_ne {e b : Addr} (n : b ≠ e) : dropH H e b = H b := by unfold dropH; rw [if_neg n]
theorem leave_own {e C a1 : Addr} (I : Inv X pins σ H s) (hex : X.ex = []) (hfs : X.fs = frs X.outer) (hst : X.stack = X.env :: X.outer) (he : H e = some (exn e C a1 dd)) (hnew : X.s₀.heap.objs.size <= e) (os : s1.os = s.os) (bare : AllBare s1.gens) (hB : B = PySem.W.hideAll s.heap (e :: frs X.stack)) (up : s.heap.UpToSlots s1.heap)
    (fl : FlyingD B X.outer e (.ref C) a0 dd s1.heap) (hE : E (.ref C) dd (dropH H e)) : CX2 X.prog X.w X.outer X.H₀ X.s₀ E (.ref e) s1 := by
  have nd : ∀ {b : Addr} {u : HO}, H b = some u -> u ≠ exn e C a1 dd -> dropH H e b = some u := fun q n => by rw [dropH_ne (ne_of q he n)]; exact q
  have bs := I.base
  rw [hex, hfs] at bs
  have un : Un (frs X.outer) [] X.H₀ (dropH H e) X.s₀.heap s.heap := ⟨bs.keep, bs.slot, fun b o q n z => by
      by_cases y : b = e
      · rw [y]; exact dropH_same
      · rw [dropH_ne y]; exact bs.free b o q n z, bs.there, fun b xs q => nd (bs.tups b xs q) (by intro z; cases z), fun b o u q => nd (bs.frzs b o u q) (by intro z; cases z), fun b p q => by
      obtain ⟨more, z⟩ := bs.tbls b p q
      exact ⟨more, nd z (by intro z; cases z)⟩⟩
  have hok : HOk X.prog X.w (dropH H e) s.heap := fun b u q => by
    have y : b ≠ e := fun y => by rw [y, dropH_same] at q; cases q
    rw [dropH_ne y] at q
    exact (I.hok b u q).stay (fun _ _ _ z => z) (fun c z => nd z (by intro z; cases z)) fun c xs z => nd z (by intro z; cases z)
  have fso : ∀ b ∈ frs X.outer, dropH H e b = none := fun b hb => by
    by_cases y : b = e
    · rw [y]; exact dropH_same
    · rw [dropH_ne y]
      refine I.stkFree b ?_
      rw [hst]
      obtain ⟨v, hv, e⟩ := List.mem_filterMap.mp hb
      exact List.mem_filterMap.mpr ⟨v, List.mem_cons_of_mem _ hv, e⟩
  have i : InB B X.outer (dropH H e) X.s₀.heap s.heap := fun b o q hb c => by
    rw [hB]
    have nL : b ≠ X.env.locals := by
      rcases c with z | ⟨o0, z⟩
      · intro y
        by_cases ye : b = e
        · rw [ye, dropH_same] at z; cases z
        · rw [dropH_ne ye, y, I.free] at z
          cases z
      · exact Nat.ne_of_lt (Nat.lt_of_lt_of_le (Heap.lt_size z) I.ok.above)
    have ne : b ≠ e := by
      rcases c with z | ⟨o0, z⟩
      · intro y
        rw [y, dropH_same] at z
        cases z
      · exact Nat.ne_of_lt (Nat.lt_of_lt_of_le (Heap.lt_size z) hnew)
    refine PySem.W.hideAll_get _ q fun hm => ?_
    rcases List.mem_cons.mp hm with z | hm
    · exact ne z
    · rcases List.mem_cons.mp (I.stkSub b hm) with z | z
      · exact nL z
      · exact hb (hfs ▸ z)
  have ff : s.heap.FunFrames B X.outer := by
    have z := PySem.W.funFrames_hide (as := e :: frs X.stack) I.stack (fun env he b hb => List.mem_cons_of_mem _ (List.mem_filterMap.mpr ⟨env, he, hb⟩))
    rw [<- hB, hst] at z
    exact z.2.2
  exact ⟨e, _, _, B, a0, dd, rfl, os.trans I.os, bare, flown_un un ff i fl.1 up, flown_hok hok fso i fl.1, fl, flown_in hok un i fl.1, hE⟩
end
section
variable {P : Program} {w : World} {K : PySem.W.Frag} {mg : Str -> Option Value} {base : Heap} {N : List Str} {qual : Str} {scope : Scope} {f : Addr} {cd : Value} {A : Around} {outer : List Env} {s : Shared} {H : Hp} {E : XK}
theorem passes2 : Passes (CX2 P w) (cxOf (CX2 P w) P w K mg base N qual scope f cd A outer s H E) E := by
  intro pins σ H1 s1 e s' I hc
  obtain ⟨a, cls, H', B, a0, dd, rfl, os, bare, un, hok, fl, i, hE⟩ := hc
  refine leaves_onD (base := B) I.ok.frames rfl fl fun h1 fl1 up => ?_
  exact leave_endD (s1 := { s' with heap := h1 }) I rfl os bare un hok i fl.2.2.1 up fl1 hE
def RaisesO (X : Cx) (E : XK) : Prop := ∀ (pins : List (Addr × Obj)) (σ : St) (H : Hp) (s : Shared) (e C a1 : Addr) (dd : Option Addr), Inv X pins σ H s -> H e = some (exn e C a1 dd) -> X.s₀.heap.objs.size <= e -> E (.ref C) dd (dropH H e) -> X.xe (.ref e) s
theorem raisesO : RaisesO (cxOf (CX2 P w) P w K mg base N qual scope f cd A outer s H E) E := by
  intro pins σ H1 s1 e C a1 dd I he hnew hE
  obtain ⟨oe, h1, h2, h3, h4⟩ := (I.hok e _ he).1
  have ff := PySem.W.funFrames_hide (as := e :: frs (cxOf (CX2 P w) P w K mg base N qual scope f cd A outer s H E).stack) I.stack (fun env he b hb => List.mem_cons_of_mem _ (List.mem_filterMap.mpr ⟨env, he, hb⟩))
  refine leaves_firstD (base := PySem.W.hideAll s1.heap (e :: frs (cxOf (CX2 P w) P w K mg base N qual scope f cd A outer s H E).stack)) I.ok.frames rfl (fun b o q => PySem.W.of_hideAll _ q) ff ?_ h1 h2 h3 h4 rfl rfl fun h' fl up => ?_
  · exact PySem.W.hideAll_none _ List.mem_cons_self
  · exact leave_own (s1 := { s1 with heap := h' }) I rfl rfl rfl he hnew rfl I.bare rfl up fl hE
end
section
variable {X : Cx} {x : Str} {C f : Addr} {fd : FuncData} {ps : List Str} {sp : Sp} {k : Nat} {np cpos pos : Pos} {e : Expr} {es : List Expr} {t : TA} {E : XK}
end
end L2
set_option Elab.async false
set_option linter.all false
set_option maxRecDepth 100000
namespace L2
open PySem PySem.Spec PySem.Calls PyProof.Rows PySem.W
section
variable {X : Cx} {i : Nat} {x n : Str} {D C : Addr} {np hpos pos : Pos} {b₀ : Stmt} {suite body : List Stmt} {tb : XK -> TS} {ts : TS} {rest : List ExceptHandler}
def XE (X : Cx) (i : Nat) (C : Addr) (ts : TS) (R : Ends) : XK := fun cls dd H' => cls = .ref C /\ ∀ (σ : St) (a : Addr), σ.length = X.N.length -> H' a = none -> ts (R.gone i) (σ.set i (some (.ref a))) (upd H' a (exq a C dd))
theorem caught_ok2 {pins : List (Addr × Obj)} {σ : St} {H : Hp} {s s' : Shared} {e : Value} {R : Ends} (hN : X.N.Nodup) (hi : X.N[i]? = some n) (hl : X.env.scope.names.lookup n = some .local) (hst : X.stack = X.env :: X.outer) (hfr : X.env.frame = some X.env.locals)
    (hg : Gl X x) (hm : X.mg x = some (.ref D)) (hx : PySem.W.exmOne X.K (.ref C) (.ref D) = some true) (hs : ∀ a, PSs (X.inX a).nox (b₀ :: suite) ts) (I : Inv X pins σ H s)
    (hc : CX2 X.prog X.w X.stack H s (XE X i C ts R) e s') (hd : (x == ("__debug__" : Str)) = false := by decide) :
    wpAny (model X.prog X.w) X.A (noteFrame e X.env) (fun _ s₂ => wpAny (model X.prog X.w) X.A (setFlight e none) (fun _ s₃ =>
      wpAny (model X.prog X.w) X.A (handleBy e X.env (.ExceptHandler (some (.Name x np)) (some n) (b₀ :: suite) hpos :: rest)) (SP X pins R) X.xe s₃) X.xe s₂) X.xe s' := by
  obtain ⟨a, cls, H', B, a0, dd, rfl, os, bare, un, hok, fl, i', rfl, hE⟩ := hc
  have fr := stk_free I un
  have ff := fl.2.2.1
  refine looks_landsD (base := B) (by rw [I.ok.frames, hst]) hfr (by rw [<- hst]; exact fl) fun h₅ fl5 up45 => ?_
  rw [<- hst] at fl5
  have un5 := flown_un un ff i' fl5.1 up45
  have hok5 := flown_hok hok fr i' fl5.1
  have in5 := flown_in hok un i' fl5.1
  have I5 : Inv X pins σ H' { s' with heap := h₅ } := I.call' (s' := { s' with heap := h₅ }) os un5 hok5 bare (fun b z => absurd z (by simp))
  have J5 := I5.inX a
  obtain ⟨oe, vs5, he5, hce, _⟩ := fl5.obj
  refine wpAny_handleBy_cons (codeAny_handlers_test (ld_glob (X := X.inX a) J5 hg hm ?_ hd)) (by intro q; cases q)
  refine (PySem.W.exm_one (K := X.K) J5.kIn (by subst_eqs; exact hce ▸ (PySem.W.Looks.ld he5).andThen .now) hx).at ?_
  refine codeAny_handlers_suite_as ?_
  refine lands_againD (base := B) (by exact fl5) fun h₆ fl6 up6 => ?_
  have ff5 := fl5.2.2.1
  have un6 := flown_un un5 ff5 in5 fl6.1 up6
  have hok6 := flown_hok hok5 fr in5 fl6.1
  have in6 := flown_in hok5 un5 in5 fl6.1
  have I6 : Inv X pins σ H' { s' with heap := h₆ } := I.call' (s' := { s' with heap := h₆ }) os un6 hok6 bare (fun b z => absurd z (by simp))
  obtain ⟨ox, vs, hx6, hcx, hdx, hddx⟩ := fl6.obj
  have nfr : a ∉ frs X.stack := fun hm => by
    obtain ⟨_, o, ho, d⟩ := fl6.2.2.1.mem hm
    have ho : h₆.get? a = some o := ho
    rw [hx6] at ho; cases ho
    exact d _ hdx
  have nB : B.get? a = none := fl6.2.1
  have nH : H' a = none := by
    cases q : H' a with
    | none => rfl
    | some u =>
      have z := in6 a ox hx6 nfr (.inl (by rw [q]; rfl))
      rw [nB] at z; cases z
  have nS : s.heap.get? a = none := by
    cases q : s.heap.get? a with
    | none => rfl
    | some u =>
      have z := in6 a ox hx6 nfr (.inr ⟨u, q⟩)
      rw [nB] at z; cases z
  have ntr : ∀ c, H' c ≠ none -> c ≠ a := fun c z q => z (q ▸ nH)
  have un7 : Un (frs X.stack) [] H (upd H' a (exq a C dd)) s.heap h₆ :=
    ⟨un6.keep, un6.slot, fun b o q m z => by
      rw [upd_ne (fun y => by rw [y, nS] at q; cases q)]
      exact un6.free b o q m z, un6.there, fun b xs q => by
      have := un6.tups b xs q
      rw [upd_ne (ntr b (by rw [this]; simp))]
      exact this, fun b o u q => by
      have := un6.frzs b o u q
      rw [upd_ne (ntr b (by rw [this]; simp))]
      exact this, fun b p q => by
      obtain ⟨more, this⟩ := un6.tbls b p q
      exact ⟨more, by rw [upd_ne (ntr b (by rw [this]; simp))]; exact this⟩⟩
  have hok7 : HOk X.prog X.w (upd H' a (exq a C dd)) h₆ := fun b u q => by
    by_cases hb : b = a
    · subst hb
      rw [upd_same] at q; cases q
      exact exq_ok hx6 hcx hddx hdx
    · rw [upd_ne hb] at q
      exact (hok6 b u q).stay (fun _ _ _ z => z) (fun c z => by rw [upd_ne (ntr c (by rw [z]; simp))]; exact z) fun c xs z => by rw [upd_ne (ntr c (by rw [z]; simp))]; exact z
  have I7 : Inv X pins σ (upd H' a (exq a C dd)) { s' with heap := h₆ } := I.call' (s' := { s' with heap := h₆ }) os un7 hok7 bare (fun b z => absurd z (by simp))
  refine store_ok (X := X.inX a) (v := .ref a) (I7.inX a) hN hi (.inl hl) rfl (fun s8 I8 => ?_) (.inr hl)
  refine wpAny_mono (hs a pins s8 _ _ _ (I8.wish _) (hE σ a I.len nH)) (fun f s9 q => ?_) fun _ _ z => False.elim z
  have q := q.unwish
  show wpAny _ _ _ _ _ _
  cases f with
  | next =>
    obtain ⟨σ', H9, I9, q⟩ := q
    exact goes_ok (X := X) (I9.outX I.ok) hN hi hl fun s10 I10 => ⟨_, _, I10, q⟩
  | brk =>
    obtain ⟨σ', H9, I9, q⟩ := q
    exact goes_ok (X := X) (I9.outX I.ok) hN hi hl fun s10 I10 => ⟨_, _, I10, q⟩
  | cont =>
    obtain ⟨σ', H9, I9, q⟩ := q
    exact goes_ok (X := X) (I9.outX I.ok) hN hi hl fun s10 I10 => ⟨_, _, I10, q⟩
  | ret u =>
    obtain ⟨v, σ', H9, I9, r, q⟩ := q
    exact goes_ok (X := X) (I9.outX I.ok) hN hi hl fun s10 I10 => ⟨v, _, _, I10, r, q⟩
abbrev Cx.atW (X : Cx) (W : Value -> Shared -> Prop) (pn : List (Addr × Obj)) : Cx := { X with xe := W, pn := pn }
theorem Cx.Ok.atW (ok : X.Ok) (W : Value -> Shared -> Prop) (pn : List (Addr × Obj)) : (X.atW W pn).Ok :=
  ⟨ok.mod, ok.kind, ok.glob, ok.blt, ok.above, ok.inj, ok.has, ok.cab, ok.hd, ok.frames, ok.stk, ok.exf, ok.bs, ok.bsz, ok.noex, ok.exfs, ok.funs, ok.frf⟩
theorem Inv.toAt {pins : List (Addr × Obj)} {σ : St} {H : Hp} {s : Shared} (I : Inv X pins σ H s) (W : Value -> Shared -> Prop) : Inv (X.atW W (X.pn ++ pins)) [] σ H s := ⟨I.ok.atW W _, I.os, I.bare, I.base, I.loc, I.cell, I.free, I.freeC, fun p hp => I.pin p (by simpa using hp), I.hok, I.len⟩
theorem Inv.ofAt {pins p2 : List (Addr × Obj)} {σ : St} {H : Hp} {s : Shared} {W : Value -> Shared -> Prop} (ok : X.Ok) (I : Inv (X.atW W (X.pn ++ pins)) p2 σ H s) : Inv X pins σ H s := ⟨ok, I.os, I.bare, I.base, I.loc, I.cell, I.free, I.freeC, fun p hp => I.pin p (List.mem_append_left _ hp), I.hok, I.len⟩
end
end L2
set_option Elab.async false
set_option linter.all false
set_option maxRecDepth 100000
namespace L2
open PySem PySem.Spec PySem.Calls PyProof.Rows PySem.W
section
variable {P : Program} {w : World} {K : PySem.W.Frag} {mg : Str -> Option Value} {base : Heap} {N : List Str} {qual : Str} {scope : Scope} {f : Addr} {cd : Value} {A : Around} {outer : List Env} {s : Shared} {H : Hp} {E : XK}
theorem raises2 : Raises (cxOf (CX2 P w) P w K mg base N qual scope f cd A outer s H E) E := by
  intro pins σ H1 s1 h' e cls vs I hx hE
  have ff := PySem.W.funFrames_hide (as := frs (cxOf (CX2 P w) P w K mg base N qual scope f cd A outer s H E).stack) I.stack (fun env he b hb => List.mem_filterMap.mpr ⟨env, he, hb⟩)
  obtain ⟨t, he, _⟩ := hx.there
  refine leaves_firstD (s := { s1 with heap := h' }) (base := PySem.W.hideAll s1.heap (frs (cxOf (CX2 P w) P w K mg base N qual scope f cd A outer s H E).stack)) (dd := none) I.ok.frames rfl (fun b o q => hx.keeps _ _ (PySem.W.of_hideAll _ q)) (Heap.FunFrames.of_keeps (fun b o q _ => ⟨o, hx.keeps _ _ q, rfl⟩) ff) ?_ he rfl rfl rfl rfl rfl fun h1 fl up => ?_
  · cases q : (PySem.W.hideAll s1.heap (frs (cxOf (CX2 P w) P w K mg base N qual scope f cd A outer s H E).stack)).get? e with
    | none => rfl
    | some o =>
      have := PySem.W.of_hideAll _ q
      rw [hx.new] at this
      cases this
  · exact leave_endD (s1 := { s1 with heap := h1 }) I rfl rfl I.bare Un.refl I.hok (fun b o q hb _ => PySem.W.hideAll_get _ q hb) ff ((Heap.UpToSlots.of_keeps hx.keeps).trans up) fl hE
theorem Fun.okG {x qual : Str} {st : Stmt} {f : Addr} {fd : FuncData} {N ps : List Str} {k : Nat} {sp : Sp} (F : Fun K x qual st f fd) (S : FnScope N ps (defScope st)) (len : ∀ vs H Q E, sp vs H Q E -> vs.length = ps.length)
    (hbody : ∀ (cdv : Value) (A : Around) (outer : List Env) (s : Shared) (H : Hp) (vs : List V) (Q : VK) (E : XK), Room k (A.deeper (envOfC qual (defScope st) s.heap.objs.size f cdv)) -> sp vs H Q E ->
      Passes (CX2 P w) (cxOf (CX2 P w) P w K mg base N qual (defScope st) f cdv A outer s H E) E -> RaisesO (cxOf (CX2 P w) P w K mg base N qual (defScope st) f cdv A outer s H E) E -> Raises (cxOf (CX2 P w) P w K mg base N qual (defScope st) f cdv A outer s H E) E ->
      ∃ t, PSs (cxOf (CX2 P w) P w K mg base N qual (defScope st) f cdv A outer s H E) (defBody st) t /\ t { nx := fun _ H' => Q .non H', rt := Q } (start N vs) H) : FnOk P w K mg base (CX2 P w) (k + 1) f fd ps sp := by
  obtain ⟨oc, od, kV, doc, pm, an, cdv, ct, osl, rfl, lk, hcd⟩ := F.ex
  refine fn_of lk hcd S len fun A outer s H vs Q E hr hsp => ?_
  obtain ⟨t, h, q⟩ := hbody cdv A outer s H vs Q E hr hsp passes2 raisesO raises2
  exact ⟨t, h, q⟩
end
section
variable {X : Cx} {i : Nat} {x x2 n : Str} {D C D2 C2 : Addr} {np hpos np2 hpos2 pos : Pos} {b₀ c₀ : Stmt} {suite suite2 body : List Stmt} {tb : XK -> TS} {ts ts2 : TS}
end
section
variable {X : Cx}
def rIsiQ (K : PySem.W.Frag) : List V -> Hp -> VK -> Prop := fun xs H Q => ∃ a C dd c cv b, xs = [.ref a, c] /\ clsV c = some cv /\ H a = some (exq a C dd) /\ ExcK K C /\ PySem.W.kitOne K (.ref C) cv = some b /\ Q (.bl b) H
theorem call_isiQ : CallR X (.builtin "isinstance") (rIsiQ X.K) := by
  intro pins s σ H xs us Q I r h
  obtain ⟨a, C, dd, c, cv, b, rfl, hc, ha, k, e, q⟩ := h
  obtain ⟨u, w', rfl, ru, rw'⟩ := vals2 r
  cases (show u = Value.ref a from ru)
  cases clsV_rel rw' hc
  obtain ⟨o, vs, h1, h2, _⟩ := (I.hok a _ ha).1
  exact PySem.W.kia_one (kitx_exc k) I.kIn ⟨o, h1, h2⟩ e (fun z => nomatch z) fun tk => ⟨.bl b, H, I.tok tk, rfl, q⟩
end
end L2
set_option Elab.async false
set_option linter.all false
set_option maxRecDepth 100000
namespace L2
open PySem PySem.Spec PyProof.Rows PySem.W
structure LamScope (ps fvs : List Str) (scope : Scope) : Prop where
  nd : (ps ++ fvs).Nodup
  kind : scope.kind = .function
  co : scope.isCoroutine = false
  gen : scope.isGenerator = false
  par : ∀ p ∈ ps, scope.names.lookup p = some .local
  fv : ∀ x ∈ fvs, scope.names.lookup x = some .free
  all : ∀ x, scope.names.lookup x = some .free -> x ∈ fvs
  nocell : ∀ x ∈ scope.names, x.2 ≠ .cell
def cxLam (CX : CXT) (P : Program) (w : World) (K : PySem.W.Frag) (mg : Str -> Option Value) (base : Heap) (N : List Str) (qual : Str) (scope : Scope) (f : Addr) (cd : Value) (cl : List (Str × Addr)) (A : Around) (outer : List Env) (s : Shared) (H : Hp) (E : XK) : Cx where
  prog := P
  w := w
  K := K
  mg := mg
  base := base
  A := A.deeper (envX qual scope s.heap.objs.size f cd cl)
  N := N
  s₀ := s
  H₀ := H
  env := envX qual scope s.heap.objs.size f cd cl
  outer := outer
  stack := envX qual scope s.heap.objs.size f cd cl :: outer
  ex := []
  calm := true
  fn := fun _ => false
  pn := []
  xe := fun e s' => wpAny (model P w) (A.deeper (envX qual scope s.heap.objs.size f cd cl)) (leaving (envX qual scope s.heap.objs.size f cd cl) e) (fun _ s'' => CX outer H s E e s'') (fun e' s'' => CX outer H s E e' s'') s'
theorem lookup_nd {x : Str} {u : Value} : ∀ {l : List (Str × Value)}, (l.map (·.1)).Nodup -> (x, u) ∈ l -> l.lookup x = some u
  | (y, v) :: l, nd, h => by
    have n := List.nodup_cons.mp nd
    rcases List.mem_cons.mp h with e | h
    · cases e
      simp [List.lookup]
    · have ne : x ≠ y := fun z => n.1 (by rw [<- z]; exact List.mem_map.mpr ⟨_, h, rfl⟩)
      have : (x == y) = false := by simpa using ne
      rw [List.lookup_cons, this]
      exact lookup_nd n.2 h
theorem fst_zip : ∀ (ps : List Str) (us : List Value), ((ps.zip us).map (·.1)).Sublist ps
  | [], _ => by simp
  | _ :: _, [] => by simp
  | p :: ps, u :: us => by
    simp only [List.zip_cons_cons, List.map_cons]
    exact (fst_zip ps us).cons₂ p
theorem lookup_rev_zip {ps : List Str} {us : List Value} {i : Nat} {x : Str} {u : Value} (nd : ps.Nodup) (h1 : ps[i]? = some x) (h2 : us[i]? = some u) : (ps.zip us).reverse.lookup x = some u := by
  refine lookup_nd ?_ (List.mem_reverse.mpr (List.mem_of_getElem? (i := i) ?_))
  · rw [List.map_reverse]
    refine (List.reverse_perm _).nodup_iff.mpr (nd.sublist ?_)
    exact fst_zip ps us
  · rw [List.getElem?_zip_eq_some]
    exact ⟨h1, h2⟩
structure CellsAre (fvs : List Str) (cl : List (Str × Addr)) (gs : List V) (h : Heap) : Prop where
  inj : ∀ x y c, cl.lookup x = some c -> cl.lookup y = some c -> x = y
  has : ∀ x ∈ fvs, ∃ c, cl.lookup x = some c
  all : ∀ x c, cl.lookup x = some c -> ∃ v, h.IsCell c v
  is : ∀ (i : Nat) x v, fvs[i]? = some x -> gs[i]? = some v -> ∃ c u, cl.lookup x = some c /\ RelV v u /\ h.IsCell c (some u)
theorem IsCell.keeps {h h' : Heap} {c : Addr} {v : Option Value} (x : h.IsCell c v) (k : ∀ o, h.get? c = some o -> h'.get? c = some o) : h'.IsCell c v := let ⟨o, e, d⟩ := x; ⟨o, k o e, d⟩
theorem inv_lam {CX : CXT} {P : Program} {w : World} {K : PySem.W.Frag} {mg : Str -> Option Value} {base : Heap} {ps fvs : List Str} {qual : Str} {scope : Scope} {f : Addr} {cd : Value} {cl : List (Str × Addr)} {A : Around} {outer : List Env} {s : Shared} {H : Hp} {E : XK} {us : List Value} {vs gs : List V} {h1 : Heap} {tk : Nat}
    (S : LamScope ps fvs scope) (hd : A.handled = none) (e0 : Env0 P w K mg base A outer s H) (hl : vs.length = ps.length) (hg : gs.length = fvs.length) (r : Vals vs us) (C : CellsAre fvs cl gs s.heap) (fc : ∀ x c, cl.lookup x = some c -> H c = none)
    (ns : h1.Ns s.heap.objs.size fun x => (ps.zip us).reverse.lookup x) (k : ∀ b o, s.heap.get? b = some o -> h1.get? b = some o) :
    Inv (cxLam CX P w K mg base (ps ++ fvs) qual scope f cd cl A outer s H E) [] (vs.map some ++ gs.map some) H { s with heap := h1, toks := tk } := by
  have noA : ∀ b : Addr, b ∉ (cxLam CX P w K mg base (ps ++ fvs) qual scope f cd cl A outer s H E).ex := fun b z => absurd (show b ∈ ([] : List Addr) from z) (by simp)
  refine ⟨⟨e0.mod, S.kind, rfl, rfl, Nat.le_refl _, C.inj, fun y hy => ?_, fun y c h => (by cases h), fun _ => hd, Around.frames_deeper e0.frames, .inr ⟨rfl, rfl⟩, fun b z => absurd z (noA b), e0.bs, e0.bsz, fun b _ _ => noA b, fun b z => absurd z (noA b), e0.funs, e0.frf⟩,
    rfl, e0.bare, Un.kept k, ⟨_, ns, fun i y v h1' h2 h3 => ?_⟩, fun y c h => ?_, e0.hok.fresh (Nat.le_refl _), fc, fun p hp => absurd (show p ∈ ([] : List (Addr × Obj)) from hp) (by simp), e0.hok.kept k, ?_⟩
  · have hy : scope.names.lookup y = some .cell ∨ scope.names.lookup y = some .free := hy
    rcases hy with hy | hy
    · exact absurd rfl (S.nocell _ (PySem.mem_of_lookup hy))
    · exact C.has y (S.all y hy)
  · have h1' : (ps ++ fvs)[i]? = some y := h1'
    by_cases hi : i < ps.length
    · rw [List.getElem?_append_left hi] at h1'
      rw [List.getElem?_append_left (by simpa [hl] using hi), List.getElem?_map] at h2
      obtain ⟨v', hv, e⟩ := Option.map_eq_some_iff.mp h2
      cases e
      obtain ⟨u, hu, rv⟩ := r.get hv
      refine ⟨u, rv, .inl ⟨S.par y (List.mem_of_getElem? h1'), ?_⟩⟩
      have ndP : ps.Nodup := (List.nodup_append.mp S.nd).1
      show (ps.zip us).reverse.lookup y = some u
      exact lookup_rev_zip ndP h1' hu
    · rw [List.getElem?_append_right (by omega)] at h1'
      rw [List.getElem?_append_right (by simp [hl]; omega), List.getElem?_map, List.length_map, hl] at h2
      obtain ⟨v', hv, e⟩ := Option.map_eq_some_iff.mp h2
      cases e
      obtain ⟨c, u, e1, rv, ce⟩ := C.is _ _ _ h1' hv
      exact ⟨u, rv, .inr ⟨.inr (S.fv y (List.mem_of_getElem? h1')), c, e1, IsCell.keeps ce fun o e => k _ _ e⟩⟩
  · obtain ⟨v, ce⟩ := C.all y c h
    exact ⟨v, IsCell.keeps ce fun o e => k _ _ e⟩
  · show _ = (ps ++ fvs).length
    rw [List.length_append, List.length_append, List.length_map, List.length_map, hl, hg]
theorem lam_run {CX : CXT} {P : Program} {w : World} {K : PySem.W.Frag} {mg : Str -> Option Value} {base : Heap} {k : Nat} {ps fvs : List Str} {qual : Str} {params : Arguments} {body : PySem.Expr} {scope : Scope} {f c' : Addr} {pm ctv : Value} {cl : List (Str × Addr)} {A : Around} {outer : List Env} {s : Shared} {H : Hp} {Q : VK} {E : XK} {us : List Value} {vs gs : List V} {t : TE}
    (S : LamScope ps fvs scope) (hr : Room (k + 1) A) (e0 : Env0 P w K mg base A outer s H) (hf : s.heap.get? f = some (kla_obj "<lambda>" qual params body scope cl pm c' ctv)) (hcd : s.heap.CodeRec (.ref c') qual)
    (hb : bindArgs (kla_fn "<lambda>" qual params body scope cl pm (.ref c') ctv) ⟨us, []⟩ = pure (ps.zip us)) (hl : vs.length = ps.length) (hg : gs.length = fvs.length) (r : Vals vs us) (C : CellsAre fvs cl gs s.heap) (fc : ∀ x c, cl.lookup x = some c -> H c = none)
    (ht : Room k (A.deeper (envX qual scope s.heap.objs.size f (.ref c') cl)) -> PE (cxLam CX P w K mg base (ps ++ fvs) qual scope f (.ref c') cl A outer s H E) body t) (hq : t (vs.map some ++ gs.map some) H Q) :
    codeAny (model P w) A (.call (.ref f) ⟨us, []⟩) (CR CX outer P w H s Q E) s := by
  have lim : s.heap.NoLimit := e0.mod.nolimit.keeps fun b o e => (e0.bs b o e).1
  refine kla_callFunE hr.depth hf rfl S.co S.gen rfl hcd ?_
  rw [hb]
  refine wpAny_pure (wpAny_newFunctionEnv S.nocell (fun x hx => ?_) (fun h1 ns sb => ?_) S.kind)
  · exact S.par x.1 (List.of_mem_zip hx).1
  have k1 : ∀ b o, s.heap.get? b = some o -> h1.get? b = some o := fun b o e => sb.extBut b o (Nat.ne_of_lt (Heap.lt_size e)) (Heap.get?_push_of_some _ e)
  refine ⟨lim.keeps k1, ?_⟩
  show codeAny _ _ (.expr body (envX qual scope s.heap.objs.size f (.ref c') cl)) _ _
  have I := inv_lam (CX := CX) (qual := qual) (f := f) (cd := .ref c') (E := E) (tk := s.toks + (ps.zip us).length) S hr.hd e0 hl hg r C fc ns k1
  refine kla_codeExpr (wpAny_mono (ht (hr.deeper _) [] _ _ H _ I hq) (fun v s' hs => ?_) fun e s' hs => hs)
  obtain ⟨x, H', J, rv, q⟩ := hs
  exact ⟨x, H', J.os, J.bare, J.base, J.hok, rv, q⟩
end L2
set_option Elab.async false
set_option linter.all false
set_option maxRecDepth 100000
namespace L2
open PySem PySem.Spec PyProof.Rows PySem.W
def lamH (f : Addr) (qual : Str) (params : Arguments) (body : PySem.Expr) (scope : Scope) (cl : List (Str × Addr)) (c' : Addr) : HO := .ext fun h => ∃ pm ctv, h.get? f = some (kla_obj "<lambda>" qual params body scope cl pm c' ctv)
def codeH (c' : Addr) (qual : Str) : HO := .ext fun h => ∃ o vs t, h.get? c' = some o /\ o.data = .fields vs /\ vs[1]? = some (.str qual t)
def tLam (P : Addr) (qual : Str) (params : Arguments) (body : PySem.Expr) (scope : Scope) (pos : Pos) (cl : List (Str × Addr)) : TE := fun _ H Q => ∃ ps, H P = some (.tbl ps) /\ TriplesOk ps.toList /\
  ((codeAmong pos ps.toList = none /\ ∀ c' f, H c' = none -> H f = none -> c' ≠ f -> Q (.ref f) (upd (upd (upd H P (.tbl (ps ++ #[rawInt pos.line, rawInt pos.col, .ref c']))) c' (codeH c' qual)) f (lamH f qual params body scope cl c'))) ∨
   ∃ c', codeAmong pos ps.toList = some (.ref c') /\ ∀ f, H f = none -> Q (.ref f) (upd H f (lamH f qual params body scope cl c')))
theorem pe_lam {X : Cx} {params : Arguments} {body : PySem.Expr} {scope : Scope} {pos : Pos} {cl : List (Str × Addr)} {c P : Addr} (hdef : defaultsOf params X.env = ([], [])) (hcl : closureFor scope X.env = pure cl) (hcode : X.env.code = .ref c) (C : CodeHd X.base c P) (hbm : X.base.BuiltinsAt X.mg P) :
    PE X (.Lambda params body scope pos) (tLam P (X.env.qual ++ "<lambda>") params body scope pos cl) := by
  intro pins s σ H Q I h
  obtain ⟨ps, hP, ht, h⟩ := h
  have hPh : s.heap.get? P = some (tabObj ps) := I.hok P _ hP
  have hgl : H mainGlobals = none := by
    obtain ⟨o, _, _, e, _⟩ := I.mod.glob
    exact (I.bs _ _ e).2
  refine kla_eval hdef ?_
  rcases h with ⟨hn, q⟩ | ⟨c', hf, q⟩
  · refine kla_makeFunction hcl I.ok.glob (I.mod.glob.keeps I.bk) hcode (C.keeps I.bk) hPh ht hn (fun z => by rw [z, hP] at hgl; cases hgl) (hbm.keeps I.bk) fun c' ctv h' tk hx hge hlt hrec htb => ?_
    have fz : s.heap.objs.size <= h'.objs.size := Nat.le_trans hge (Nat.le_of_lt hlt)
    have nc : H c' = none := I.hok.fresh hge
    have nf : H h'.objs.size = none := I.hok.fresh fz
    have cf : c' ≠ h'.objs.size := Nat.ne_of_lt hlt
    have Pc : P ≠ c' := ne_of_none hP nc
    have Pf : P ≠ h'.objs.size := ne_of_none hP nf
    have old : ∀ {b u}, H b = some u -> b ≠ P -> upd (upd (upd H P (.tbl (ps ++ #[rawInt pos.line, rawInt pos.col, .ref c']))) c' (codeH c' (X.env.qual ++ "<lambda>"))) h'.objs.size (lamH h'.objs.size (X.env.qual ++ "<lambda>") params body scope cl c') b = some u := fun {b u} e n => by
      rw [upd_ne (ne_of_none e nf), upd_ne (ne_of_none e nc), upd_ne n]
      exact e
    have notT : ∀ {b u}, H b = some u -> (∀ ps, u ≠ .tbl ps) -> b ≠ P := fun {b u} e n z => by
      rw [z, hP] at e
      cases e
      exact n _ rfl
    have kp : ∀ b o, b ≠ P -> s.heap.get? b = some o -> (h'.push (kla_obj "<lambda>" (X.env.qual ++ "<lambda>") params body scope cl ((X.mg "__name__").getD .none) c' ctv)).get? b = some o := fun b o n e => Heap.get?_push_of_some _ (hx b o n e)
    refine ⟨.ref h'.objs.size, _, I.un (t' := tk) ⟨fun b o e n _ _ => kp b o (fun z => by rw [z, hP] at n; cases n) e, fun b o e n _ _ => ⟨o.slots, kp b o (fun z => by rw [z, hP] at n; cases n) e⟩, fun b o e n _ => ?_, fun b o e _ => ?_, fun b xs e => old e (notT e (by simp)), fun b o u e => old e (notT e (by simp)), fun b qs e => ?_⟩ (fun b u e => ?_), rfl, q c' h'.objs.size nc nf cf⟩
    · have lt := Heap.lt_size e
      rw [upd_ne (Nat.ne_of_lt (Nat.lt_of_lt_of_le lt fz)), upd_ne (Nat.ne_of_lt (Nat.lt_of_lt_of_le lt hge)), upd_ne (fun z => by rw [z, hP] at n; cases n)]
      exact n
    · by_cases z : b = P
      · subst z
        exact ⟨_, Heap.get?_push_of_some _ htb⟩
      · exact ⟨o, kp b o z e⟩
    · by_cases z : b = P
      · subst z
        rw [hP] at e
        cases e
        exact ⟨_, by rw [upd_ne Pf, upd_ne Pc, upd_same]⟩
      · exact ⟨#[], by rw [Array.append_empty]; exact old e z⟩
    · by_cases z1 : b = h'.objs.size
      · subst z1
        rw [upd_same] at e
        cases e
        exact ⟨⟨_, _, Heap.get?_push_size _ rfl⟩, ⟨_, Heap.get?_push_size _ rfl⟩, fun h1 h2 ⟨pm, cv, e1⟩ k => ⟨pm, cv, k _ e1⟩⟩
      · rw [upd_ne z1] at e
        by_cases z2 : b = c'
        · subst z2
          rw [upd_same] at e
          cases e
          obtain ⟨c2, oc, vs, t, ec, hoc, hd, hv⟩ := hrec
          cases ec
          exact ⟨⟨oc, vs, t, Heap.get?_push_of_some _ hoc, hd, hv⟩, ⟨_, Heap.get?_push_of_some _ hoc⟩, fun h1 h2 ⟨o, vs, t, e1, r⟩ k => ⟨o, vs, t, k _ e1, r⟩⟩
        · rw [upd_ne z2] at e
          by_cases z3 : b = P
          · subst z3
            rw [upd_same] at e
            cases e
            exact Heap.get?_push_of_some _ htb
          · rw [upd_ne z3] at e
            refine (I.hok b u e).stay (fun d v hd e1 => kp d v ?_ e1) (fun d e1 => old e1 (notT e1 (by simp))) fun d xs e1 => old e1 (notT e1 (by simp))
            rcases hd with rfl | hd
            · exact z3
            · exact notT hd (by simp)
  · refine kla_makeFunctionHit hcl I.ok.glob (I.mod.glob.keeps I.bk) hcode (C.keeps I.bk) hPh ht hf (hbm.keeps I.bk) fun ctv h' tk hk hsz => ?_
    have nf : H h'.objs.size = none := I.hok.fresh hsz
    refine ⟨.ref h'.objs.size, _, I.laid (t' := tk) (fun b o e => Heap.get?_push_of_some _ (hk b o e)) hsz ?_, rfl, q _ nf⟩
    exact ⟨⟨_, _, Heap.get?_push_size _ rfl⟩, ⟨_, Heap.get?_push_size _ rfl⟩, fun h1 h2 ⟨pm, cv, e1⟩ k => ⟨pm, cv, k _ e1⟩⟩
end L2
set_option Elab.async false
set_option linter.all false
set_option maxRecDepth 100000
namespace L2
open PySem PySem.Spec PyProof.Rows PySem.W
theorem passesL {P : Program} {w : World} {K : PySem.W.Frag} {mg : Str -> Option Value} {base : Heap} {N : List Str} {qual : Str} {scope : Scope} {f : Addr} {cd : Value} {cl : List (Str × Addr)} {A : Around} {outer : List Env} {s : Shared} {H : Hp} {E : XK} : Passes (CX2 P w) (cxLam (CX2 P w) P w K mg base N qual scope f cd cl A outer s H E) E := by
  intro pins σ H1 s1 e s' I hc
  obtain ⟨a, cls, H', B, a0, dd, rfl, os, bare, un, hok, fl, i, hE⟩ := hc
  refine leaves_onD (base := B) I.ok.frames rfl fl fun h1 fl1 up => ?_
  exact leave_endD (s1 := { s' with heap := h1 }) I rfl os bare un hok i fl.2.2.1 up fl1 hE
def cellX (c : Addr) (o : Obj) : HO := .ext fun h => h.get? c = some o
def lend (cs : List (Addr × Obj)) (H : Hp) : Hp := fun b => match cs.lookup b with
  | some o => some (cellX b o)
  | none => H b
def unl (cs : List (Addr × Obj)) (H : Hp) : Hp := fun b => match cs.lookup b with
  | some _ => none
  | none => H b
section
variable {cs : List (Addr × Obj)} {H H' : Hp} {b : Addr} {o : Obj} {u : HO}
theorem lend_in (h : cs.lookup b = some o) : lend cs H b = some (cellX b o) := by unfold lend; rw [h]
theorem lend_out (h : cs.lookup b = none) : lend cs H b = H b := by unfold lend; rw [h]
theorem unl_in (h : cs.lookup b = some o) : unl cs H b = none := by unfold unl; rw [h]
theorem unl_out (h : cs.lookup b = none) : unl cs H b = H b := by unfold unl; rw [h]
theorem out_of (n : ∀ c o, cs.lookup c = some o -> H c = none) (e : H b = some u) : cs.lookup b = none := by
  cases q : cs.lookup b with
  | none => rfl
  | some o =>
    rw [n b o q] at e
    cases e
theorem unl_lend (n : ∀ c o, cs.lookup c = some o -> H c = none) : unl cs (lend cs H) = H := funext fun b => by
  cases q : cs.lookup b with
  | none => rw [unl_out q, lend_out q]
  | some o => rw [unl_in q, n b o q]
variable {P : Program} {w : World} {h : Heap}
theorem hok_lend (ok : HOk P w H h) (n : ∀ c o, cs.lookup c = some o -> H c = none) (at_ : ∀ c o, cs.lookup c = some o -> h.get? c = some o) : HOk P w (lend cs H) h := fun b u e => by
  have old : ∀ {d v}, H d = some v -> lend cs H d = some v := fun e => by rw [lend_out (out_of n e)]; exact e
  cases q : cs.lookup b with
  | some o =>
    rw [lend_in q] at e
    cases e
    exact ⟨at_ b o q, ⟨_, at_ b o q⟩, fun h1 h2 e k => k _ e⟩
  | none =>
    rw [lend_out q] at e
    exact (ok b u e).stay (fun c v _ z => z) (fun c z => old z) fun c xs z => old z
theorem hok_unl (ok : HOk P w H h) (n : ∀ c o, cs.lookup c = some o -> H c = some (cellX c o)) : HOk P w (unl cs H) h := fun b u e => by
  have nin : ∀ {d v}, H d = some v -> (∀ φ, v ≠ .ext φ) -> unl cs H d = some v := fun {d v} e ne => by
    cases q : cs.lookup d with
    | none => rw [unl_out q]; exact e
    | some o =>
      rw [n d o q] at e
      cases e
      exact absurd rfl (ne _)
  cases q : cs.lookup b with
  | some o =>
    rw [unl_in q] at e
    cases e
  | none =>
    rw [unl_out q] at e
    exact (ok b u e).stay (fun c v _ z => z) (fun c z => nin z (by simp)) fun c xs z => nin z (by simp)
end
section
variable {X : Cx} {pins : List (Addr × Obj)} {σ : St} {H : Hp} {s s' : Shared} {cs : List (Addr × Obj)}
def OwnCells (X : Cx) (s : Shared) (cs : List (Addr × Obj)) : Prop := ∀ c o, cs.lookup c = some o -> (∃ x, X.env.cells.lookup x = some c /\ X.fn x = true) /\ s.heap.get? c = some o
theorem OwnCells.none' (O : OwnCells X s cs) (I : Inv X pins σ H s) : ∀ c o, cs.lookup c = some o -> H c = none := fun c o e => by
  obtain ⟨⟨x, hx, _⟩, _⟩ := O c o e
  exact I.freeC x c hx
theorem OwnCells.nofr (O : OwnCells X s cs) (I : Inv X pins σ H s) : ∀ b ∈ frs X.stack, cs.lookup b = none := fun b hb => by
  cases q : cs.lookup b with
  | none => rfl
  | some o =>
    exfalso
    obtain ⟨⟨x, hx, hf⟩, _⟩ := O b o q
    rcases List.mem_cons.mp (I.stkSub b hb) with z | z
    · exact I.cne x b hx z
    · obtain ⟨_, o', ho', _⟩ := I.ok.funs.mem z
      exact absurd (Heap.lt_size ho') (Nat.not_lt.mpr (I.ok.cab x b hf hx))
theorem Inv.lendEnv (I : Inv X pins σ H s) (O : OwnCells X s cs) : Env0 X.prog X.w X.K X.mg X.base X.A X.stack s (lend cs H) := by
  have e0 := I.env0
  refine ⟨e0.frames, e0.mod, fun b o e => ⟨(e0.bs b o e).1, ?_⟩, e0.bsz, e0.funs, fun b hb => ?_, hok_lend I.hok (O.none' I) fun c o e => (O c o e).2, e0.bare⟩
  · cases q : cs.lookup b with
    | none => rw [lend_out q]; exact (e0.bs b o e).2
    | some o' =>
      exfalso
      obtain ⟨⟨x, hx, hf⟩, _⟩ := O b o' q
      exact absurd (Heap.lt_size e) (Nat.not_lt.mpr (Nat.le_trans I.ok.bsz (I.ok.cab x b hf hx)))
  · rw [lend_out (O.nofr I b hb)]
    exact e0.frf b hb
theorem Inv.lendBack {Q : VK} {u : Value} (I : Inv X pins σ H s) (O : OwnCells X s cs) (h : CE X.stack X.prog X.w (lend cs H) s (fun v H2 => (∀ c o, cs.lookup c = some o -> H2 c = some (cellX c o)) /\ Q v (unl cs H2)) u s') : EP X pins σ Q u s' := by
  obtain ⟨v, H', os, bare, un, hok, r, hc, q⟩ := h
  have n := O.none' I
  refine I.after ⟨v, unl cs H', os, bare, ⟨fun b o e hb hf hx => ?_, fun b o e hb hf hx => ?_, fun b o e hb hx => ?_, un.there, fun b xs e => ?_, fun b o u e => ?_, fun b ps e => ?_⟩, hok_unl hok hc, r, q⟩
  · cases q : cs.lookup b with
    | none => exact un.keep b o e (by rw [lend_out q]; exact hb) hf hx
    | some o' =>
      obtain ⟨_, e2⟩ := O b o' q
      rw [e] at e2
      cases e2
      exact (hok b _ (hc b o q)).1
  · exact un.slot b o e (by rw [lend_out (O.nofr I b hf)]; exact hb) hf hx
  · cases q : cs.lookup b with
    | none => rw [unl_out q]; exact un.free b o e (by rw [lend_out q]; exact hb) hx
    | some o' => exact unl_in q
  · have q := out_of n e
    rw [unl_out q]
    exact un.tups b xs (by rw [lend_out q]; exact e)
  · have q := out_of n e
    rw [unl_out q]
    exact un.frzs b o u (by rw [lend_out q]; exact e)
  · have q := out_of n e
    rw [unl_out q]
    exact un.tbls b ps (by rw [lend_out q]; exact e)
def Lent (H : Hp) (cs : List (Addr × Obj)) : Prop := ∀ c o, cs.lookup c = some o -> H c = some (cellX c o)
theorem Lent.nofr (L : Lent H cs) (I : Inv X pins σ H s) : ∀ b ∈ frs X.stack, cs.lookup b = none := fun b hb => by
  cases q : cs.lookup b with
  | none => rfl
  | some o =>
    have := I.stkFree b hb
    rw [L b o q] at this
    cases this
theorem Inv.unlEnv (I : Inv X pins σ H s) (L : Lent H cs) : Env0 X.prog X.w X.K X.mg X.base X.A X.stack s (unl cs H) := by
  have e0 := I.env0
  have un : ∀ b, H b = none -> unl cs H b = none := fun b e => by
    cases q : cs.lookup b with
    | none => rw [unl_out q]; exact e
    | some o => exact unl_in q
  exact ⟨e0.frames, e0.mod, fun b o e => ⟨(e0.bs b o e).1, un b (e0.bs b o e).2⟩, e0.bsz, e0.funs, fun b hb => un b (e0.frf b hb), hok_unl I.hok L, e0.bare⟩
def NoCs (cs : List (Addr × Obj)) (H : Hp) : Prop := ∀ c o, cs.lookup c = some o -> H c = none
theorem unl_un {H' : Hp} (I : Inv X pins σ H s) (L : Lent H cs) (un : Un (frs X.stack) [] (unl cs H) H' s.heap s'.heap) (hok : HOk X.prog X.w H' s'.heap) : Un (frs X.stack) [] H (lend cs H') s.heap s'.heap /\ HOk X.prog X.w (lend cs H') s'.heap /\ NoCs cs H' := by
  have hin : ∀ {b}, H b = none -> cs.lookup b = none := fun {b} e => by
    cases q : cs.lookup b with
    | none => rfl
    | some o => rw [L b o q] at e; cases e
  have nin : ∀ {d v}, H d = some v -> (∀ φ, v ≠ .ext φ) -> cs.lookup d = none := fun {d v} e ne => by
    cases q : cs.lookup d with
    | none => rfl
    | some o =>
      rw [L d o q] at e
      cases e
      exact absurd rfl (ne _)
  have nof : ∀ {b}, b ∈ frs X.stack -> cs.lookup b = none := fun hb => L.nofr I _ hb
  have at_ : ∀ c o, cs.lookup c = some o -> s'.heap.get? c = some o := fun c o q => by
    have e : s.heap.get? c = some o := (I.hok c _ (L c o q)).1
    exact un.keep c o e (unl_in q) (fun z => by rw [nof z] at q; cases q) (by simp)
  have nn : ∀ c o, cs.lookup c = some o -> H' c = none := fun c o q => by
    have e : s.heap.get? c = some o := (I.hok c _ (L c o q)).1
    exact un.free c o e (unl_in q) (by simp)
  refine ⟨⟨fun b o e hb hf hx => un.keep b o e (by rw [unl_out (hin hb)]; exact hb) hf hx, fun b o e hb hf hx => un.slot b o e (by rw [unl_out (hin hb)]; exact hb) hf hx, fun b o e hb hx => ?_, un.there, fun b xs e => ?_, fun b o u e => ?_, fun b ps e => ?_⟩, hok_lend hok nn at_, nn⟩
  · rw [lend_out (hin hb)]
    exact un.free b o e (by rw [unl_out (hin hb)]; exact hb) hx
  · have q := nin e (by simp)
    rw [lend_out q]
    exact un.tups b xs (by rw [unl_out q]; exact e)
  · have q := nin e (by simp)
    rw [lend_out q]
    exact un.frzs b o u (by rw [unl_out q]; exact e)
  · have q := nin e (by simp)
    rw [lend_out q]
    exact un.tbls b ps (by rw [unl_out q]; exact e)
def LamOk (P : Program) (w : World) (K : PySem.W.Frag) (mg : Str -> Option Value) (base : Heap) (k : Nat) (qual : Str) (params : Arguments) (body : PySem.Expr) (scope : Scope) (ps fvs : List Str) (sp : List V -> List V -> Hp -> VK -> XK -> Prop) : Prop :=
  ∀ (A : Around) (outer : List Env) (s : Shared) (H : Hp) (f c' : Addr) (pm ctv : Value) (cl : List (Str × Addr)) (us : List Value) (vs gs : List V) (Q : VK) (E : XK), Room k A -> Env0 P w K mg base A outer s H -> s.heap.get? f = some (kla_obj "<lambda>" qual params body scope cl pm c' ctv) -> s.heap.CodeRec (.ref c') qual ->
    vs.length = ps.length -> gs.length = fvs.length -> Vals vs us -> CellsAre fvs cl gs s.heap -> (∀ x c, cl.lookup x = some c -> H c = none) -> sp vs gs H Q E -> codeAny (model P w) A (.call (.ref f) ⟨us, []⟩) (CR (CX2 P w) outer P w H s Q E) s
theorem lamOk {P : Program} {w : World} {K : PySem.W.Frag} {mg : Str -> Option Value} {base : Heap} {k : Nat} {qual : Str} {params : Arguments} {body : PySem.Expr} {scope : Scope} {ps fvs : List Str} {sp : List V -> List V -> Hp -> VK -> XK -> Prop} (S : LamScope ps fvs scope)
    (hb : ∀ pm c' ctv cl us, us.length = ps.length -> bindArgs (kla_fn "<lambda>" qual params body scope cl pm (.ref c') ctv) ⟨us, []⟩ = pure (ps.zip us))
    (hbody : ∀ (A : Around) (outer : List Env) (s : Shared) (H : Hp) (f : Addr) (cd : Value) (cl : List (Str × Addr)) (vs gs : List V) (Q : VK) (E : XK), Room k (A.deeper (envX qual scope s.heap.objs.size f cd cl)) -> sp vs gs H Q E -> Passes (CX2 P w) (cxLam (CX2 P w) P w K mg base (ps ++ fvs) qual scope f cd cl A outer s H E) E ->
      ∃ t, PE (cxLam (CX2 P w) P w K mg base (ps ++ fvs) qual scope f cd cl A outer s H E) body t /\ t (vs.map some ++ gs.map some) H Q) : LamOk P w K mg base (k + 1) qual params body scope ps fvs sp := by
  intro A outer s H f c' pm ctv cl us vs gs Q E hr e0 hf hcd hl hg r C fc hsp
  obtain ⟨t, ht, hq⟩ := hbody A outer s H f (.ref c') cl vs gs Q E (hr.deeper _) hsp passesL
  exact lam_run S hr e0 hf hcd (hb pm c' ctv cl us (by rw [<- r.length]; exact hl)) hl hg r C fc (fun _ => ht) hq
theorem run_lam {k : Nat} {qual : Str} {params : Arguments} {body : PySem.Expr} {scope : Scope} {ps fvs : List Str} {sp : List V -> List V -> Hp -> VK -> XK -> Prop} {f c' : Addr} {cl : List (Str × Addr)} {us : List Value} {vs gs : List V} {Q : VK} {E : XK} (F : LamOk X.prog X.w X.K X.mg X.base k qual params body scope ps fvs sp) (hr : Room k X.A) (hx : Passes (CX2 X.prog X.w) X E)
    (I : Inv X pins σ H s) (hf : H f = some (lamH f qual params body scope cl c')) (hc : H c' = some (codeH c' qual)) (L : Lent H cs) (hl : vs.length = ps.length) (hg : gs.length = fvs.length) (r : Vals vs us) (C : CellsAre fvs cl gs s.heap) (fc : ∀ x c, cl.lookup x = some c -> (cs.lookup c).isSome = true)
    (h : sp vs gs (unl cs H) (fun v H2 => NoCs cs H2 -> Q v (lend cs H2)) (fun cls dd H2 => NoCs cs H2 -> E cls dd (lend cs H2))) : wpAny (model X.prog X.w) X.A (call (.ref f) us) (EP X pins σ Q) X.xe s := by
  obtain ⟨⟨pm, ctv, ef⟩, _⟩ := I.hok f _ hf
  obtain ⟨⟨oc, vs', t, ec, d1, d2⟩, _⟩ := I.hok c' _ hc
  refine wpAny_call (codeAny_mono (F X.A X.stack s (unl cs H) f c' pm ctv cl us vs gs _ _ hr (I.unlEnv L) ef ⟨c', oc, vs', t, rfl, ec, d1, d2⟩ hl hg r C (fun x c e => ?_) h) fun r s' hq => ?_)
  · obtain ⟨o, q⟩ := Option.isSome_iff_exists.mp (fc x c e)
    exact unl_in q
  cases r with
  | error e =>
    obtain ⟨a, cls, H', B, a0, dd, rfl, os, bare, un, hok, fl, i, hE⟩ := hq
    obtain ⟨un2, hok2, nc⟩ := unl_un I L un hok
    refine hx pins σ H s _ s' I ⟨a, cls, lend cs H', B, a0, dd, rfl, os, bare, un2, hok2, fl, fun b o e hb hc => i b o e hb ?_, hE nc⟩
    rcases hc with z | z
    · cases q : cs.lookup b with
      | none => rw [lend_out q] at z; exact .inl z
      | some o' => exact .inr ⟨_, (I.hok b _ (L b o' q)).1⟩
    · exact .inr z
  | ok fl =>
    cases fl with
    | ret u =>
      obtain ⟨v, H', os, bare, un, hok, r, q⟩ := hq
      obtain ⟨un2, hok2, nc⟩ := unl_un I L un hok
      exact I.after ⟨v, lend cs H', os, bare, un2, hok2, r, q nc⟩
    | next => exact False.elim hq
    | brk => exact False.elim hq
    | cont => exact False.elim hq
end
end L2
set_option Elab.async false
set_option linter.all false
set_option maxRecDepth 100000
namespace L2
open PySem PySem.Spec PyProof.Rows PySem.W
structure CellsOf (fvs : List Str) (cl : List (Str × Addr)) (cs : List (Addr × Obj)) (gs : List V) : Prop where
  len : gs.length = fvs.length
  inj : ∀ x y c, cl.lookup x = some c -> cl.lookup y = some c -> x = y
  has : ∀ x ∈ fvs, ∃ c, cl.lookup x = some c
  all : ∀ x c, cl.lookup x = some c -> ∃ o v, cs.lookup c = some o /\ o.data = .cell v
  is : ∀ (i : Nat) x v, fvs[i]? = some x -> gs[i]? = some v -> ∃ c o u, cl.lookup x = some c /\ cs.lookup c = some o /\ o.data = .cell (some u) /\ RelV v u
theorem CellsOf.are {fvs : List Str} {cl : List (Str × Addr)} {cs : List (Addr × Obj)} {gs : List V} {h : Heap} (C : CellsOf fvs cl cs gs) (at_ : ∀ c o, cs.lookup c = some o -> h.get? c = some o) : CellsAre fvs cl gs h := ⟨C.inj, C.has, fun x c e => by
  obtain ⟨o, v, h1, h2⟩ := C.all x c e
  exact ⟨v, o, at_ c o h1, h2⟩, fun i x v h1 h2 => by
  obtain ⟨c, o, u, e1, e2, e3, e4⟩ := C.is i x v h1 h2
  exact ⟨c, u, e1, e4, o, at_ c o e2, e3⟩⟩
section
variable {X : Cx} {k : Nat} {x : Str} {p pos : Pos} {tn : TE} {qual : Str} {params : Arguments} {body : PySem.Expr} {scope : Scope} {fvs ps : List Str} {sp' : List V -> List V -> Hp -> VK -> XK -> Prop} {E : XK}
def tThunk (qual : Str) (params : Arguments) (body : PySem.Expr) (scope : Scope) (fvs : List Str) (sp : List V -> List V -> Hp -> VK -> XK -> Prop) (E : XK) (tn : TE) : TE := fun σ H Q => tn σ H fun x H1 => ∃ f c' cl cs gs, x = .ref f /\ H1 f = some (lamH f qual params body scope cl c') /\ H1 c' = some (codeH c' qual) /\ Lent H1 cs /\ CellsOf fvs cl cs gs /\ sp [] gs (unl cs H1) (fun v H2 => NoCs cs H2 -> Q v (lend cs H2)) (fun cls dd H2 => NoCs cs H2 -> E cls dd (lend cs H2))
theorem pe_thunk (F : LamOk X.prog X.w X.K X.mg X.base k qual params body scope [] fvs sp') (hr : Room k X.A) (hx : Passes (CX2 X.prog X.w) X E) (hn : PE X (.Name x p) tn) : PE X (.Call (.Name x p) [] [] pos) (tThunk qual params body scope fvs sp' E tn) := by
  intro pins s σ H Q I h
  refine wpAny_Call_Name_kw (thn (hn pins s σ H _ I h) fun u s1 ⟨v, H1, I1, r, f, c', cl, cs, gs, ev, hf, hc, L, C, q⟩ => ?_)
  subst ev
  cases (show u = Value.ref f from r)
  obtain ⟨⟨pm, ctv, ef⟩, _⟩ := I1.hok f _ hf
  refine Calls.callWith_function (evalArgs_nil3 ⟨⟨ef, rfl⟩, ?_⟩)
  exact run_lam F hr hx I1 hf hc L rfl C.len .nil (C.are fun c o e => (I1.hok c _ (L c o e)).1) (fun x c e => by
    obtain ⟨o, v, h1, _⟩ := C.all x c e
    rw [h1]
    rfl) q
end
def csOf (h : Heap) (cl : List (Str × Addr)) : List (Addr × Obj) := cl.filterMap fun p => (h.get? p.2).map fun o => (p.2, o)
theorem csOf_some {h : Heap} {c : Addr} {o : Obj} : ∀ {cl : List (Str × Addr)}, (csOf h cl).lookup c = some o -> h.get? c = some o /\ ∃ x, (x, c) ∈ cl
  | (x, d) :: cl, e => by
    unfold csOf at e
    rw [List.filterMap_cons] at e
    cases q : h.get? d with
    | none =>
      rw [q] at e
      obtain ⟨h1, y, h2⟩ := csOf_some (cl := cl) e
      exact ⟨h1, y, List.mem_cons_of_mem _ h2⟩
    | some u =>
      rw [q] at e
      simp only [Option.map_some] at e
      rw [List.lookup_cons] at e
      by_cases z : c = d
      · subst z
        simp at e
        subst e
        exact ⟨q, x, List.mem_cons_self⟩
      · have : (c == d) = false := by simpa using z
        rw [this] at e
        obtain ⟨h1, y, h2⟩ := csOf_some (cl := cl) e
        exact ⟨h1, y, List.mem_cons_of_mem _ h2⟩
theorem csOf_mem {h : Heap} {c : Addr} {o : Obj} {x : Str} (e : h.get? c = some o) : ∀ {cl : List (Str × Addr)}, (x, c) ∈ cl -> (csOf h cl).lookup c = some o
  | (y, d) :: cl, m => by
    unfold csOf
    rw [List.filterMap_cons]
    by_cases z : c = d
    · subst z
      rw [e]
      simp
    · have m' : (x, c) ∈ cl := by
        rcases List.mem_cons.mp m with q | q
        · cases q
          exact absurd rfl z
        · exact q
      have ih := csOf_mem e m'
      cases q : h.get? d with
      | none => exact ih
      | some u =>
        simp only [Option.map_some]
        rw [List.lookup_cons, show (c == d) = false by simpa using z]
        exact ih
section
variable {X : Cx} {k : Nat} {x : Str} {p pos : Pos} {e : PySem.Expr} {es : List PySem.Expr} {ta : TA} {fvs ps : List Str} {sp : Sp} {f : Addr} {fd : FuncData} {cl : List (Str × Addr)} {is : List Nat}
def tCallL (fvs : List Str) (cl : List (Str × Addr)) (is : List Nat) (sp : Sp) (t : TA) : TE := fun σ H Q => t σ H fun vs H1 => ∃ gs : List V, is.map (fun i => σ[i]?) = gs.map (fun v => some (some v)) /\
  ∀ cs, CellsOf fvs cl cs gs -> (∀ c o, cs.lookup c = some o -> H1 c = none) -> sp vs (lend cs H1) (fun v H2 => Lent H2 cs /\ Q v (unl cs H2)) E0
theorem pe_callL (F : FnOk X.prog X.w X.K X.mg X.base CX0 k f fd ps sp) (hr : Room k X.A) (hg : Gl X x) (hm : X.mg x = some (.ref f)) (hk : PySem.W.keepIn X.K (.ref f) = true) (hb : Binds X.K fd ps []) (ha : PA X (e :: es) ta)
    (hin : ∀ q ∈ cl, X.env.cells.lookup q.1 = some q.2) (hfn : ∀ q ∈ cl, X.fn q.1 = true) (hcl : ∀ x ∈ fvs, ∃ c, cl.lookup x = some c) (hkd : ∀ x ∈ fvs, X.env.scope.names.lookup x = some .cell) (hkl : ∀ x c, cl.lookup x = some c -> x ∈ fvs) (hN : is.map (fun i => X.N[i]?) = fvs.map some)
    (hdb : (x == ("__debug__" : Str)) = false := by decide) (he : starEach (e :: es) X.env = (false, eval e X.env) :: starEach es X.env := by rfl) (hpl : (backTo pos (starEach es X.env)).any (·.1) = false := by rfl) :
    PE X (.Call (.Name x p) (e :: es) [] pos) (tCallL fvs cl is sp ta) := by
  intro pins s σ H Q I h
  refine wpAny_Call_Name_kw (ld_glob I hg hm ?_ hdb)
  refine PySem.W.callWith_K (h₀ := X.base) I.ok.mod.kin hk (thn (ha pos pins s σ H _ I h) fun us s1 ⟨vs, H1, I1, r, gs, hgs, q⟩ => ⟨I1.kIn, ?_⟩) he hpl
  have lk : ∀ {x c}, cl.lookup x = some c -> (x, c) ∈ cl := fun e => PySem.mem_of_lookup e
  have O : OwnCells X s1 (csOf s1.heap cl) := fun c o e => by
    obtain ⟨h1, y, h2⟩ := csOf_some e
    exact ⟨⟨y, hin _ h2, hfn _ h2⟩, h1⟩
  have len : gs.length = fvs.length := by
    have a := congrArg List.length hgs
    have b := congrArg List.length hN
    simp only [List.length_map] at a b
    omega
  have C : CellsOf fvs cl (csOf s1.heap cl) gs := by
    refine ⟨len, fun a b c h1 h2 => I1.ok.inj a b c (hin _ (lk h1)) (hin _ (lk h2)), hcl, fun a c h1 => ?_, fun j a v h1 h2 => ?_⟩
    · obtain ⟨v, o, e1, e2⟩ := I1.cell a c (hin _ (lk h1))
      exact ⟨o, v, csOf_mem e1 (lk h1), e2⟩
    · obtain ⟨c, hc⟩ := hcl a (List.mem_of_getElem? h1)
      have e1 : (is.map fun i => X.N[i]?)[j]? = some (some a) := by rw [hN, List.getElem?_map, h1]; rfl
      have e2 : (is.map fun i => σ[i]?)[j]? = some (some (some v)) := by rw [hgs, List.getElem?_map, h2]; rfl
      rw [List.getElem?_map] at e1 e2
      obtain ⟨i, hi, e1⟩ := Option.map_eq_some_iff.mp e1
      rw [hi] at e2
      have e2 : σ[i]? = some (some v) := Option.some.inj e2
      obtain ⟨m, _, hl⟩ := I1.loc
      have kd := hkd a (List.mem_of_getElem? h1)
      obtain ⟨u, ru, lo⟩ := hl i a v e1 e2 (.inr (.inl kd))
      rcases lo with ⟨z, _⟩ | ⟨_, c2, e3, o, e4, e5⟩
      · have z : X.env.scope.names.lookup a = some .local := z
        rw [kd] at z
        cases z
      · rw [hin _ (lk hc)] at e3
        cases e3
        exact ⟨c, o, u, hc, csOf_mem e4 (lk hc), e5, ru⟩
  have hsp := q _ C (O.none' I1)
  refine wpAny_call (codeAny_mono (F.run X.A X.stack s1 (lend (csOf s1.heap cl) H1) ⟨us, []⟩ us vs _ E0 hr (I1.lendEnv O) (by
    have := hb s1 us I1.kIn (by rw [List.append_nil, <- r.length]; exact F.len _ _ _ _ hsp)
    rw [List.append_nil] at this
    exact this) r hsp) fun r s' hq => ?_)
  cases r with
  | error e => exact hq.elim
  | ok fl =>
    cases fl with
    | ret u => exact I1.lendBack O hq
    | next => exact False.elim hq
    | brk => exact False.elim hq
    | cont => exact False.elim hq
end
end L2
set_option Elab.async false
set_option linter.all false
set_option maxRecDepth 100000
namespace L2
open PySem PySem.Spec PyProof.Rows PySem.W
theorem law_callT {P : Program} {w : World} {K : PySem.W.Frag} {mg mb : Str -> Option Value} {CX : CXT} {k : Nat} {fa a : Addr} {ts : List Addr} {fd : FuncData} {x : Str} {sp : Sp} {s₁ : Shared} {vs : List Value} {ns : List Int}
    (hT : ∀ T ∈ ts, K.lookup T = none) (eT : ∀ T ∈ ts, s₁.heap.get? T = some (tabObj #[])) (hct : ∀ T ∈ ts, isCodeTable s₁.heap T)
    (KX : K.In s₁.heap) (hns : s₁.heap.Ns mainGlobals mg) (hb : s₁.heap.Ns builtinsNs mb) (hbb : ∀ x : Str, x ≠ "__name__" -> mb x = bootBuiltins x) (hlim : s₁.heap.NoLimit) (hg : s₁.gens = #[])
    (ha : s₁.heap.get? a = some { cls := .type "list", data := .seq vs.toArray }) (hi : IntsAre vs ns) (hl : ns.length <= sizeLine) (hr : Room k callerA)
    (hbm : ∃ bm ob, mg "__builtins__" = some (.ref bm) /\ bm ≠ builtinsNs /\ s₁.heap.get? bm = some ob /\ ob.cls = .type "module" /\ ob.dict = some builtinsNs /\ ob.data = .plain)
    (F : ∀ base : Heap, K.In base -> base.Ns mainGlobals mg -> (∀ T ∈ ts, base.BuiltinsAt mg T) -> FnOk P w K mg base CX k fa fd [x] sp) (hbind : ∀ (s : Shared) (u : Value), BindsTo s fd ⟨[u], []⟩ [(x, u)])
    (hsp : ∀ H : Hp, (∀ T ∈ ts, H T = some (.tbl #[])) -> SqL K H a (ns.map V.int) -> sp [.ref a] H (fun v _ => v = .bl true) fun _ _ _ => False)
    (hCX : ∀ H e s', CX [] H s₁ (fun _ _ _ => False) e s' -> False) :
    codeAny (model P w) callerA (.call (.ref fa) ⟨[.ref a], []⟩) (fun r s' => r = .ok (.ret (.bool true)) /\ OldK s₁.heap s'.heap /\ s'.os = s₁.os /\ AllBare s'.gens) s₁ := by
  have rv := vals_ints hi
  have lenV := hi.length
  have aT : ∀ {b}, b ∈ ts -> b ≠ a := fun {b} hb z => by
    have := eT b hb
    rw [z, ha] at this
    cases this
  have core : ∀ H : Hp, (∀ b, H b = none ∨ (b ∈ ts /\ H b = some (.tbl #[])) ∨ (b ∉ ts /\ ∃ o xs, H b = some (.frz o (.lst xs)))) -> (∀ T ∈ ts, H T = some (.tbl #[])) -> SqL K H a (ns.map V.int) -> HOk P w H s₁.heap -> (∀ b, H b ≠ none -> b = a ∨ b ∈ ts) -> (H a ≠ none -> K.lookup a = none) ->
      codeAny (model P w) callerA (.call (.ref fa) ⟨[.ref a], []⟩) (fun r s' => r = .ok (.ret (.bool true)) /\ OldK s₁.heap s'.heap /\ s'.os = s₁.os /\ AllBare s'.gens) s₁ := by
    intro H hO hHT hS hok hA hK
    have base_of : ∀ {b : Addr} {o : Obj}, s₁.heap.get? b = some o -> H b = none -> (hidT s₁.heap H).get? b = some o := fun e n => hidT_get e n
    have noA : ∀ {b : Addr} {o : Obj} {es : Array DictEntry} {ep : Nat}, s₁.heap.get? b = some o -> o.data = .dict es ep -> H b = none := fun {b o es ep} e d => by
      cases q : H b with
      | none => rfl
      | some u =>
        rcases hA b (by rw [q]; simp) with e' | e'
        · subst e'
          rw [ha] at e; cases e
          have d' : Data.seq vs.toArray _ = Data.dict es ep := d
          cases d'
        · rw [eT b e'] at e; cases e
          cases d
    have nsK : ∀ {b : Addr} {m : Str -> Option Value}, s₁.heap.Ns b m -> (hidT s₁.heap H).Ns b m := fun {b m} ⟨o, es, ep, e, d, r⟩ => ⟨o, es, ep, base_of e (noA e d), d, r⟩
    have hKb : K.In (hidT s₁.heap H) := fun b o e => base_of (KX b o e) (by
      cases q : H b with
      | none => rfl
      | some u =>
        rcases hA b (by rw [q]; simp) with e' | e'
        · subst e'
          rw [hK (by rw [q]; simp)] at e; cases e
        · rw [hT b e'] at e; cases e)
    have hB : ∀ T ∈ ts, (hidT s₁.heap H).BuiltinsAt mg T := fun T hTs => by
      obtain ⟨bm, ob, h1, h2, h3, h4, h5, h6⟩ := hbm
      have n1 : bm ≠ mainGlobals := fun z => by
        obtain ⟨o, es, ep, e, d, _⟩ := hns
        rw [z, e] at h3
        cases h3
        rw [d] at h6
        cases h6
      have n2 : ∀ {b}, b ∈ ts -> bm ≠ b := fun {b} hb z => by
        rw [z, eT b hb] at h3
        cases h3
        cases h6
      refine ⟨bm, ob, h1, h2, n1, n2 hTs, base_of h3 ?_, h4, h5, h6⟩
      cases q : H bm with
      | none => rfl
      | some u =>
        rcases hA bm (by rw [q]; simp) with e' | e'
        · subst e'
          rw [ha] at h3
          cases h3
          cases h6
        · exact absurd rfl (n2 e')
    have hM : Mod K mg (hidT s₁.heap H) := ⟨hKb, nsK hns, ⟨mb, nsK hb, hbb⟩, let ⟨mc, h1, h2⟩ := hlim; ⟨mc, nsK h1, h2⟩⟩
    have e0 : Env0 P w K mg (hidT s₁.heap H) callerA [] s₁ H := ⟨rfl, hM, fun b o e => of_hidT e, Nat.le_of_eq (hidT_size _ _), trivial, fun b hb => absurd (show b ∈ ([] : List Addr) from hb) (by simp), hok, .of_eq hg⟩
    refine codeAny_mono ((F _ hKb (nsK hns) hB).run callerA [] s₁ H ⟨[.ref a], []⟩ [.ref a] [.ref a] _ _ hr e0 (hbind s₁ (.ref a)) (.cons rfl .nil) (hsp H hHT hS)) fun r s' h => ?_
    cases r with
    | error e => exact (hCX H e s' h).elim
    | ok fl =>
      cases fl with
      | next => exact False.elim h
      | brk => exact False.elim h
      | cont => exact False.elim h
      | ret u =>
        obtain ⟨v, H', os, bare, un, hok', r', q⟩ := h
        have q' : v = .bl true := q
        subst q'
        obtain rfl : u = Value.bool true := r'
        have main : ∀ b o, s₁.heap.get? b = some o -> s'.heap.get? b = some o ∨ (b ∈ ts /\ o = tabObj #[] /\ ∃ more, s'.heap.get? b = some (tabObj (#[] ++ more))) := fun b o e => by
          cases q : H b with
          | none => exact .inl (un.keep b o e q (by intro z; exact absurd (show b ∈ ([] : List Addr) from z) (by simp)) (by simp))
          | some u =>
            rcases hO b with z | ⟨zT, z⟩ | ⟨_, ob, xs, z⟩
            · rw [q] at z; cases z
            · rw [eT b zT] at e
              cases e
              obtain ⟨more, z⟩ := un.tbls b _ z
              exact .inr ⟨zT, rfl, more, hok' b _ z⟩
            · have z2 := un.frzs b ob _ z
              obtain ⟨e1, _⟩ := hok b _ z
              obtain ⟨e2, _⟩ := hok' b _ z2
              rw [e] at e1; cases e1
              exact .inl e2
        refine ⟨rfl, ⟨fun b o e => ?_, fun b o e => ?_⟩, os, bare⟩
        · rcases main b o e with z | ⟨zT, rfl, more, z⟩
          · exact .inl z
          · exact .inr (.inl ⟨hct b zT, rfl, _, _, rfl, z⟩)
        · rcases main b o e with z | ⟨_, _, more, z⟩
          · exact ⟨_, z⟩
          · exact ⟨_, z⟩
  cases hk : K.lookup a with
  | some o =>
    have e := KX a o hk
    rw [ha] at e
    cases e
    refine core (fun b => if b ∈ ts then some (.tbl #[]) else none) (fun b => ?_) (fun T h => if_pos h) (.inr ⟨_, vs.toArray, _, hk, rfl, rfl, rfl, by rw [List.size_toArray, lenV]; exact hl, by simpa using rv⟩) (fun b u z => ?_) (fun b z => ?_) fun z => absurd (if_neg fun q => aT q rfl) z
    · by_cases hb : b ∈ ts
      · exact .inr (.inl ⟨hb, if_pos hb⟩)
      · exact .inl (if_neg hb)
    · by_cases hb : b ∈ ts
      · have z' := (if_pos hb).symm.trans z
        cases z'
        exact eT b hb
      · have z' := (if_neg hb).symm.trans z
        cases z'
    · by_cases hb : b ∈ ts
      · exact .inr hb
      · exact absurd (if_neg hb) z
  | none =>
    have T2 : ∀ {b : Addr}, b ∈ ts -> (fun b => if b ∈ ts then some (.tbl #[]) else if b = a then some (HO.frz { cls := .type "list", data := .seq vs.toArray } (.lst (ns.map V.int))) else none) b = some (.tbl #[]) := fun {b} hb => if_pos hb
    refine core (fun b => if b ∈ ts then some (.tbl #[]) else if b = a then some (.frz { cls := .type "list", data := .seq vs.toArray } (.lst (ns.map V.int))) else none) (fun b => ?_) (fun T h => if_pos h) (.inl (.inr ⟨{ cls := .type "list", data := .seq vs.toArray }, (if_neg fun q => aT q rfl).trans (if_pos rfl)⟩)) (fun b u z => ?_) (fun b z => ?_) fun _ => hk
    · by_cases hb2 : b ∈ ts
      · exact .inr (.inl ⟨hb2, if_pos hb2⟩)
      · by_cases hb : b = a
        · exact .inr (.inr ⟨hb2, _, _, (if_neg hb2).trans (if_pos hb)⟩)
        · exact .inl ((if_neg hb2).trans (if_neg hb))
    · by_cases hb2 : b ∈ ts
      · have z' := (if_pos hb2).symm.trans z
        cases z'
        exact eT b hb2
      · by_cases hb : b = a
        · have z' := ((if_neg hb2).trans (if_pos hb)).symm.trans z
          cases z'
          subst hb
          exact ⟨ha, by rw [List.length_map]; exact hl, vs, _, rv, ha⟩
        · have z' := ((if_neg hb2).trans (if_neg hb)).symm.trans z
          cases z'
    · by_cases hb2 : b ∈ ts
      · exact .inr hb2
      · by_cases hb : b = a
        · exact .inl hb
        · exact absurd ((if_neg hb2).trans (if_neg hb)) z
theorem lookup_not {K : PySem.W.Frag} {T : Addr} (h : T ∉ K.map (·.1)) : K.lookup T = none := by
  induction K with
  | nil => rfl
  | cons p K ih =>
    obtain ⟨b, o⟩ := p
    simp only [List.map_cons, List.mem_cons, not_or] at h
    rw [List.lookup_cons, show (T == b) = false by simpa using h.1]
    exact ih h.2
theorem walk_ofT {l : PySem.W.OpenLaw} {n k : Nat} {q : Program} {loose : List Str} {XP : (Str -> Option Value) -> Heap -> Prop} {d : DefRec} {K : Params -> PySem.W.Frag} {as ts : List Addr} {eas : ∀ P : Params, as = (K P).map (·.1)} {CX : World -> CXT} {sp : World -> Sp} {x : Str}
    (hn : l.most = some n) (hn2 : n <= sizeLine) (hdf : d.params.defaults = []) (hr : Room k callerA)
    (hts : (ts.all fun T => !as.contains T) = true)
    (F : ∀ (w : World) (mg : Str -> Option Value) (fa : Addr) (h : Heap), (K w.params).In h -> h.Ns mainGlobals mg -> mg d.name = some (.ref fa) ->
      ∃ fd : FuncData, (∀ (s : Shared) (u : Value), BindsTo s fd ⟨[u], []⟩ [(x, u)]) /\ (∀ T ∈ ts, isCodeTable h T) /\
        ∀ base : Heap, (K w.params).In base -> base.Ns mainGlobals mg -> (∀ T ∈ ts, base.BuiltinsAt mg T) -> FnOk l.prog w (K w.params) mg base (CX w) k fa fd [x] (sp w))
    (hsp : ∀ (w : World) (H : Hp) (a : Addr) (ns : List Int), ns.length <= n -> (∀ T ∈ ts, H T = some (.tbl #[])) -> SqL (K w.params) H a (ns.map V.int) -> sp w [.ref a] H (fun v _ => v = .bl true) fun _ _ _ => False)
    (hCX : ∀ (w : World) (H : Hp) (s : Shared) (e : Value) (s' : Shared), CX w [] H s (fun _ _ _ => False) e s' -> False) :
    PySem.W.WalkO q loose XP (kmHook K as eas ts).says l.row.toRowW d [] (fun f vs => PySem.call f vs) := by
  refine Att.attach_call hn hdf fun w s₀ s₁ mg mb fa o pm cd doc a vs ns G Y ho hd hcd hmg hobj hints hlen hg => ?_
  have KX : (K w.params).In s₁.heap := km_in_of Y
  have eT : ∀ T ∈ ts, s₁.heap.get? T = some (tabObj #[]) := Y.2
  obtain ⟨fd, hb, hct, hF⟩ := F w mg fa _ KX G.T.g hmg
  refine law_callT (fun T h => lookup_not ?_) eT hct KX G.T.g G.T.b G.T.builtins G.T.nolimit hg hobj hints (Nat.le_trans hlen hn2) hr G.T.bmain hF hb (fun H hO hS => hsp w H a ns hlen hO hS) fun H e s' => hCX w H s₁ e s'
  have := List.all_eq_true.mp hts T h
  rw [<- eas w.params]
  simpa using this
end L2
set_option Elab.async false
set_option linter.all false
set_option maxRecDepth 100000
namespace L2
open PySem PySem.Spec PySem.Calls PyProof.Rows PySem.W
section
variable {X : Cx} {i : Nat} {x n : Str} {D : Addr} {ok : Addr -> Prop} {np hpos pos : Pos} {b₀ : Stmt} {suite body : List Stmt} {tb : XK -> TS} {ts : TS}
def XEF (X : Cx) (i : Nat) (ok : Addr -> Prop) (ts : TS) (R : Ends) : XK := fun cls dd H' => ∃ C, ok C /\ XE X i C ts R cls dd H'
def tTry2F (X : Cx) (i : Nat) (ok : Addr -> Prop) (tb : XK -> TS) (ts : TS) : TS := fun D σ H => tb (XEF X i ok ts D) D σ H
theorem ps_try2F (hN : X.N.Nodup) (hi : X.N[i]? = some n) (hl : X.env.scope.names.lookup n = some .local) (hst : X.stack = X.env :: X.outer) (hfr : X.env.frame = some X.env.locals)
    (hg : Gl X x) (hm : X.mg x = some (.ref D)) (hx : ∀ C, ok C -> PySem.W.exmOne X.K (.ref C) (.ref D) = some true) (hb : ∀ (E : XK) (W : Value -> Shared -> Prop) (pn : List (Addr × Obj)), Passes (CX2 X.prog X.w) (X.atW W pn) E -> PSs (X.atW W pn) body (tb E)) (hs : ∀ a, PSs (X.inX a).nox (b₀ :: suite) ts) (hd : (x == ("__debug__" : Str)) = false := by decide) :
    PS X (.Try body [.ExceptHandler (some (.Name x np)) (some n) (b₀ :: suite) hpos] [] [] pos) (tTry2F X i ok tb ts) := by
  intro pins s σ H R I h
  have hb' := hb (XEF X i ok ts R) (fun e s' => ∃ σ H s, Inv X pins σ H s /\ CX2 X.prog X.w X.stack H s (XEF X i ok ts R) e s') (X.pn ++ pins) (fun p2 σ2 H2 s2 e s' I2 hc => ⟨σ2, H2, s2, I2.ofAt I.ok, hc⟩)
  refine wpAny_Try_except (wpAny_mono (hb' [] s σ H R (I.toAt _) h) (fun f s1 q => ?_) fun e s1 ⟨σ', H', s0, I0, hc⟩ => ?_)
  · cases f with
    | next =>
      obtain ⟨σ', H', I', q⟩ := q
      exact wpAny_execs_nil ⟨σ', H', I'.ofAt I.ok, q⟩
    | ret v =>
      obtain ⟨v', σ', H', I', r, q⟩ := q
      exact ⟨v', σ', H', I'.ofAt I.ok, r, q⟩
    | brk =>
      obtain ⟨σ', H', I', q⟩ := q
      exact ⟨σ', H', I'.ofAt I.ok, q⟩
    | cont =>
      obtain ⟨σ', H', I', q⟩ := q
      exact ⟨σ', H', I'.ofAt I.ok, q⟩
  · obtain ⟨a, cls, H2, B, a0, dd, h1, h2, h3, h4, h5, h6, h7, C, okC, hE⟩ := hc
    exact caught_ok2 hN hi hl hst hfr hg hm (hx C okC) hs I0 ⟨a, cls, H2, B, a0, dd, h1, h2, h3, h4, h5, h6, h7, hE⟩ hd
end
end L2
set_option Elab.async false
set_option linter.all false
set_option maxRecDepth 100000
namespace L2
open PySem PySem.Spec PySem.Calls PyProof.Rows PySem.W
theorem FnOk.toX2 {P : Program} {w : World} {K : PySem.W.Frag} {mg : Str -> Option Value} {base : Heap} {k : Nat} {f : Addr} {fd : FuncData} {ps : List Str} {sp : Sp} (F : FnOk P w K mg base (CX1 P w) k f fd ps sp) : FnOk P w K mg base (CX2 P w) k f fd ps (fun vs H Q E => sp vs H Q (fun cls _ H' => ∀ dd, E cls dd H')) := by
  refine ⟨fun vs H Q E h => F.len vs H Q _ h, fun A outer s H args us vs Q E h1 h2 h3 h4 h => codeAny_mono (F.run A outer s H args us vs Q _ h1 h2 h3 h4 h) fun r s' q => ?_⟩
  cases r with
  | ok fl => cases fl <;> exact q
  | error e =>
    obtain ⟨a, cls, H', B, a0, e1, os, bare, un, hok, fl, i, hE⟩ := q
    obtain ⟨f1, f2, f3, oe, vs', T, oT, ts, g1, g2, g3, g4, g5, g6, g7, g8, g9⟩ := fl
    exact ⟨a, cls, H', B, a0, oe.dict, e1, os, bare, un, hok, ⟨f1, f2, f3, oe, vs', T, oT, ts, g1, g2, g3, g4, g5, g6, g7, g8, g9, rfl⟩, i, hE _⟩
end L2
set_option Elab.async false
set_option linter.all false
set_option maxRecDepth 100000
namespace L2
open PySem PySem.Spec PyProof.Rows
section
variable {X : Cx}
def rSlS : V -> Option Int -> Option Int -> Hp -> VK -> Prop := fun x lo hi H Q => ∃ z, x = .str z /\ z.length <= sizeLine /\ Q (.str (Txt.slice z lo hi)) H
theorem sl_str : SlR X rSlS := by
  intro pins s σ H x v vl vu lo hi sl Q I rx hs pl pu h
  obtain ⟨z, rfl, hz, q⟩ := h
  obtain ⟨t, rfl⟩ := rx
  refine ⟨"str", _, PySem.F.slot_str_getitem.lookup, typeIs_str _ _ _, ?_⟩
  have fin : ∀ lo hi, Q (.str (Txt.slice z lo hi)) H -> (Txt.slice z lo hi).length <= sizeLine /\ ∀ t' k, EP X pins σ Q (.str (Txt.slice z lo hi) t') { s with toks := k } := fun lo hi q =>
    ⟨Nat.le_trans (Txt.slice_le z _ _) hz, fun t' k => ⟨.str _, H, I.kept (h' := s.heap) (t' := k) fun _ _ e => e, ⟨t', rfl⟩, q⟩⟩
  cases pl with
  | none =>
    cases pu with
    | none => exact wpAny_getItem_str_slice (l := none) (u := none) (st := none) hs rfl (post_val_or_str (fin _ _ q))
    | int j u => exact wpAny_getItem_str_slice (l := none) (u := some (j, u)) (st := none) hs rfl (post_val_or_str (fin _ _ q))
  | int i u =>
    cases pu with
    | none => exact wpAny_getItem_str_slice (l := some (i, u)) (u := none) (st := none) hs rfl (post_val_or_str (fin _ _ q))
    | int j u' => exact wpAny_getItem_str_slice (l := some (i, u)) (u := some (j, u')) (st := none) hs rfl (post_val_or_str (fin _ _ q))
theorem cut_to {x : Str} {j : Nat} (h : j <= x.length) : (Txt.slice x none (some (j : Int))).cps.toList = x.cps.toList.take j := by
  have := eq_of_beq (slice_closes_toL (x := x) (j := (j : Int)) (by omega) (by omega))
  rw [this]
  simp
end
end L2
set_option Elab.async false
set_option linter.all false
set_option maxRecDepth 100000
namespace L2
open PySem PySem.Spec PyProof.Rows PySem.Builtin PySem.Builtin.Str
section
variable {X : Cx}
end
end L2
set_option Elab.async false
set_option linter.all false
set_option maxRecDepth 100000
namespace L2
open PySem PySem.Spec PyProof.Rows PySem.W
section
variable {X : Cx}
def rMulS : R2 := fun x y H Q => ∃ z n, x = .str z /\ y = .int n /\ PySem.MulOk z n /\ Q (.str (Txt.mul z n)) H
theorem op_mulS : OpR X (binaryOp .Mult) rMulS := by
  intro pins s σ H x y v u Q I rx ry h
  obtain ⟨z, n, rfl, rfl, ok, q⟩ := h
  obtain ⟨t, rfl⟩ := rx
  obtain ⟨t2, rfl⟩ := ry
  exact SB.mul ok fun t' k => ⟨.str _, H, I.tok _, ⟨_, rfl⟩, q⟩
end
end L2
set_option Elab.async false
set_option linter.all false
set_option maxRecDepth 100000
namespace L2
open PySem PySem.Spec PyProof.Rows PySem.W
section
variable {X : Cx}
def rInO (K : PySem.W.Frag) (neg : Bool) : R2 := fun x y H Q => rIn K neg x y H Q ∨ ∃ (p t : Addr) (ss : List Str) (ts : List V), x = .ref t /\ y = .ref p /\ SqL K H p (ss.map V.str) /\ H t = some (.tup ts) /\ Q (.bl neg) H
theorem str_tup {A : Around} {s : Shared} {t : Addr} {items : Array Value} (ht : s.heap.IsTuple t items) (hu : A.units < cLine) : ∀ {ss : List Str} {us : List Value}, Vals (ss.map V.str) us -> ∀ u ∈ us, SeqAt.EqAt A s u (.ref t) false
  | [], _, .nil => fun u hu => by cases hu
  | x :: ss, _ :: us, .cons r q => fun u hm => by
    rcases List.mem_cons.mp hm with rfl | hm
    · obtain ⟨tk, rfl⟩ := r
      exact SeqAt.EqAt.str_tuple x tk ht hu
    · exact str_tup ht hu q u hm
theorem op_notInO (hu : X.A.units + 1 < cLine) : OpR X (compareOp .NotIn) (rInO X.K true) := by
  intro pins s σ H x y v u Q I rx ry h
  rcases h with h | ⟨p, t, ss, ts, rfl, rfl, hl, ht, q⟩
  · exact op_notIn_seq pins s σ H x y v u Q I rx ry h
  cases rx
  cases ry
  obtain ⟨its, r, pl, hz⟩ := I.list hl
  obtain ⟨its2, r2, pl2, hz2⟩ := I.tuple (.of ht)
  refine SeqAt.notIn_listAt (fun _ => false) pl.isList (fun w hw => str_tup (A := X.A.in1) pl2 hu r w (by simpa using hw)) ⟨.bl _, H, I, rfl, ?_⟩
  rw [show its.toArray.any (fun _ => false) = false by simp]
  exact q
end
end L2
set_option Elab.async false
set_option linter.all false
set_option maxRecDepth 100000
namespace L2
open PySem PySem.Spec PyProof.Rows
theorem FnOk.or {P : Program} {w : World} {K : PySem.W.Frag} {mg : Str -> Option Value} {base : Heap} {CX : CXT} {k : Nat} {f : Addr} {fd : FuncData} {ps : List Str} {sp sp' : Sp} (F : FnOk P w K mg base CX k f fd ps sp) (G : FnOk P w K mg base CX k f fd ps sp') : FnOk P w K mg base CX k f fd ps (fun vs H Q E => sp vs H Q E ∨ sp' vs H Q E) :=
  ⟨fun vs H Q E h => h.elim (F.len vs H Q E) (G.len vs H Q E), fun A outer s H args us vs Q E h1 h2 h3 h4 h => h.elim (F.run A outer s H args us vs Q E h1 h2 h3 h4) (G.run A outer s H args us vs Q E h1 h2 h3 h4)⟩
end L2
namespace Ev
open PySem L2
structure CalG (P : Program) (w : World) (K : PySem.W.Frag) (mg : Str -> Option Value) (base : Heap) (k : Nat) (x : Str) (ps : List Str) (sp : Sp) : Prop where
  ex : ∃ f fd, FnOk P w K mg base (CX2 P w) k f fd ps sp /\ mg x = some (.ref f) /\ PySem.W.keepIn K (.ref f) = true /\ Binds K fd ps []
theorem pe_fg {X : Cx} {E : XK} {k : Nat} {x : Str} {ps : List Str} {sp : Sp} {p pos : Pos} {e : Expr} {es : List Expr} {t : TA} (c : CalG X.prog X.w X.K X.mg X.base k x ps sp) (hr : Room k X.A) (hx : Passes (CX2 X.prog X.w) X E) (ha : PA X (e :: es) t) (hg : Gl X x := by rfl) (hdb : (x == ("__debug__" : Str)) = false := by decide)
    (he : starEach (e :: es) X.env = (false, eval e X.env) :: starEach es X.env := by rfl) (hpl : (backTo pos (starEach es X.env)).any (·.1) = false := by rfl) : PE X (.Call (.Name x p) (e :: es) [] pos) (tCall sp [] E t) := by
  obtain ⟨f, fd, F, m, kp, b⟩ := c.ex
  exact pe_call F hr hg m kp b .nil hx ha hdb he hpl
structure CalMG (P : Program) (w : World) (K : PySem.W.Frag) (mg : Str -> Option Value) (base : Heap) (C : Addr) (k : Nat) (m : Str) (ps : List Str) (sp : Sp) : Prop where
  ex : ∃ f fd, FnOk P w K mg base (CX2 P w) k f fd ps sp /\ Meth K C m f /\ Binds K fd ps []
theorem pe_mtG {X : Cx} {C : Addr} {E : XK} {k : Nat} {m : Str} {ps : List Str} {sp : Sp} {pos apos : Pos} {o e : Expr} {es : List Expr} {ta : TE} {t : TA} {pl : Sem Bool} (c : CalMG X.prog X.w X.K X.mg X.base C k m ps sp) (cl : Cls X.K C) (hr : Room k X.A) (hx : Passes (CX2 X.prog X.w) X E) (he : PE X o ta) (ha : PA X (e :: es) t)
    (hst : starEach (e :: es) X.env = (false, eval e X.env) :: starEach es X.env := by rfl) (hpl : (backTo pos (starEach es X.env)).any (·.1) = false := by rfl)
    (ht : eval (.Call (.Attribute o m apos) (e :: es) [] pos) X.env = (do
      let ov <- eval o X.env
      standAt apos.atName
      let (f, first) <- holding [ov] (getMethod ov m pl)
      callWith pos f first (backTo pos (starEach (e :: es) X.env)) (backToKw pos (keywordEach [] X.env))) := by rfl) :
    PE X (.Call (.Attribute o m apos) (e :: es) [] pos) (tMeth C m sp [] E ta t) := by
  obtain ⟨f, fd, F, hm, b⟩ := c.ex
  exact pe_meth he cl hm F hr b .nil hx ha hst hpl ht
structure CalC (P : Program) (w : World) (K : PySem.W.Frag) (mg : Str -> Option Value) (base : Heap) (C : Addr) (k : Nat) (x : Str) (ps : List Str) (sp : Sp) : Prop where
  ex : ∃ f fd, FnOk P w K mg base CX0 k f fd ps sp /\ Mk K C f /\ mg x = some (.ref C) /\ Binds K fd ps []
theorem pe_mk {X : Cx} {C : Addr} {k : Nat} {x : Str} {ps : List Str} {sp : Sp} {p pos : Pos} {e : Expr} {es : List Expr} {t : TA} (c : CalC X.prog X.w X.K X.mg X.base C k x ps sp) (hr : Room (k + 1) X.A) (ha : PA X (e :: es) t) (hg : Gl X x := by rfl) (hdb : (x == ("__debug__" : Str)) = false := by decide)
    (he : starEach (e :: es) X.env = (false, eval e X.env) :: starEach es X.env := by rfl) (hpl : (backTo pos (starEach es X.env)).any (·.1) = false := by rfl) : PE X (.Call (.Name x p) (e :: es) [] pos) (tMake C sp [] E0 t) := by
  obtain ⟨f, fd, F, M, m, b⟩ := c.ex
  exact pe_make M F hr hg m b .nil pass0 ha hdb he hpl
structure CalCG (P : Program) (w : World) (K : PySem.W.Frag) (mg : Str -> Option Value) (base : Heap) (C : Addr) (k : Nat) (x : Str) (ps : List Str) (sp : Sp) : Prop where
  ex : ∃ f fd, FnOk P w K mg base (CX2 P w) k f fd ps sp /\ Mk K C f /\ mg x = some (.ref C) /\ Binds K fd ps []
theorem pe_mkG {X : Cx} {C : Addr} {E : XK} {k : Nat} {x : Str} {ps : List Str} {sp : Sp} {p pos : Pos} {e : Expr} {es : List Expr} {t : TA} (c : CalCG X.prog X.w X.K X.mg X.base C k x ps sp) (hr : Room (k + 1) X.A) (hx : Passes (CX2 X.prog X.w) X E) (ha : PA X (e :: es) t) (hg : Gl X x := by rfl) (hdb : (x == ("__debug__" : Str)) = false := by decide)
    (he : starEach (e :: es) X.env = (false, eval e X.env) :: starEach es X.env := by rfl) (hpl : (backTo pos (starEach es X.env)).any (·.1) = false := by rfl) : PE X (.Call (.Name x p) (e :: es) [] pos) (tMake C sp [] E t) := by
  obtain ⟨f, fd, F, M, m, b⟩ := c.ex
  exact pe_make M F hr hg m b .nil hx ha hdb he hpl
structure Ref (K : PySem.W.Frag) (mg : Str -> Option Value) (x : Str) (C : Addr) : Prop where
  mg : mg x = some (.ref C)
  ex : PySem.W.excIn K C [.type "ValueError", .type "Exception", .type "BaseException", .type "object"] "ValueError.__new__" = true
def HandV (K : PySem.W.Frag) (H : Hp) (v : V) : Option (Str × Int) -> Prop
  | some h => goodH h /\ ∃ p, v = .ref p /\ H p = some (.tup [.str h.1, .int h.2])
  | none => (∃ t, TyOf K H v t /\ PySem.W.kitOne K t (.type "tuple") = some false) ∨ (∃ p xs, v = .ref p /\ H p = some (.tup xs) /\ xs.length ≠ 2) ∨
      ∃ (p : Addr) (u1 u2 : V) (x : Option Str) (n : Option Int), v = .ref p /\ H p = some (.tup [u1, u2]) /\ StrV K H u1 x /\ IntV K H u2 n /\ (∀ y, x = some y -> y.length <= 100000) /\ (x.elim false nameB && n.elim false fun i => decide (1 <= i) && decide (i <= 1000)) = false
section
variable {P : Program} {w : World} {K : PySem.W.Frag} {mg : Str -> Option Value} {base : Heap}
theorem IntV.same {H H' : Hp} {v : V} {x : Option Int} (h : IntV K H v x) (s : Same H H') : IntV K H' v x := by
  cases x with
  | some x => exact h
  | none =>
    rcases h with h | ⟨t, ty, e⟩
    · exact .inl h
    · exact .inr ⟨t, ty.sameT s, e⟩
theorem HandV.same {H H' : Hp} {v : V} {o : Option (Str × Int)} (h : HandV K H v o) (s : Same H H') : HandV K H' v o := by
  cases o with
  | some t =>
    obtain ⟨g, p, e, hp⟩ := h
    exact ⟨g, p, e, s _ _ hp⟩
  | none =>
    rcases h with ⟨t, ty, e⟩ | ⟨p, xs, e, hp, hl⟩ | ⟨p, u1, u2, x1, x2, e, hp, su1, su2, r⟩
    · exact .inl ⟨t, ty.sameT s, e⟩
    · exact .inr (.inl ⟨p, xs, e, s _ _ hp, hl⟩)
    · exact .inr (.inr ⟨p, u1, u2, x1, x2, e, s _ _ hp, su1.same s, su2.same s, r⟩)
def spHandA (K : PySem.W.Frag) : Sp := fun vs H Q _ => ∃ (v : V) (o : Option (Str × Int)), vs = [v] /\ HandV K H v o /\ ∀ H', Same H H' -> Q (.bl o.isSome) H'
theorem ok_handA {f : Addr} {fd : FuncData} (F : Fun K "is_hand_with_strength" "is_hand_with_strength" sHand f fd) (B : Bi mg) (cN : Cal P w K mg base 1 "is_name" ["thing"] (spNameA K)) (cW : Cal P w K mg base 2 "is_whole_within" ["thing", "least", "most"] (spWholeA K)) {tk : Tok} (mS : mg "MOST_STRENGTH" = some (.int 1000 tk)) :
    FnOk P w K mg base CX0 3 f fd ["thing"] (spHandA K) := by
  refine F.ok scHand (fun vs H Q E h => ?_) (fun cdv A outer s H vs Q E hr h => ?_)
  · obtain ⟨p, o, rfl, _⟩ := h
    rfl
  · obtain ⟨v, o, rfl, hv, k⟩ := h
    have hr1 : Room 1 _ := hr.mono (by decide)
    refine ⟨_, pss_cons (ps_if (pw_or (pt_not (pt_val (pe_callB call_isi (by rfl) B.isi PyProof.Rows.Boot.«isinstance» (pa_cons (pv 0) (pa_cons (pe_bltn (v := .ty "tuple") (by rfl) B.tuple PyProof.Rows.Boot.«tuple» rfl) pa_nil)))))
        (pw_or1 (pt_cmpR op_ne (pe_callB call_len_seq (by rfl) B.len PySem.boot_len (pa_cons (pv 0) pa_nil)) pe_int (nomark _)))).pt (pss_one (ps_ret pe_bl)) pss_nil)
      (pss_one (ps_ret (pe_and (pe_fn cN hr1 (pa_cons (pe_ix ix_tup (pv 0) pe_int (fun _ _ => rfl)) pa_nil)) (pe_one (pe_fn cW hr (pa_cons (pe_ix ix_tup (pv 0) pe_int (fun _ _ => rfl)) (pa_cons pe_int (pa_cons (pe_glob (v := .int 1000) (by rfl) mS ⟨tk, rfl⟩) pa_nil)))))))), ?_⟩
    have nf : (∃ t, TyOf K H v t /\ PySem.W.kitOne K t (.type "tuple") = some false /\ ∀ H', Same H H' -> Q (.bl false) H') ∨ (∃ p xs, v = .ref p /\ H p = some (.tup xs) /\ xs.length ≠ 2 /\ ∀ H', Same H H' -> Q (.bl false) H') ∨
        ∃ (p : Addr) (u1 u2 : V) (x : Option Str) (n : Option Int), v = .ref p /\ H p = some (.tup [u1, u2]) /\ StrV K H u1 x /\ IntV K H u2 n /\ (∀ y, x = some y -> y.length <= 100000) /\ ∀ H', Same H H' -> Q (.bl (x.elim false nameB && n.elim false fun i => decide (1 <= i) && decide (i <= 1000))) H' := by
      cases o with
      | some t =>
        obtain ⟨⟨g1, g2, g3⟩, p, e, hp⟩ := hv
        refine .inr (.inr ⟨p, _, _, some t.1, some t.2, e, hp, rfl, rfl, fun y e => by cases e; have := nameB_len g1; omega, fun H' s => ?_⟩)
        have q := k H' s
        have e2 : ((some t.1).elim false nameB && (some t.2).elim false fun i => decide (1 <= i) && decide (i <= 1000)) = true := by
          show (nameB t.1 && (decide (1 <= t.2) && decide (t.2 <= 1000))) = true
          rw [g1, decide_eq_true g2, decide_eq_true g3]
          rfl
        rw [e2]
        exact q
      | none =>
        rcases hv with ⟨t, ty, e⟩ | ⟨p, xs, e, hp, hl⟩ | ⟨p, u1, u2, x1, x2, e, hp, su1, su2, l1, eb⟩
        · exact .inl ⟨t, ty, e, k⟩
        · exact .inr (.inl ⟨p, xs, e, hp, hl, k⟩)
        · exact .inr (.inr ⟨p, u1, u2, x1, x2, e, hp, su1, su2, l1, fun H' s => by rw [eb]; exact k H' s⟩)
    clear k hv
    rcases nf with ⟨t, ty, e, k⟩ | ⟨p, xs, rfl, hp, hl, k⟩ | ⟨p, u1, u2, x1, x2, rfl, hp, su1, su2, l1, k⟩
    · exact ⟨_, rfl, _, _, _, _, rfl, ty, e, _, rfl, iteT (k H (Same.refl H))⟩
    · refine ⟨_, rfl, _, _, _, _, rfl, .tup hp, rfl, _, rfl, iteF ?_⟩
      refine ⟨_, rfl, p, _, rfl, .inr (.of hp), rfl, _, rfl, ?_⟩
      refine iteSF (fun z : V.int (xs.length : Int) = V.int 2 => hl (by injection z; omega)) ?_
      exact k H (Same.refl H)
    · refine ⟨_, rfl, _, _, _, _, rfl, .tup hp, rfl, _, rfl, iteF ?_⟩
      refine ⟨_, rfl, p, _, rfl, .inr (.of hp), rfl, _, rfl, ?_⟩
      refine iteNS (show V.int ((2 : Nat) : Int) = V.int 2 from rfl) ?_
      refine ⟨_, rfl, p, _, _, _, rfl, rfl, .of hp, rfl, u1, x1, rfl, su1, l1, fun H1 s1 => ⟨_, rfl, ?_⟩⟩
      have hp1 := s1 _ _ hp
      have kk := k H1 s1
      refine ite2 (fun c => ?_) (fun c => ?_)
      · refine ⟨_, rfl, p, _, _, _, rfl, rfl, .of hp1, rfl, u2, x2, 1, 1000, rfl, su2.same s1, ?_⟩
        rw [c] at kk
        exact kk
      · rw [show x1.elim false nameB = false by simpa using c] at kk
        exact kk
def BadHs (K : PySem.W.Frag) (H : Hp) (v : V) : Prop := (∃ t, TyOf K H v t /\ PySem.W.kitOne K t (.type "list") = some false) ∨
  ∃ (l : Addr) (ys : List V), v = .ref l /\ H l = some (.lst ys) /\ (ys = [] ∨ 8 < ys.length ∨ ∃ (hs : List (Str × Int)) (y : V), TupsAt K H (ys.take hs.length) (hs.map kH) /\ (∀ h ∈ hs, goodH h) /\ (hs.map (·.1)).Nodup /\ ys[hs.length]? = some y /\
    (HandV K H y none ∨ ∃ h, HandV K H y (some h) /\ h.1 ∈ hs.map (·.1)))
def spStrN (K : PySem.W.Frag) (CN : Addr) : Sp := fun vs H _ E => ∃ v, vs = [v] /\ BadHs K H v /\ ∀ H', Same H H' -> E (.ref CN) none H'
set_option maxHeartbeats 800000 in
theorem ok_strN {f CN : Addr} {fd : FuncData} (F : Fun K "checked_strengths" "checked_strengths" sStr f fd) (B : Bi mg) (R : Ref K mg "NoWeb" CN) (cH : Cal P w K mg base 3 "is_hand_with_strength" ["thing"] (spHandA K)) {tk : Tok} (mH : mg "MOST_HANDS" = some (.int 8 tk)) : FnOk P w K mg base (CX1 P w) 4 f fd ["hands"] (spStrN K CN) := by
  refine F.okQ scStr (fun vs H Q E h => ?_) (fun cdv A outer s H vs Q E hr h own ps rs => ?_)
  · obtain ⟨v, rfl, _⟩ := h
    rfl
  · obtain ⟨v, rfl, bad, k⟩ := h
    have hu := hu_of hr
    have sz := sizeLine_eq
    refine' ⟨_, pss_cons ?s1 (pss_cons ?s2 (pss_cons ?s3 pss_never)), ?kk⟩
    case s1 => exact ps_if (pw_or (pt_not (pt_val (pe_callB call_isi (by rfl) B.isi PyProof.Rows.Boot.«isinstance» (pa_cons (pv 0) (pa_cons (pe_bltn (v := .ty "list") (by rfl) B.list PyProof.Rows.Boot.«list» rfl) pa_nil)))))
        (pw_or1 (pt_not (pt_chain op_le op_le pe_int (pe_callB call_len_seq (by rfl) B.len PySem.boot_len (pa_cons (pv 0) pa_nil)) (pe_glob (v := .int 8) (by rfl) mH ⟨tk, rfl⟩))))).pt (pss_one (ps_raise rfl rs R.mg R.ex PySem.F.excBase_ValueError (by rfl) (pa_cons pe_str pa_nil))) pss_nil
    case s2 => exact ps_set (i := 1) scStr.nd rfl (Or.inl rfl) pe_dnewK
    case' s3 => refine' ps_for own rfl (pi_list (pv 0)) (pg_name (i := 2) scStr.nd rfl (Or.inl rfl)) (pss_cons ?b1 (pss_cons ?b2 (pss_one ?b3)))
    case b1 => exact ps_if (pt_not (pt_val (pe_fn cH hr (pa_cons (pv 2) pa_nil)))) (pss_one (ps_raise rfl rs R.mg R.ex PySem.F.excBase_ValueError (by rfl) (pa_cons pe_str pa_nil))) pss_nil
    case b2 => exact ps_if (pt_cmp (pc_din hu (pe_ix ix_tup (pv 2) pe_int (fun _ _ => rfl)) (pv 1))) (pss_one (ps_raise rfl rs R.mg R.ex PySem.F.excBase_ValueError (by rfl) (pa_cons pe_str pa_nil))) pss_nil
    case b3 => exact ps_dput hu (pv 1) (pe_ix ix_tup (pv 2) pe_int (fun _ _ => rfl)) (pe_ix ix_tup (pv 2) pe_int (fun _ _ => rfl)) rfl
    case' kk => skip
    have fin : ∀ H', Same H H' -> 1 <= sizeLine /\ E (.ref CN) none H' := fun H' s => ⟨by decide, k H' s⟩
    rcases bad with ⟨t, ty, e⟩ | ⟨l, ys, rfl, hl, bad⟩
    · exact ⟨_, rfl, _, _, _, _, rfl, ty, e, _, rfl, iteT (fin H (Same.refl H))⟩
    · refine ⟨_, rfl, _, _, _, _, rfl, .lst hl, rfl, _, rfl, iteF ?_⟩
      refine ⟨_, rfl, l, _, rfl, .inl (.of hl), _, _, rfl, rfl, _, rfl, ?_⟩
      by_cases c1 : (1 : Int) <= (ys.length : Int)
      rotate_left 1
      · rw [decide_eq_false c1]
        exact iteF ⟨_, rfl, iteT (fin H (Same.refl H))⟩
      rw [decide_eq_true c1]
      refine iteT ⟨_, _, rfl, rfl, _, rfl, ?_⟩
      by_cases c8 : (ys.length : Int) <= 8
      rotate_left 1
      · rw [decide_eq_false c8]
        exact iteT (fin H (Same.refl H))
      rw [decide_eq_true c8]
      refine iteF ?_
      rcases bad with bad | bad | ⟨hs, y0, tu, good, nd, hy0, bad⟩
      · subst bad
        exact absurd c1 (by decide)
      · omega
      have hlt : hs.length < ys.length := (List.getElem?_eq_some_iff.mp hy0).1
      intro d hd
      have s0 : Same H (upd H d (.dK [])) := Same.new hd
      refine ⟨_, rfl, l, rfl, ⟨_, .of (s0 _ _ hl)⟩, for_list (K := K) (a := l) (xs := ys) (fun i σ H2 => ∃ (v2 : Option V), i <= hs.length /\ σ = [some (.ref l), some (.ref d), v2] /\ Same H H2 /\ H2 d = some (.dK ((hs.take i).map fun h => (Sum.inr h.1, V.int h.2)))) ⟨none, Nat.zero_le _, rfl, s0, upd_same⟩ (fun i σ H2 _ ⟨_, _, _, s2, _⟩ => .of (s2 _ _ hl)) ?_ ?_⟩
      · rintro i y σ H2 hy ⟨v2, hi, rfl, s2, hd2⟩
        by_cases hlt2 : i < hs.length
        · obtain ⟨t, ht, a, rfl, ha⟩ := paired_map tu (by rw [List.getElem?_take_of_lt hlt2]; exact hy)
          have g := good t (List.mem_of_getElem? ht)
          have ha2 := s2 _ _ (hpH ha)
          refine ⟨_, rfl, .ref a, some t, rfl, ⟨g, a, rfl, ha2⟩, fun H3 s3 => ⟨_, rfl, iteF ?_⟩⟩
          have ha3 := s3 _ _ ha2
          have hd3 := s3 _ _ hd2
          have nov : valV ((hs.take i).map fun h => ((Sum.inr h.1 : Key), V.int h.2)) (Sum.inr t.1) = none := valV_none_of (by
            rw [List.map_map]
            have q := nodup_take (g := fun h : Str × Int => h.1) nd ht
            intro m
            obtain ⟨h, hh, e⟩ := List.mem_map.mp m
            exact q (List.mem_map.mpr ⟨h, hh, Sum.inr.inj e⟩))
          refine ⟨_, rfl, a, _, _, _, rfl, rfl, .of ha3, rfl, _, rfl, d, _, rfl, .k (k := Sum.inr t.1) hd3, _, rfl, ?_⟩
          rw [nov]
          refine iteF ?_
          refine ⟨_, rfl, a, _, _, _, rfl, rfl, .of ha3, rfl, _, rfl, _, rfl, a, _, _, _, rfl, rfl, .of ha3, rfl, d, _, rfl, .k (k := Sum.inr t.1) hd3 (by rw [List.length_map, List.length_take]; omega), ?_⟩
          refine ⟨_, hlt2, rfl, fun c o e => ?_, ?_⟩
          · rw [upd_ne (ne_of_none e hd)]
            exact s3 _ _ (s2 _ _ e)
          · rw [upd_same, putK_new _ nov, take_succ_map _ ht]
        · obtain rfl : i = hs.length := by omega
          rw [hy] at hy0
          cases hy0
          rcases bad with bad | ⟨t, pt, hm⟩
          · refine ⟨_, rfl, _, none, rfl, bad.same s2, fun H3 s3 => ⟨_, rfl, ?_⟩⟩
            exact iteT (fin H3 (s2.trans s3))
          · have pt2 := pt.same s2
            obtain ⟨g, a, rfl, ha2⟩ := id pt2
            refine ⟨_, rfl, .ref a, some t, rfl, pt2, fun H3 s3 => ⟨_, rfl, iteF ?_⟩⟩
            have ha3 := s3 _ _ ha2
            have hd3 := s3 _ _ hd2
            refine ⟨_, rfl, a, _, _, _, rfl, rfl, .of ha3, rfl, _, rfl, d, _, rfl, .k (k := Sum.inr t.1) hd3, _, rfl, ?_⟩
            have yes : (valV ((hs.take hs.length).map fun h => ((Sum.inr h.1 : Key), V.int h.2)) (Sum.inr t.1)).isSome = true := valV_some (by
              rw [List.take_length, List.map_map]
              obtain ⟨h, hh, e⟩ := List.mem_map.mp hm
              exact List.mem_map.mpr ⟨h, hh, congrArg Sum.inr e⟩)
            rw [yes]
            exact iteT (fin _ (s2.trans s3))
      · rintro σ H2 ⟨v2, hi, rfl, s2, hd2⟩
        omega
end
end Ev
set_option Elab.async false
set_option linter.all false
set_option maxRecDepth 100000
namespace Ev
open PySem L2
section
variable {P : Program} {w : World} {K : PySem.W.Frag} {mg : Str -> Option Value} {base : Heap}
def spTiesN (K : PySem.W.Frag) (CN : Addr) : Sp := fun vs H _ E => ∃ v d, vs = [v, d] /\ BadTs K H v /\ ∀ H', Same H H' -> E (.ref CN) none H'
theorem ok_tiesN {f CN : Addr} {fd : FuncData} (F : Fun K "checked_ties" "checked_ties" sTies f fd) (B : Bi mg) (R : Ref K mg "NoWeb" CN) (cS : Cal P w K mg base 3 "sorted_ties" ["ties"] (spSortedA K)) : FnOk P w K mg base (CX1 P w) 4 f fd ["ties", "strengths"] (spTiesN K CN) := by
  refine F.okQ scTies (fun vs H Q E h => ?_) (fun cdv A outer s H vs Q E hr h own ps rs => ?_)
  · obtain ⟨v, d, rfl, _⟩ := h
    rfl
  · obtain ⟨v, d, rfl, bad, k⟩ := h
    refine' ⟨_, pss_cons ?s1 (pss_cons ?s2 pss_never), ?kk⟩
    case s1 => exact ps_set (i := 2) scTies.nd rfl (Or.inl rfl) (pe_fn cS hr (pa_cons (pv 0) pa_nil))
    case s2 => exact ps_if (pt_cmp (pc_isN (pv 2))) (pss_one (ps_raise rfl rs R.mg R.ex PySem.F.excBase_ValueError (by rfl) (pa_cons pe_str pa_nil))) pss_nil
    case' kk => skip
    refine ⟨_, rfl, .inr ⟨v, rfl, bad, fun H1 s1 => ?_⟩⟩
    exact ⟨_, rfl, _, rfl, iteT ⟨by decide, k H1 s1⟩⟩
def BadWeb (K : PySem.W.Frag) (H : Hp) (v1 v2 : V) : Prop := BadHs K H v1 ∨
  BadTs K H v2 /\ ∃ (l : Addr) (ys : List V) (hs : List (Str × Int)), v1 = .ref l /\ H l = some (.lst ys) /\ TupsAt K H ys (hs.map kH) /\ (∀ h ∈ hs, goodH h) /\ (hs.map (·.1)).Nodup /\ 1 <= hs.length /\ hs.length <= 8
theorem BadTs.same {H H' : Hp} {v : V} (h : BadTs K H v) (s : Same H H') : BadTs K H' v := by
  rcases h with ⟨t, ty, e⟩ | ⟨l, ys, ts, y, rfl, hl, tu, good, nd, h64, hy, bad⟩
  · exact .inl ⟨t, ty.sameT s, e⟩
  · refine .inr ⟨l, ys, ts, y, rfl, s _ _ hl, tu.same s, good, nd, h64, hy, ?_⟩
    rcases bad with b | ⟨t, b, m⟩
    · exact .inl (b.same s)
    · exact .inr ⟨t, b.same s, m⟩
theorem BadHs.same {H H' : Hp} {v : V} (h : BadHs K H v) (s : Same H H') : BadHs K H' v := by
  rcases h with ⟨t, ty, e⟩ | ⟨l, ys, rfl, hl, h⟩
  · exact .inl ⟨t, ty.sameT s, e⟩
  · refine .inr ⟨l, ys, rfl, s _ _ hl, ?_⟩
    rcases h with h | h | ⟨hs, y, tu, good, nd, hy, bad⟩
    · exact .inl h
    · exact .inr (.inl h)
    · refine .inr (.inr ⟨hs, y, tu.same s, good, nd, hy, ?_⟩)
      rcases bad with b | ⟨t, b, m⟩
      · exact .inl (b.same s)
      · exact .inr ⟨t, b.same s, m⟩
theorem BadWeb.same {H H' : Hp} {v1 v2 : V} (h : BadWeb K H v1 v2) (s : Same H H') : BadWeb K H' v1 v2 := by
  rcases h with h | ⟨h, l, ys, hs, e, hl, tu, r⟩
  · exact .inl (h.same s)
  · exact .inr ⟨h.same s, l, ys, hs, e, s _ _ hl, tu.same s, r⟩
def spStrG (K : PySem.W.Frag) (CN : Addr) : Sp := fun vs H Q E => spStr K vs H Q E ∨ spStrN K CN vs H Q (fun c _ H' => ∀ dd, E c dd H')
def spTiesG (K : PySem.W.Frag) (CN : Addr) : Sp := fun vs H Q E => spTiesN K CN vs H Q (fun c _ H' => ∀ dd, E c dd H')
def spInitN (K : PySem.W.Frag) (C CN : Addr) : Sp := fun vs H _ E => ∃ (p : Addr) (v1 v2 : V), vs = [.ref p, v1, v2] /\ BadWeb K H v1 v2 /\ ∀ dd H', Same H H' -> E (.ref CN) dd H'
theorem ok_initN {f C CN : Addr} {fd : FuncData} (F : Fun K "__init__" "Web.__init__" sInit f fd) (cS : CalG P w K mg base 4 "checked_strengths" ["hands"] (spStrG K CN)) (cT : CalG P w K mg base 4 "checked_ties" ["ties", "strengths"] (spTiesG K CN)) :
    FnOk P w K mg base (CX2 P w) 5 f fd ["self", "hands", "ties"] (spInitN K C CN) := by
  refine F.okG scInit (fun vs H Q E h => ?_) (fun cdv A outer s H vs Q E hr h hp ro rm => ?_)
  · obtain ⟨p, v1, v2, rfl, _⟩ := h
    rfl
  · obtain ⟨p, v1, v2, rfl, bad, k⟩ := h
    refine' ⟨_, pss_cons ?s1 (pss_cons ?s2 pss_never), ?kk⟩
    case s1 => exact ps_set (i := 3) scInit.nd rfl (Or.inl rfl) (pe_fg cS hr hp (pa_cons (pv 1) pa_nil))
    case s2 => exact ps_set (i := 4) scInit.nd rfl (Or.inl rfl) (pe_fg cT hr hp (pa_cons (pv 2) (pa_cons (pv 3) pa_nil)))
    case' kk => skip
    rcases bad with bad | ⟨bad, l, ys, hs, rfl, hl, tu, g, nd, h1, h8⟩
    · exact ⟨_, rfl, .inr ⟨v1, rfl, bad, fun H' s dd => k dd H' s⟩⟩
    · refine ⟨_, rfl, .inl ⟨l, ys, hs, rfl, hl, tu, g, nd, h1, h8, fun d H1 s1 f1 hd1 => ?_⟩⟩
      exact ⟨_, rfl, _, rfl, v2, _, rfl, bad.same s1, fun H' s dd => k dd H' (s1.trans s)⟩
def NoH (K : PySem.W.Frag) (H : Hp) (v : V) (hs : List (Str × Int)) : Prop := ∃ x, StrV K H v x /\ ∀ y, x = some y -> y ∉ hs.map (·.1)
def spHasA (K : PySem.W.Frag) (C : Addr) : Sp := fun vs H Q _ => ∃ (p : Addr) (v : V) (x : Option Str) (hs : List (Str × Int)) (ts : List (Str × Str)) (fp : List Addr), vs = [.ref p, v] /\ WebAt K C H p hs ts fp /\ StrV K H v x /\ Q (.bl (x.elim false fun y => decide (y ∈ hs.map (·.1)))) H
theorem ok_hasA {f C : Addr} {fd : FuncData} (F : Fun K "has_hand" "Web.has_hand" sHas f fd) (T : Txt K mg C) (B : Bi mg) : FnOk P w K mg base CX0 1 f fd ["self", "thing"] (spHasA K C) := by
  refine F.ok scHas (fun vs H Q E h => ?_) (fun cdv A outer s H vs Q E hr h => ?_)
  · obtain ⟨p, v, x, hs, ts, fp, rfl, _⟩ := h
    rfl
  · obtain ⟨p, v, x, hs, ts, fp, rfl, W, sv, k⟩ := h
    have hu := hu_of hr
    obtain ⟨dx, d1, l2, d3, zs, as, rfl, h1, h2, h3, h4, h5, h6, h7⟩ := W.ex
    refine ⟨_, pss_one (ps_ret (pe_and (pe_callB call_isi (by rfl) B.isi PyProof.Rows.Boot.«isinstance» (pa_cons (pv 1) (pa_cons (pe_bltn (v := .ty "str") (by rfl) B.str PyProof.Rows.Boot.«str» rfl) pa_nil))) (pe_one (pe_cmp (pc_din hu (pv 1) (pe_fld (pv 0) rfl)))))), ?_⟩
    cases x with
    | none =>
      obtain ⟨t, ty, e⟩ := sv
      exact ⟨_, rfl, _, _, _, _, rfl, ty, e, _, rfl, iteF k⟩
    | some x =>
      cases (show v = .str x from sv)
      refine ⟨_, rfl, _, _, _, _, rfl, .str x, rfl, _, rfl, iteT ?_⟩
      refine ⟨_, rfl, _, rfl, p, C, dx, _, _, rfl, h1, T.cl, T.nS, flds_s _ _ _, d1, _, rfl, .k (k := Sum.inr x) h2, ?_⟩
      rw [nms_mem]
      exact k
theorem NoH.no {H : Hp} {v : V} {hs : List (Str × Int)} (h : NoH K H v hs) : ∃ x, StrV K H v x /\ (x.elim false fun y => decide (y ∈ hs.map (·.1))) = false := by
  obtain ⟨x, a, b⟩ := h
  refine ⟨x, a, ?_⟩
  cases x with
  | none => rfl
  | some y => exact decide_eq_false (b y rfl)
def spAskN (K : PySem.W.Frag) (C CH : Addr) : Sp := fun vs H _ E => ∃ (p : Addr) (v : V) (hs : List (Str × Int)) (ts : List (Str × Str)) (fp : List Addr), vs = [.ref p, v] /\ WebAt K C H p hs ts fp /\ NoH K H v hs /\ E (.ref CH) none H
theorem ok_strengthN {f C CH : Addr} {fd : FuncData} (F : Fun K "strength" "Web.strength" sStrength f fd) (T : Txt K mg C) (R : Ref K mg "NoHand" CH) (cH : CalM P w K mg base C 1 "has_hand" ["self", "thing"] (spHasA K C)) : FnOk P w K mg base (CX1 P w) 2 f fd ["self", "hand"] (spAskN K C CH) := by
  refine F.okQ scStrength (fun vs H Q E h => ?_) (fun cdv A outer s H vs Q E hr h own ps rs => ?_)
  · obtain ⟨p, v, hs, ts, fp, rfl, _⟩ := h
    rfl
  · obtain ⟨p, v, hs, ts, fp, rfl, W, no, k⟩ := h
    obtain ⟨x, sv, e⟩ := no.no
    obtain ⟨dx, d1, l2, d3, zs, as, rfl, h1, h2, h3, h4, h5, h6, h7⟩ := id W.ex
    refine' ⟨_, pss_cons ?s1 pss_never, ?kk⟩
    case s1 => exact ps_if (pt_not (pt_val (pe_mt cH T.cl hr (pv 0) (pa_cons (pv 1) pa_nil)))) (pss_one (ps_raise rfl rs R.mg R.ex PySem.F.excBase_ValueError (by rfl) (pa_cons pe_str pa_nil))) pss_nil
    case' kk => skip
    refine ⟨_, rfl, p, dx, _, rfl, h1, flds_no _ _ _ (by decide +kernel) (by decide +kernel) (by decide +kernel), _, rfl, p, v, x, hs, ts, _, rfl, W, sv, _, rfl, ?_⟩
    rw [e]
    exact iteT ⟨by decide, k⟩
theorem ok_neighN {f C CH : Addr} {fd : FuncData} (F : Fun K "neighbours" "Web.neighbours" sNeigh f fd) (T : Txt K mg C) (R : Ref K mg "NoHand" CH) (cH : CalM P w K mg base C 1 "has_hand" ["self", "thing"] (spHasA K C)) : FnOk P w K mg base (CX1 P w) 2 f fd ["self", "hand"] (spAskN K C CH) := by
  refine F.okQ scNeigh (fun vs H Q E h => ?_) (fun cdv A outer s H vs Q E hr h own ps rs => ?_)
  · obtain ⟨p, v, hs, ts, fp, rfl, _⟩ := h
    rfl
  · obtain ⟨p, v, hs, ts, fp, rfl, W, no, k⟩ := h
    obtain ⟨x, sv, e⟩ := no.no
    obtain ⟨dx, d1, l2, d3, zs, as, rfl, h1, h2, h3, h4, h5, h6, h7⟩ := id W.ex
    refine' ⟨_, pss_cons ?s1 pss_never, ?kk⟩
    case s1 => exact ps_if (pt_not (pt_val (pe_mt cH T.cl hr (pv 0) (pa_cons (pv 1) pa_nil)))) (pss_one (ps_raise rfl rs R.mg R.ex PySem.F.excBase_ValueError (by rfl) (pa_cons pe_str pa_nil))) pss_nil
    case' kk => skip
    refine ⟨_, rfl, p, dx, _, rfl, h1, flds_no _ _ _ (by decide +kernel) (by decide +kernel) (by decide +kernel), _, rfl, p, v, x, hs, ts, _, rfl, W, sv, _, rfl, ?_⟩
    rw [e]
    exact iteT ⟨by decide, k⟩
def spTiedN (K : PySem.W.Frag) (C : Addr) : Sp := fun vs H Q _ => ∃ (p : Addr) (v u : V) (x y : Option Str) (hs : List (Str × Int)) (ts : List (Str × Str)) (fp : List Addr), vs = [.ref p, v, u] /\ WebAt K C H p hs ts fp /\ StrV K H v x /\ StrV K H u y /\ ((x.elim false fun z => decide (z ∈ hs.map (·.1))) && (y.elim false fun z => decide (z ∈ hs.map (·.1)))) = false /\ Q (.bl false) H
theorem ok_tiedN {f C : Addr} {fd : FuncData} (F : Fun K "are_tied" "Web.are_tied" sTied f fd) (T : Txt K mg C) (cH : CalM P w K mg base C 1 "has_hand" ["self", "thing"] (spHasA K C)) : FnOk P w K mg base CX0 2 f fd ["self", "one", "other"] (spTiedN K C) := by
  refine F.ok scTied (fun vs H Q E h => ?_) (fun cdv A outer s H vs Q E hr h => ?_)
  · obtain ⟨p, v, u, x, y, hs, ts, fp, rfl, _⟩ := h
    rfl
  · obtain ⟨p, v, u, x, y, hs, ts, fp, rfl, W, sv, su, e, k⟩ := h
    have hu := hu_of hr
    obtain ⟨dx, d1, l2, d3, zs, as, rfl, h1, h2, h3, h4, h5, h6, h7⟩ := id W.ex
    have hno : (flds d1 l2 d3).lookup ("has_hand" : Str) = none := flds_no _ _ _ (by decide +kernel) (by decide +kernel) (by decide +kernel)
    refine ⟨_, pss_one (ps_ret (pe_and (pe_mt cH T.cl hr (pv 0) (pa_cons (pv 1) pa_nil)) (pe_and (pe_mt cH T.cl hr (pv 0) (pa_cons (pv 2) pa_nil)) (pe_one (pe_cmpR (op_inD cmpS (roomU hr 0)) (pv 2) (pe_dget hu (pe_fld (pv 0) rfl) (pv 1) (fun _ _ => rfl)) (by with_unfolding_all rfl)))))), ?_⟩
    refine ⟨_, rfl, p, dx, _, rfl, h1, hno, _, rfl, p, v, x, hs, ts, _, rfl, W, sv, _, rfl, ?_⟩
    refine ite2 (fun c => ?_) (fun c => ?_)
    · refine ⟨_, rfl, p, dx, _, rfl, h1, hno, _, rfl, p, u, y, hs, ts, _, rfl, W, su, _, rfl, ?_⟩
      rw [c, Bool.true_and] at e
      rw [e]
      exact iteF k
    · exact k
end
end Ev
set_option Elab.async false
set_option linter.all false
set_option maxRecDepth 100000
namespace L2
open PySem PySem.Spec PyProof.Rows
theorem slot1 {M : Model} {A : Around} {E : Value -> Shared -> Prop} {s : Shared} {n : String} {a b : Value} {Q : Value × List Value -> Shared -> Prop} (q : Q (a, [b]) s) : wpAny M A (slotArgs n 1 { pos := [a, b] }) Q E s := by
  unfold slotArgs
  exact wpAny_ite_false rfl (wpAny_ite_false rfl (wpAny_pure q))
theorem str_eq_declines_dict (b : Str) (u : Tok) (l : Addr) (o : Obj) (hd : ∃ es ep, o.data = .dict es ep) : Meets (Builtin.«str.__eq__» { pos := [.str b u, .ref l] }) fun A R s => s.heap.get? l = some o /\ R (.ok (.ret .notImplemented)) s := by
  obtain ⟨es, ep, hd⟩ := hd
  refine Meets.of_wp fun prog w A R s ⟨hl, h⟩ => ?_
  obtain ⟨c, dd, dt, sl⟩ := o
  cases (show dt = .dict es ep from hd)
  refine wpAny_bind ?_
  refine wpAny_bind (slot1 ?_)
  refine wpAny_bind ?_
  refine wpAny_bind ?_
  refine wpAny_pure (wpAny_pure (wpAny_pure ?_))
  refine wpAny_bind ?_
  refine wpAny_bind (wpAny_load hl ?_)
  refine wpAny_pure ?_
  refine wpAny_bind (wpAny_rule ?_)
  exact wpAny_pure ⟨_, rfl, h⟩
theorem dict_eq_declines_str (b : Str) (u : Tok) (l : Addr) : Meets (Builtin.«dict.__eq__» { pos := [.ref l, .str b u] }) fun A R s => R (.ok (.ret .notImplemented)) s := by
  refine Meets.of_wp fun prog w A R s h => ?_
  refine wpAny_bind (?_ : wpAny _ _ (Builtin.Dict.dictSlotArgs _ _) _ _ _)
  unfold Builtin.Dict.dictSlotArgs
  refine wpAny_bind ?_
  unfold Builtin.Dict.notOrdered
  refine wpAny_ite_false (by decide) (wpAny_pure ?_)
  refine wpAny_bind (slot1 ?_)
  refine wpAny_pure ?_
  refine wpAny_bind ?_
  unfold isInstance
  refine wpAny_bind (wpAny_pure ?_)
  rw [show isSubtype (.type "str") (.type "dict") = pure false from F.sub_str_dict]
  refine wpAny_pure ?_
  refine wpAny_ite_true rfl ?_
  refine wpAny_bind (wpAny_rule ?_)
  exact wpAny_pure ⟨_, rfl, h⟩
theorem eqAt_str_dict {A : Around} {s : Shared} {l : Addr} {o : Obj} (b : Str) (u : Tok) (hl : s.heap.get? l = some o) (hc : o.cls = .type "dict") (hd : ∃ es ep, o.data = .dict es ep) (hu : A.units < cLine) : SeqAt.EqAt A s (.str b u) (.ref l) false := by
  intro prog w E Q q
  refine wpAny_holding (wpAny_ite_false (by rfl) ?_)
  refine wpAny_bind (SeqAt.rc_eq_decline_or (Ta := "str") (Tb := "dict") (k := false) (typeIs_str s b u) ⟨o, hl, hc⟩ (by decide) F.sub_dict_str F.slot_str_eq F.slot_dict_eq_refl (fun Q' q' => ?_) (fun Q' q' => ?_) (fun Q' q' => wpAny_of_eq rfl q') (.inr hu) ?_)
  · exact call_meets F.slot_str_eq (typeIs_str s b u) F.entry_str_eq (F.args_str_eq_2 _ _) (str_eq_declines_dict b u l o hd) ⟨hl, q'⟩
  · exact call_meets F.slot_dict_eq_refl ⟨o, hl, hc⟩ F.entry_dict_eq (F.args_dict_eq_2 _ _) (dict_eq_declines_str b u l) q'
  · exact wpAny_truthy_bool q
section
variable {X : Cx}
def rInP (K : PySem.W.Frag) (neg : Bool) : R2 := fun x y H Q => rInO K neg x y H Q ∨ ∃ (p t : Addr) (ss : List Str), x = .ref t /\ y = .ref p /\ SqL K H p (ss.map V.str) /\ ((∃ xs, H t = some (.lst xs)) ∨ ∃ kvs, H t = some (.dK kvs)) /\ Q (.bl neg) H
theorem each_str {A : Around} {s : Shared} {y : Value} (h : ∀ b u, SeqAt.EqAt A s (.str b u) y false) : ∀ {ss : List Str} {us : List Value}, Vals (ss.map V.str) us -> ∀ u ∈ us, SeqAt.EqAt A s u y false
  | [], _, .nil => fun u hu => by cases hu
  | x :: ss, _ :: us, .cons r q => fun u hm => by
    rcases List.mem_cons.mp hm with rfl | hm
    · obtain ⟨tk, rfl⟩ := r
      exact h x tk
    · exact each_str h q u hm
theorem op_notInP (hu : X.A.units + 1 < cLine) : OpR X (compareOp .NotIn) (rInP X.K true) := by
  intro pins s σ H x y v u Q I rx ry h
  rcases h with h | ⟨p, t, ss, rfl, rfl, hl, ht, q⟩
  · exact op_notInO hu pins s σ H x y v u Q I rx ry h
  cases rx
  cases ry
  obtain ⟨its, r, pl, hz⟩ := I.list hl
  have key : ∀ b u, SeqAt.EqAt X.A.in1 s (.str b u) (.ref t) false := by
    rcases ht with ⟨xs, ht⟩ | ⟨kvs, ht⟩
    · obtain ⟨its2, r2, pl2, hz2⟩ := I.list (.of ht)
      exact fun b u => SeqAt.EqAt.str_list b u pl2.isList hu
    · obtain ⟨_, _, vs, _, o, es, ep, h1, h2, h3, _⟩ := I.hok _ _ ht
      exact fun b u => eqAt_str_dict b u h1 h2.1 ⟨es, ep, h3⟩ hu
  refine SeqAt.notIn_listAt (fun _ => false) pl.isList (fun w hw => each_str key r w (by simpa using hw)) ⟨.bl _, H, I, rfl, ?_⟩
  rw [show its.toArray.any (fun _ => false) = false by simp]
  exact q
def rUpper : V -> List V -> Hp -> VK -> Prop := fun x vs H Q => ∃ z : Str, x = .str z /\ vs = [] /\ z.length <= 1000 /\ Q (.str (Txt.upper z)) H
theorem mt_upper : MtM X "str.upper" rUpper := by
  intro pins s σ H x vs v us Q I rx rv h
  obtain ⟨z, rfl, rfl, hz, q⟩ := h
  obtain ⟨t, rfl⟩ := rx
  cases rv
  exact SCL.upper (by omega) fun _ => ⟨.str _, H, I.tok _, ⟨_, rfl⟩, q⟩
end
end L2
set_option Elab.async false
set_option linter.all false
set_option maxRecDepth 100000
namespace Ev
open PySem L2
theorem seqG {t u : TS} {D : Ends} {σ : St} {H : Hp} (R : St -> Hp -> Prop) (later : ∀ σ H, R σ H -> u D σ H) (now : ∀ N : St -> Hp -> Prop, (∀ σ H, R σ H -> N σ H) -> t { D with nx := N } σ H) : tSeq t u D σ H := now (u D) later
theorem setG {i : Nat} {v : V} {σ : St} {H : Hp} {N : St -> Hp -> Prop} (h : N (σ.set i (some v)) H) : gName i v σ H N := h
theorem cutV_take (ys : List V) (k : Nat) : cutV ys none (some (k : Int)) = ys.take k := by
  unfold cutV
  rw [HT.sIx_none, HT.sIx_nat, List.drop_zero, Nat.sub_zero]
  by_cases h : k <= ys.length
  · rw [Nat.min_eq_left h]
  · rw [Nat.min_eq_right (by omega), List.take_of_length_le (Nat.le_refl _), List.take_of_length_le (by omega)]
def wo (l : Addr) (H : Hp) : Hp := fun b => if b = l then none else H b
theorem wo_same {l : Addr} {H : Hp} : Same (wo l H) H := fun b o e => by
  unfold wo at e
  split at e
  · cases e
  · exact e
theorem wo_at {l a : Addr} {H : Hp} {o : HO} (h : H a = some o) (ne : a ≠ l) : wo l H a = some o := by
  unfold wo
  rw [if_neg ne]
  exact h
theorem But.wo {l : Addr} {H H' : Hp} (b : But l H H') : Same (Ev.wo l H) (Ev.wo l H') := fun c o e => by
  have e2 := wo_same _ _ e
  by_cases z : c = l
  · unfold Ev.wo at e
    rw [if_pos z] at e
    cases e
  · exact wo_at (b c o e2 z) z
theorem stt.ne {H : Hp} {l a : Addr} (st : stt H l) (ha : H a = none) : a ≠ l := by
  obtain ⟨xs, e⟩ := st.some
  exact (ne_of_none e ha).symm
def nw (H0 H : Hp) : Hp := fun b => match H0 b with
  | none => H b
  | some _ => none
theorem nw_at {H0 H : Hp} {a : Addr} {o : HO} (h : H a = some o) (n : H0 a = none) : nw H0 H a = some o := by
  unfold nw
  rw [n]
  exact h
theorem nw_of {H0 H : Hp} {a : Addr} {o : HO} (h : nw H0 H a = some o) : H0 a = none /\ H a = some o := by
  unfold nw at h
  cases e : H0 a with
  | none => rw [e] at h; exact ⟨rfl, h⟩
  | some u => rw [e] at h; cases h
theorem nw_same {H0 H : Hp} : Same (nw H0 H) H := fun b o e => (nw_of e).2
theorem But.nw {l : Addr} {H0 H H' : Hp} (b : But l H H') (n : H0 l ≠ none) : Same (Ev.nw H0 H) (Ev.nw H0 H') := fun c o e => by
  obtain ⟨h0, h1⟩ := nw_of e
  exact nw_at (b c o h1 (fun z => n (z ▸ h0))) h0
theorem stt.has {H : Hp} {l : Addr} (st : stt H l) : H l ≠ none := by
  obtain ⟨xs, e⟩ := st.some
  rw [e]
  exact fun z => by cases z
theorem nw_sub {l : Addr} {H0 H1 H : Hp} (b : But l H0 H1) (st : stt H1 l) : Same (nw H1 H) (nw H0 H) := fun c o e => by
  obtain ⟨h0, h1⟩ := nw_of e
  exact nw_at h1 (b.free st h0)
theorem newG {H0 H : Hp} {l a : Addr} {o : HO} {R : Prop} (n0 : H0 l ≠ none) (b0 : But l H0 H) (st : stt H l) (hn : H a = none) (k : ∀ H', upd H a o = H' -> Same (nw H0 H) (nw H0 H') -> nw H0 H' a = some o -> stt H' l -> But l H0 H' -> R) : R :=
  have s := Same.new (o := o) hn
  k _ rfl ((But.of (l := l) s).nw n0) (nw_at upd_same (b0.free st hn)) (st.same s) (b0.trans (But.of s))
theorem tups_wo {K : PySem.W.Frag} {l : Addr} {H : Hp} {ys : List V} {ks : List (List Key)} (t : TupsAt K H ys ks) (st : stt H l) : TupsAt K (wo l H) ys ks := by
  obtain ⟨xs, e⟩ := st.some
  exact Paired.mapP t fun y k ⟨a, z, q⟩ => ⟨a, z, wo_at q (ne_of q e (by intro z; cases z))⟩
theorem hitL {p : V -> Prop} {xs : List V} {r : Int} {n : Nat} (hn : xs.length = n) (h0 : 0 <= r) (h1 : r < (n : Int)) (h : ∀ v ∈ xs, p v) : ∃ v, atI xs r = some v /\ p v := by
  rw [atI_nat h0 (by omega), List.getElem?_eq_getElem (show r.toNat < xs.length by omega)]
  exact ⟨_, rfl, h _ (List.getElem_mem _)⟩
theorem nm_long {x : Str} (h : 8 < x.length) : nameB x = false := by
  unfold nameB
  rw [decide_eq_false (show ¬ x.length <= 8 by omega)]
  simp
theorem nm_sign {x : Str} {c : Nat} (hc : c ∈ x.cps.toList) (o : okc c = false) : nameB x = false := by
  unfold nameB
  have : x.cps.toList.all okc = false := by
    cases e : x.cps.toList.all okc with
    | false => rfl
    | true => rw [List.all_eq_true.mp e c hc] at o; cases o
  rw [this]
  simp
theorem nameB_signs {x : Str} (h : nameB x = true) : 1 <= x.length /\ x.length <= 8 /\ ∀ c ∈ x.cps.toList, 97 <= c /\ c <= 122 := by
  unfold nameB at h
  simp only [Bool.and_eq_true, decide_eq_true_eq, List.all_eq_true, okc] at h
  exact ⟨h.1.1, h.1.2, h.2⟩
theorem up1_no : ∀ c : Fin 26, okc (PyProof.Rows.up1 (c.1 + 97)) = false := by decide
theorem len_list (x : Str) : x.length = x.cps.toList.length := by rw [Array.length_toList]; rfl
theorem nm_upper {x : Str} (h : nameB x = true) : nameB (Txt.upper x) = false /\ (Txt.upper x).length <= 8 := by
  obtain ⟨h1, h8, hs⟩ := nameB_signs h
  rw [PyProof.Rows.upper_ascii (fun c hc => by have := hs c hc; omega)]
  have el : ((⟨x.cps.map PyProof.Rows.up1⟩ : Str)).cps.toList = x.cps.toList.map PyProof.Rows.up1 := by simp
  constructor
  · cases e : x.cps.toList with
    | nil => rw [len_list, e] at h1; exact absurd h1 (by decide)
    | cons c r =>
      have hc : c ∈ x.cps.toList := by rw [e]; exact List.mem_cons_self
      obtain ⟨g1, g2⟩ := hs c hc
      refine nm_sign (c := PyProof.Rows.up1 c) (by rw [el]; exact List.mem_map.mpr ⟨c, hc, rfl⟩) ?_
      have := up1_no ⟨c - 97, by omega⟩
      rwa [show (⟨c - 97, by omega⟩ : Fin 26).1 + 97 = c by show c - 97 + 97 = c; omega] at this
  · rw [len_list, el, List.length_map, <- len_list]
    exact h8
theorem app_cps (x y : Str) : (x ++ y).cps.toList = x.cps.toList ++ y.cps.toList := PySem.W.KT.app_list _ _
theorem app_len (x y : Str) : (x ++ y).length = x.length + y.length := by rw [len_list, app_cps, List.length_append, <- len_list, <- len_list]
theorem sg_list : ("A1 .-~_" : Str).cps.toList = [65, 49, 32, 46, 45, 126, 95] := by decide +kernel
theorem sg_at {r : Int} (h0 : 0 <= r) (h1 : r < 7) : ∃ c, atI ("A1 .-~_" : Str).cps.toList r = some c /\ okc c = false := by
  rw [sg_list, atI_nat h0 (by simpa using h1)]
  have : ∀ i : Fin 7, ∃ c, ([65, 49, 32, 46, 45, 126, 95] : List Nat)[i.1]? = some c /\ okc c = false := fun i => ⟨[65, 49, 32, 46, 45, 126, 95][i.1], List.getElem?_eq_getElem i.2, by revert i; decide⟩
  exact this ⟨r.toNat, by omega⟩
theorem slice_len {x : Str} (lo hi : Option Int) : (Txt.slice x lo hi).length <= x.length := Txt.slice_le x _ _
theorem nine_len {x : Str} (h1 : 1 <= x.length) (h8 : x.length <= 8) : (Txt.slice (x ++ "abcdefgh") none (some 9)).length = 9 := by
  have e := cut_to (x := x ++ "abcdefgh") (j := 9) (by rw [app_len]; have : ("abcdefgh" : Str).length = 8 := rfl; omega)
  rw [len_list, show (some (9 : Int)) = some ((9 : Nat) : Int) from rfl, e, List.length_take, <- len_list, app_len]
  have : ("abcdefgh" : Str).length = 8 := rfl
  omega
def OddV (G : Hp) (v : V) : Prop := (∃ y : Str, v = .str y /\ nameB y = false /\ y.length <= 1000) ∨ v = .non ∨ v = .int 7 ∨ v = .bl true ∨ ∃ a x, v = .ref a /\ G a = some (.lst [.str x])
theorem OddV.same {G G' : Hp} {v : V} (h : OddV G v) (s : Same G G') : OddV G' v := by
  rcases h with h | h | h | h | ⟨a, x, e, h⟩
  · exact .inl h
  · exact .inr (.inl h)
  · exact .inr (.inr (.inl h))
  · exact .inr (.inr (.inr (.inl h)))
  · exact .inr (.inr (.inr (.inr ⟨a, x, e, s _ _ h⟩)))
section
variable {P : Program} {w : World} {K : PySem.W.Frag} {mg : Str -> Option Value} {base : Heap}
theorem scOddN : FnScope ["_law_state", "_law_name_here", "_law_at", "_law_odd"] ["_law_state", "_law_name_here"] (defScope sOddN) := ⟨rfl, rfl, rfl, by decide +kernel, rfl, by decide +kernel, by decide +kernel⟩
def spOddN : Sp := fun vs H Q _ => ∃ (l : Addr) (x : Str), vs = [.ref l, .str x] /\ nameB x = true /\ stt H l /\ ∀ v H', But l H H' -> stt H' l -> OddV (nw H H') v -> Q v H'
theorem ok_oddN {f : Addr} {fd : FuncData} (F : Fun K "_law_odd_name" "_law_odd_name" sOddN f fd) (B : Bi mg) (cD : Cal P w K mg base 1 "_law_digit" ["_law_state", "_law_base"] spDigit) : FnOk P w K mg base CX0 2 f fd ["_law_state", "_law_name_here"] spOddN := by
  refine F.ok scOddN (fun vs H Q E h => ?_) (fun cdv A outer s H vs Q E hr h => ?_)
  · obtain ⟨l, x, rfl, _⟩ := h
    rfl
  · obtain ⟨l, x, rfl, nx, st, k⟩ := h
    obtain ⟨x1, x8, xs⟩ := nameB_signs nx
    have sz := sizeLine_eq
    refine' ⟨_, pss_cons ?s1 (pss_cons ?s2 (pss_one ?s3)), ?kk⟩
    case s1 => exact ps_set (i := 2) scOddN.nd rfl (Or.inl rfl) (pe_fn cD hr (pa_cons (pv 0) (pa_cons (pe_op op_add (pe_callB call_len_str (by rfl) B.len PySem.boot_len (pa_cons (pv 1) pa_nil)) pe_int) pa_nil)))
    case s2 => exact ps_set (i := 3) scOddN.nd rfl (Or.inl rfl) (pe_op op_add_str (pe_op op_add_str (pe_slice sl_str (pv 1) po_none (po_some (pv 2))) (pe_ix ix_str pe_str (pe_fn cD hr (pa_cons (pv 0) (pa_cons pe_int pa_nil))) (fun _ _ => rfl))) (pe_slice sl_str (pv 1) (po_some (pv 2)) po_none))
    case' s3 => refine' ps_ret (pe_ix ix_list (pe_lst ?l0) (pe_fn cD hr (pa_cons (pv 0) (pa_cons pe_int pa_nil))) (fun _ _ => rfl))
    case' l0 => refine' pa_cons pe_str ?l1
    case' l1 => refine' pa_cons (pe_slice sl_str (pe_op op_add_str (pv 1) pe_str) po_none (po_some pe_int)) ?l2
    case' l2 => refine' pa_cons (pe_bm0 PySem.F.plainAttrs_str PySem.F.slot_str_upper PySem.F.type_str_upper mt_upper (pv 1)) ?l3
    case' l3 => refine' pa_cons (pv 3) ?l4
    case' l4 => refine' pa_cons (pv 3) ?l5
    case' l5 => refine' pa_cons pe_non ?l6
    case' l6 => refine' pa_cons pe_int ?l7
    case l7 => exact pa_cons (pe_lst (pa_cons (pv 1) pa_nil)) (pa_cons pe_bl pa_nil)
    case' kk => skip
    refine ⟨_, rfl, _, rfl, x, rfl, by omega, _, _, rfl, rfl, l, _, rfl, by show (0 : Int) < (x.length : Int) + 1; omega, by show (x.length : Int) + 1 < 1073741824; omega, st, fun r H1 r0 r1 b1 st1 => ?_⟩
    have r1 : r < (x.length : Int) + 1 := r1
    refine ⟨_, rfl, _, rfl, _, rfl, x, rfl, by omega, ?_⟩
    refine ⟨_, rfl, l, 7, rfl, by decide, by decide, st1, fun q H2 q0 q7 b2 st2 => ?_⟩
    obtain ⟨c, hc, oc⟩ := sg_at q0 q7
    have la := slice_len (x := x) none (some r)
    have lb := slice_len (x := x) (some r) none
    have lc : (⟨#[c]⟩ : Str).length = 1 := rfl
    refine ⟨_, _, _, rfl, rfl, by decide +kernel, hc, _, _, rfl, rfl, by omega, _, rfl, _, rfl, _, rfl, x, rfl, by omega, _, _, rfl, rfl, by rw [app_len]; omega, ?_⟩
    have nodd : nameB (Txt.slice x none (some r) ++ (⟨#[c]⟩ : Str) ++ Txt.slice x (some r) none) = false := nm_sign (c := c) (by rw [app_cps, app_cps]; simp) oc
    have lodd : (Txt.slice x none (some r) ++ (⟨#[c]⟩ : Str) ++ Txt.slice x (some r) none).length <= 1000 := by rw [app_len, app_len]; omega
    obtain ⟨odd, eo⟩ : ∃ y, y = Txt.slice x none (some r) ++ (⟨#[c]⟩ : Str) ++ Txt.slice x (some r) none := ⟨_, rfl⟩
    rw [<- eo] at nodd lodd
    refine setG ?_
    dsimp only
    rw [<- eo]
    obtain ⟨nu, lu⟩ := nm_upper nx
    have l9 := nine_len x1 x8
    have l8 : ("abcdefgh" : Str).length = 8 := rfl
    refine ⟨_, rfl, _, _, rfl, rfl, by omega, _, rfl, _, rfl, by rw [app_len]; omega, _, rfl, rfl, x, rfl, rfl, by omega, _, rfl, _, rfl, _, rfl, by show 1 <= sizeLine; decide, fun a ha => ?_⟩
    apply newG st.has (b1.trans b2) st2 ha
    intro H3 e3 s3 ha3 st3 b3
    rw [e3]
    clear e3
    refine ⟨by show 9 <= sizeLine; decide, fun p hp => ?_⟩
    apply newG st.has b3 st3 hp
    intro H4 e4 s4 ha4 st4 b4
    rw [e4]
    clear e4
    refine ⟨_, rfl, l, 9, rfl, by decide, by decide, st4, fun z H5 z0 z9 b5 st5 => ?_⟩
    have hp5 := nw_same _ _ (b5.nw st.has _ _ ha4)
    have ha5 := b5.nw st.has _ _ (s4 _ _ ha3)
    obtain ⟨v, hv, ov⟩ := hitL (p := OddV (nw H H5)) (xs := [.str "", .str (Txt.slice (x ++ "abcdefgh") none (some 9)), .str (Txt.upper x), .str odd, .str odd, .non, .int 7, .ref a, .bl true]) (n := 9) rfl z0 z9 (fun v hv => by
      simp only [List.mem_cons, List.not_mem_nil, or_false] at hv
      rcases hv with rfl | rfl | rfl | rfl | rfl | rfl | rfl | rfl | rfl
      · exact .inl ⟨_, rfl, by decide +kernel, by decide +kernel⟩
      · exact .inl ⟨_, rfl, nm_long (by omega), by omega⟩
      · exact .inl ⟨_, rfl, nu, by omega⟩
      · exact .inl ⟨_, rfl, nodd, lodd⟩
      · exact .inl ⟨_, rfl, nodd, lodd⟩
      · exact .inr (.inl rfl)
      · exact .inr (.inr (.inl rfl))
      · exact .inr (.inr (.inr (.inr ⟨a, x, rfl, ha5⟩)))
      · exact .inr (.inr (.inr (.inl rfl))))
    exact ⟨p, _, _, v, rfl, rfl, .of hp5, hv, k v H5 (b4.trans b5) st5 ov⟩
end
end Ev
set_option Elab.async false
set_option linter.all false
set_option maxRecDepth 100000
namespace HT
open PySem PySem.Spec PyProof.Rows
section
variable {prog : Program} {w : World} {A : Around} {E : Value -> Shared -> Prop} {s : Shared}
theorem getItem_rev2 {t sl : Addr} {a b : Value} {u : Tok} {Q : Value -> Shared -> Prop} (ht : IsTup s.heap t #[a, b]) (hs : s.heap.IsSliceOf sl .none .none (.int (-1) u))
    (h : Q (.ref s.heap.objs.size) { s with heap := s.heap.push { cls := .type "tuple", data := .seq #[b, a] } }) : wpAny (model prog w) A (getItem (.ref t) (.ref sl)) Q E s := by
  have htake : sizeOk (.seq #[b, a]) := by
    show 2 <= sizeLine
    decide
  obtain ⟨os, hos, hcs, hds⟩ := id hs
  have hTs : s.TypeIs (.ref sl) "slice" := ⟨os, hos, hcs⟩
  unfold getItem
  try with_reducible refine wpAny_holding ?_
  first | refine wpAny_bind (wpAny_pure ?_) | skip
  refine wpAny_bind (wpAny_sequenceKey ht.typeIs (by decide) ?_)
  refine wpAny_bind (wpAny_callSpecial?_slot (name := Str.ofString "__getitem__") ht.typeIs PyProof.Rows.slot_tuple_getitem
    (wpAny_call_entry PyProof.Rows.slot_tuple_getitem ht.typeIs entry_tuple_getitem ?_ (args_tuple_getitem _ _)))
  show wpAny _ _ (Builtin.Tuple.tupleItemsOf (.ref t) >>= _) _ _ s
  refine wpAny_bind (tupleItemsOf_ ht ?_)
  refine wpAny_bind (wpAny_typeOf hTs ?_)
  rw [if_pos (by decide)]
  have ap : ∀ {A' : Around} {E' : Value -> Shared -> Prop} {R : Int × Int × Nat -> Shared -> Prop}, R (1, -1, 2) s -> wpAny (model prog w) A' (Builtin.Slice.sliceApplied (.ref sl) (pure ((#[a, b] : Array Value).size : Int))) R E' s := by
    intro A' E' R hR
    unfold Builtin.Slice.sliceApplied Builtin.Slice.sliceFields
    refine wpAny_bind (wpAny_bind (wpAny_field hos hds (x := .none) rfl (wpAny_bind (wpAny_field hos hds (x := .none) rfl (wpAny_bind (wpAny_field hos hds (x := .int (-1) u) rfl (wpAny_pure ?_)))))))
    refine wpAny_bind (slicePart_int ?_)
    show wpAny _ _ (if ((-1 : Int) == 0) = true then _ else _) _ _ s
    rw [if_neg (by decide)]
    exact wpAny_bind (slicePart_none (wpAny_bind (slicePart_none (wpAny_bind (wpAny_pure (wpAny_pure (by with_unfolding_all exact hR)))))))
  refine wpAny_bind (ap ?_)
  show wpAny _ _ (if ((1 : Int) == 0 && (-1 : Int) == 1 && (2 : Nat) == 2) = true then _ else _) _ _ s
  rw [if_neg (by decide)]
  have e : (List.filterMap (fun (k : Nat) => (#[a, b] : Array Value)[((1 : Int) + (k : Int) * -1).toNat]?) (List.range 2)).toArray = #[b, a] := by with_unfolding_all rfl
  rw [e]
  first
    | exact wpAny_bind (m := Builtin.Tuple.tupleExact _) (wpAny_newObj_type (wpAny_pure ⟨_, rfl, wpAny_pure h⟩) htake)
    | exact wpAny_bind (m := Builtin.Tuple.tupleExact _) (wpAny_newObj_type (wpAny_bind (wpAny_pure (wpAny_pure ⟨_, rfl, wpAny_pure h⟩))) htake)
    | exact wpAny_bind (wpAny_bind (m := Builtin.Tuple.tupleExact _) (wpAny_newObj_type (wpAny_pure (wpAny_pure ⟨_, rfl, wpAny_pure h⟩)) htake))
    | exact wpAny_bind (wpAny_bind (m := Builtin.Tuple.tupleExact _) (wpAny_newObj_type (wpAny_pure ⟨_, rfl, wpAny_pure h⟩) htake))
end
end HT
namespace L2
open PySem PySem.Spec PyProof.Rows
section
variable {X : Cx} {e st : Expr} {te ts : TE} {pos p2 : Pos}
def tRev2 (K : PySem.W.Frag) (te ts : TE) : TE := fun σ H Q => te σ H fun x H1 => ts σ H1 fun y H2 => y = .int (-1) /\ ∃ a u v, x = .ref a /\ SqT K H2 a [u, v] /\ ∀ p, H2 p = none -> Q (.ref p) (upd H2 p (.tup [v, u]))
theorem pe_rev2 (he : PE X e te) (hs : PE X st ts) : PE X (.Subscript e (.Slice none none (some st) p2) pos) (tRev2 X.K te ts) := by
  intro pins s σ H Q I h
  refine Subscript_ (thn (he pins s σ H _ I h) fun v s1 ⟨x, H1, I1, r1, q1⟩ => ?_)
  refine wpAny_Slice ?_
  rw [evalPart_none]
  refine wpAny_pure (wpAny_pure ?_)
  rw [evalPart_some]
  refine thn (hs pins s1 σ H1 _ I1 q1) fun vs s3 ⟨y, H3, I3, ry, ey, a, u, v', ex, hx, q⟩ => ?_
  subst ex ey
  obtain ⟨t, rfl⟩ := ry
  cases r1
  have I4 : Inv X pins σ H3 { s3 with heap := s3.heap.push { cls := .type "slice", data := .fields #[.none, .none, .int (-1) t] } } := I3.kept (t' := s3.toks) fun b ob q => Heap.get?_push_of_some _ q
  obtain ⟨its, r, ht, hz⟩ := I4.tuple hx
  obtain ⟨x1, x2, rfl, rx1, rx2⟩ := Vals.two r
  show wpAny (model X.prog X.w) X.A (subscriptTail e (.Slice none none (some st) p2) (.ref a) (.ref s3.heap.objs.size)) (EP X pins σ Q) X.xe { s3 with heap := s3.heap.push { cls := .type "slice", data := .fields #[.none, .none, .int (-1) t] } }
  refine tail_any (ops := [.ref a, .ref s3.heap.objs.size]) ht.typeIs PyProof.Rows.slot_tuple_getitem.lookup (HT.getItem_rev2 ht (Heap.IsSliceOf.new ..) ?_) (by with_unfolding_all rfl)
  refine ⟨.ref _, upd H3 _ (.tup [v', u]), I4.laid (t' := s3.toks) (fun b o e => Heap.get?_push_of_some _ e) (Nat.le_refl _) ?_, rfl, q _ (I4.hok.fresh (Nat.le_refl _))⟩
  exact ⟨by show 2 <= sizeLine; decide, [x2, x1], .cons rx2 (.cons rx1 .nil), ⟨_, Heap.get?_push_size _ rfl, rfl, _, rfl⟩, _, Heap.get?_push_size _ rfl, rfl⟩
end
end L2
set_option Elab.async false
set_option linter.all false
set_option maxRecDepth 100000
namespace Ev
open PySem L2
theorem mulX {n : Int} (h1 : 1 <= n) (h8 : n <= 8) : PySem.MulOk "x" n /\ ((Txt.mul "x" n).length : Int) = n := by
  have c : n = 1 ∨ n = 2 ∨ n = 3 ∨ n = 4 ∨ n = 5 ∨ n = 6 ∨ n = 7 ∨ n = 8 := by omega
  rcases c with rfl | rfl | rfl | rfl | rfl | rfl | rfl | rfl <;> exact ⟨⟨rfl, by decide, by decide⟩, by decide +kernel⟩
theorem cutV_drop (ys : List V) (k : Nat) : cutV ys (some (k : Int)) none = ys.drop k := by
  unfold cutV
  rw [HT.sIx_none, HT.sIx_nat]
  by_cases h : k <= ys.length
  · rw [Nat.min_eq_left h, List.take_of_length_le (by simp)]
  · rw [Nat.min_eq_right (by omega), List.drop_of_length_le (Nat.le_refl _), List.drop_of_length_le (by omega)]
    simp
theorem OddV.nm {K : PySem.W.Frag} {G : Hp} {v : V} (h : OddV G v) : ∃ x, StrV K G v x /\ (∀ y, x = some y -> y.length <= 100000) /\ x.elim false nameB = false := by
  have no : ∀ {t : Value}, TyOf K G v t -> PySem.W.kitOne K t (.type "str") = some false -> ∃ x, StrV K G v x /\ (∀ y, x = some y -> y.length <= 100000) /\ x.elim false nameB = false := fun {t} a b => ⟨none, ⟨t, a, b⟩, (fun y e => by cases e), rfl⟩
  rcases h with ⟨y, rfl, n, le⟩ | rfl | rfl | rfl | ⟨a, x, rfl, h⟩
  · exact ⟨some y, rfl, fun z e => by cases e; omega, n⟩
  · exact no .non rfl
  · exact no (.int _) rfl
  · exact no (.bl _) rfl
  · exact no (.lst h) rfl
def StBad (K : PySem.W.Frag) (G : Hp) (v : V) : Prop := ∃ o : Option Int, IntV K G v o /\ (o.elim false fun i => decide (1 <= i) && decide (i <= 1000)) = false
theorem StBad.same {K : PySem.W.Frag} {H H' : Hp} {v : V} (h : StBad K H v) (s : Same H H') : StBad K H' v := by
  obtain ⟨o, a, b⟩ := h
  exact ⟨o, a.same s, b⟩
section
variable {P : Program} {w : World} {K : PySem.W.Frag} {mg : Str -> Option Value} {base : Heap}
theorem scPut : FnScope ["_law_state", "_law_things", "_law_thing", "_law_at"] ["_law_state", "_law_things", "_law_thing"] (defScope sPut) := ⟨rfl, rfl, rfl, by decide +kernel, rfl, by decide +kernel, by decide +kernel⟩
def spPut : Sp := fun vs H Q _ => ∃ (l lt : Addr) (v : V) (xs : List V), vs = [.ref l, .ref lt, v] /\ stt H l /\ H lt = some (.lst xs) /\ lt ≠ l /\ xs.length <= 1000 /\ ∀ (k : Nat) a H', But l H H' -> stt H' l -> nw H H' a = some (.lst (insAt xs k v)) -> Q (.ref a) H'
theorem ok_put {f : Addr} {fd : FuncData} (F : Fun K "_law_put" "_law_put" sPut f fd) (B : Bi mg) (cD : Cal P w K mg base 1 "_law_digit" ["_law_state", "_law_base"] spDigit) : FnOk P w K mg base CX0 2 f fd ["_law_state", "_law_things", "_law_thing"] spPut := by
  refine F.ok scPut (fun vs H Q E h => ?_) (fun cdv A outer s H vs Q E hr h => ?_)
  · obtain ⟨l, lt, v, xs, rfl, _⟩ := h
    rfl
  · obtain ⟨l, lt, v, xs, rfl, st, hlt, hne, lx, k⟩ := h
    have sz := sizeLine_eq
    refine' ⟨_, pss_cons ?s1 (pss_one ?s2), ?kk⟩
    case s1 => exact ps_set (i := 3) scPut.nd rfl (Or.inl rfl) (pe_fn cD hr (pa_cons (pv 0) (pa_cons (pe_op op_add (pe_callB call_len_seq (by rfl) B.len PySem.boot_len (pa_cons (pv 1) pa_nil)) pe_int) pa_nil)))
    case s2 => exact ps_ret (pe_op op_cat (pe_op op_cat (pe_slice sl_list (pv 1) po_none (po_some (pv 3))) (pe_lst (pa_cons (pv 2) pa_nil))) (pe_slice sl_list (pv 1) (po_some (pv 3)) po_none))
    case' kk => skip
    refine ⟨_, rfl, _, rfl, lt, xs, rfl, .inl (.of hlt), _, _, rfl, rfl, l, _, rfl, by show (0 : Int) < (xs.length : Int) + 1; omega, by show (xs.length : Int) + 1 < 1073741824; omega, st, fun r H1 r0 r1 b1 st1 => ?_⟩
    obtain ⟨j, rfl⟩ : ∃ j : Nat, r = (j : Int) := ⟨r.toNat, by omega⟩
    have n0 := st.has
    refine ⟨_, rfl, _, rfl, _, rfl, lt, xs, rfl, .of (b1 _ _ hlt hne), fun a1 n2 => ?_⟩
    apply newG n0 b1 st1 n2
    intro H2 e2 s2 ha1 st2 b2
    rw [e2]
    clear e2
    rw [cutV_take] at ha1
    refine ⟨_, rfl, by show 1 <= sizeLine; decide, fun a2 n3 => ?_⟩
    apply newG n0 b2 st2 n3
    intro H3 e3 s3 ha2 st3 b3
    rw [e3]
    clear e3
    have lt1 : (xs.take j).length <= xs.length := by rw [List.length_take]; omega
    refine ⟨a1, a2, _, _, rfl, rfl, nw_same _ _ (s3 _ _ ha1), nw_same _ _ ha2, by show (xs.take j).length + 1 <= sizeLine; omega, fun a3 n4 => ?_⟩
    apply newG n0 b3 st3 n4
    intro H4 e4 s4 ha3 st4 b4
    rw [e4]
    clear e4
    refine ⟨_, rfl, _, rfl, _, rfl, lt, xs, rfl, .of (b4 _ _ hlt hne), fun a4 n5 => ?_⟩
    apply newG n0 b4 st4 n5
    intro H5 e5 s5 ha4 st5 b5
    rw [e5]
    clear e5
    rw [cutV_drop] at ha4
    have ld : (xs.drop j).length <= xs.length := by rw [List.length_drop]; omega
    refine ⟨a3, a4, _, _, rfl, rfl, nw_same _ _ (s5 _ _ ha3), nw_same _ _ ha4, by rw [List.length_append]; show (xs.take j).length + 1 + (xs.drop j).length <= sizeLine; omega, fun a5 n6 => ?_⟩
    apply newG n0 b5 st5 n6
    intro H6 e6 s6 ha5 st6 b6
    rw [e6]
    clear e6
    refine k j a5 H6 b6 st6 ?_
    rw [ha5, List.append_assoc]
    rfl
theorem scOddH : FnScope ["_law_state", "_law_hand", "_law_name_here", "_law_strength", "_law_odd", "_law_some"] ["_law_state", "_law_hand"] (defScope sOddH) := ⟨rfl, rfl, rfl, by decide +kernel, rfl, by decide +kernel, by decide +kernel⟩
def spOddH (K : PySem.W.Frag) : Sp := fun vs H Q _ => ∃ (l p : Addr) (h : Str × Int), vs = [.ref l, .ref p] /\ goodH h /\ H p = some (.tup [.str h.1, .int h.2]) /\ stt H l /\ ∀ v H', But l H H' -> stt H' l -> HandV K (nw H H') v none -> Q v H'
set_option maxHeartbeats 1600000 in
theorem ok_oddH {f : Addr} {fd : FuncData} (F : Fun K "_law_odd_hand" "_law_odd_hand" sOddH f fd) (B : Bi mg) (cD : Cal P w K mg base 1 "_law_digit" ["_law_state", "_law_base"] spDigit) (cN : Cal P w K mg base 2 "_law_odd_name" ["_law_state", "_law_name_here"] spOddN) : FnOk P w K mg base CX0 3 f fd ["_law_state", "_law_hand"] (spOddH K) := by
  refine F.ok scOddH (fun vs H Q E h => ?_) (fun cdv A outer s H vs Q E hr h => ?_)
  · obtain ⟨l, p, h, rfl, _⟩ := h
    rfl
  · obtain ⟨l, p, ⟨x, n⟩, rfl, g, hp, st, k⟩ := h
    obtain ⟨gx, gn1, gn2⟩ := id g
    have gx : nameB x = true := gx
    have hr1 : Room 1 _ := hr.mono (by decide)
    have sz := sizeLine_eq
    refine' ⟨_, pss_cons ?s1 (pss_cons ?s2 (pss_cons ?s3 (pss_cons ?s4 (pss_one ?s5)))), ?kk⟩
    case s1 => exact ps_asg (pv 1) (pg_tup rfl (pgs_cons (pg_name (i := 2) scOddH.nd rfl (Or.inl rfl)) (pgs_cons (pg_name (i := 3) scOddH.nd rfl (Or.inl rfl)) pgs_nil)))
    case' s2 => refine' ps_set (i := 4) scOddH.nd rfl (Or.inl rfl) (pe_ix ix_list (pe_lst ?l0) (pe_fn cD hr1 (pa_cons (pv 0) (pa_cons pe_int pa_nil))) (fun _ _ => rfl))
    case' l0 => refine' pa_cons pe_int ?l1
    case' l1 => refine' pa_cons (pe_un un_neg pe_int) ?l2
    case' l2 => refine' pa_cons pe_int ?l3
    case' l3 => refine' pa_cons pe_bl ?l4
    case' l4 => refine' pa_cons pe_bl ?l5
    case' l5 => refine' pa_cons pe_non ?l6
    case' l6 => refine' pa_cons pe_str ?l7
    case' l7 => refine' pa_cons (pe_lst (pa_cons pe_int pa_nil)) ?l8
    case l8 => exact pa_cons (pe_op op_pow pe_int pe_int) pa_nil
    case' s3 => refine' ps_set (i := 5) scOddH.nd rfl (Or.inl rfl) (pe_lst ?m0)
    case' m0 => refine' pa_cons (pe_tup (pa_cons (pv 2) (pa_cons (pv 4) pa_nil))) ?m1
    case' m1 => refine' pa_cons (pe_tup (pa_cons (pv 2) (pa_cons (pv 4) pa_nil))) ?m2
    case' m2 => refine' pa_cons (pe_tup (pa_cons (pe_fn cN hr (pa_cons (pv 0) (pa_cons (pv 2) pa_nil))) (pa_cons (pv 3) pa_nil))) ?m3
    case m3 => exact pa_cons (pe_tup (pa_cons (pe_fn cN hr (pa_cons (pv 0) (pa_cons (pv 2) pa_nil))) (pa_cons (pv 3) pa_nil))) pa_nil
    case' s4 => refine' ps_set (i := 5) scOddH.nd rfl (Or.inl rfl) (pe_op op_cat (pv 5) (pe_lst ?o0))
    case' o0 => refine' pa_cons (pe_tup (pa_cons (pv 2) pa_nil)) ?o1
    case' o1 => refine' pa_cons (pe_tup (pa_cons (pv 2) (pa_cons (pv 3) (pa_cons pe_int pa_nil)))) ?o2
    case' o2 => refine' pa_cons (pe_lst (pa_cons (pv 2) (pa_cons (pv 3) pa_nil))) ?o3
    case' o3 => refine' pa_cons (pv 2) ?o4
    case' o4 => refine' pa_cons pe_non ?o5
    case o5 => exact pa_cons (pe_tup (pa_cons (pv 3) (pa_cons (pv 2) pa_nil))) pa_nil
    case s5 => exact ps_ret (pe_ix ix_list (pv 5) (pe_fn cD hr1 (pa_cons (pv 0) (pa_cons pe_int pa_nil))) (fun _ _ => rfl))
    case' kk => skip
    have len2 : 2 <= sizeLine := by decide
    refine seqG (fun σ H1 => H = H1 /\ σ = [some (.ref l), some (.ref p), some (.str x), some (.int n), none, none]) ?a2 ?a1
    case a1 =>
      intro N hN
      exact ⟨_, rfl, p, _, rfl, .of hp, rfl, _, _, rfl, _, _, rfl, rfl, hN _ _ ⟨rfl, rfl⟩⟩
    rintro _ _ ⟨rfl, rfl⟩
    have n0 := st.has
    refine seqG (fun σ H1 => ∃ v, But l H H1 /\ stt H1 l /\ StBad K (nw H H1) v /\ σ = [some (.ref l), some (.ref p), some (.str x), some (.int n), some v, none]) ?b2 ?b1
    case b1 =>
      intro N hN
      refine ⟨_, rfl, by show 1 <= sizeLine; decide, fun a1 n1 => ?_⟩
      apply newG n0 (But.refl l H) st n1
      intro H1 e1 s1 ha1 st1 b1
      rw [e1]
      clear e1
      refine ⟨_, _, rfl, rfl, ⟨by decide, by decide, by decide⟩, by show 9 <= sizeLine; decide, fun a2 n2 => ?_⟩
      apply newG n0 b1 st1 n2
      intro H2 e2 s2 ha2 st2 b2
      rw [e2]
      clear e2
      refine ⟨_, rfl, l, 9, rfl, by decide, by decide, st2, fun r H3 r0 r9 b3 st3 => ?_⟩
      have ha13 := b3.nw n0 _ _ (s2 _ _ ha1)
      have ha23 := b3.nw n0 _ _ ha2
      obtain ⟨v, hv, ov⟩ := hitL (p := StBad K (nw H H3)) (n := 9) (xs := [.int 0, .int (-1), .int 1001, .bl true, .bl false, .non, .str "1", .ref a1, .int (10 ^ (20 : Int).toNat)]) rfl r0 r9 (fun v hv => by
        simp only [List.mem_cons, List.not_mem_nil, or_false] at hv
        rcases hv with rfl | rfl | rfl | rfl | rfl | rfl | rfl | rfl | rfl
        · exact ⟨some 0, rfl, by decide⟩
        · exact ⟨some (-1), rfl, by decide⟩
        · exact ⟨some 1001, rfl, by decide⟩
        · exact ⟨none, .inl ⟨_, rfl⟩, rfl⟩
        · exact ⟨none, .inl ⟨_, rfl⟩, rfl⟩
        · exact ⟨none, .inr ⟨_, .non, rfl⟩, rfl⟩
        · exact ⟨none, .inr ⟨_, .str _, rfl⟩, rfl⟩
        · exact ⟨none, .inr ⟨_, .lst ha13, rfl⟩, rfl⟩
        · exact ⟨some (10 ^ (20 : Int).toNat), rfl, by decide⟩)
      exact ⟨a2, _, _, v, rfl, rfl, .of (nw_same _ _ ha23), hv, hN _ _ ⟨v, b2.trans b3, st3, ov, rfl⟩⟩
    rintro _ H1 ⟨vo, b1, st1, ov, rfl⟩
    have gd : ∀ (G : Hp) (q : Addr), StBad K G vo -> G q = some (.tup [.str x, vo]) -> HandV K G (.ref q) none := fun G q ⟨o, a, b⟩ h => .inr (.inr ⟨q, _, _, some x, o, rfl, h, rfl, a, fun y e => by cases e; have := nameB_len gx; omega, by rw [b, Bool.and_false]⟩)
    have gn : ∀ (G : Hp) (q : Addr) (v : V), OddV G v -> G q = some (.tup [v, .int n]) -> HandV K G (.ref q) none := fun G q v ov h => by
      obtain ⟨z, a, b, c⟩ := ov.nm (K := K)
      exact .inr (.inr ⟨q, _, _, z, some n, rfl, h, a, rfl, b, by rw [c, Bool.false_and]⟩)
    refine seqG (fun σ H2 => ∃ (a : Addr) (vs : List V), But l H H2 /\ stt H2 l /\ nw H H2 a = some (.lst vs) /\ vs.length = 4 /\ (∀ v ∈ vs, HandV K (nw H H2) v none) /\ σ = [some (.ref l), some (.ref p), some (.str x), some (.int n), some vo, some (.ref a)]) ?c2 ?c1
    case c1 =>
      intro N hN
      refine ⟨_, rfl, _, rfl, len2, fun a1 n2 => ?_⟩
      apply newG n0 b1 st1 n2
      intro H2 e2 s2 ha1 st2 b2
      rw [e2]
      clear e2
      refine ⟨_, rfl, _, rfl, len2, fun a2 n3 => ?_⟩
      apply newG n0 b2 st2 n3
      intro H3 e3 s3 ha2 st3 b3
      rw [e3]
      clear e3
      refine ⟨_, rfl, _, rfl, l, x, rfl, gx, st3, fun v3 H4 b4 st4 o3 => ⟨_, rfl, len2, fun a3 n5 => ?_⟩⟩
      have o3 := o3.same (nw_sub b3 st3)
      have s4 := b4.nw n0
      apply newG n0 (b3.trans b4) st4 n5
      intro H5 e5 s5 ha3 st5 b5
      rw [e5]
      clear e5
      refine ⟨_, rfl, _, rfl, l, x, rfl, gx, st5, fun v4 H6 b6 st6 o4 => ⟨_, rfl, len2, fun a4 n7 => ?_⟩⟩
      have o4 := o4.same (nw_sub b5 st5)
      have s6 := b6.nw n0
      apply newG n0 (b5.trans b6) st6 n7
      intro H7 e7 s7 ha4 st7 b7
      rw [e7]
      clear e7
      refine ⟨by show 4 <= sizeLine; decide, fun a5 n8 => ?_⟩
      apply newG n0 b7 st7 n8
      intro H8 e8 s8 ha5 st8 b8
      rw [e8]
      clear e8
      have e4 : Same (nw H H7) (nw H H8) := s8
      have e3 : Same (nw H H5) (nw H H8) := (s6.trans s7).trans s8
      have e2 : Same (nw H H3) (nw H H8) := (s4.trans s5).trans e3
      have e1 : Same (nw H H2) (nw H H8) := s3.trans e2
      refine hN _ _ ⟨a5, _, b8, st8, ha5, rfl, fun v hv => ?_, rfl⟩
      simp only [List.mem_cons, List.not_mem_nil, or_false] at hv
      rcases hv with rfl | rfl | rfl | rfl
      · exact gd _ _ ((ov.same s2).same e1) (e1 _ _ ha1)
      · exact gd _ _ (((ov.same s2).same s3).same e2) (e2 _ _ ha2)
      · exact gn _ _ v3 ((o3.same s5).same e3) (e3 _ _ ha3)
      · exact gn _ _ v4 ((o4.same s7).same e4) (e4 _ _ ha4)
    rintro _ H2 ⟨a, vs, b2, st2, hav, lv, ok4, rfl⟩
    refine seqG (fun σ H3 => ∃ (a : Addr) (vs : List V), But l H H3 /\ stt H3 l /\ nw H H3 a = some (.lst vs) /\ vs.length = 10 /\ (∀ v ∈ vs, HandV K (nw H H3) v none) /\ σ = [some (.ref l), some (.ref p), some (.str x), some (.int n), some vo, some (.ref a)]) ?d2 ?d1
    case d1 =>
      intro N hN
      refine ⟨_, rfl, _, rfl, by show 1 <= sizeLine; decide, fun a1 n3 => ?_⟩
      apply newG n0 b2 st2 n3
      intro H3 e3 s3 ha1 st3 b3
      rw [e3]
      clear e3
      refine ⟨_, rfl, _, rfl, by show 3 <= sizeLine; decide, fun a2 n4 => ?_⟩
      apply newG n0 b3 st3 n4
      intro H4 e4 s4 ha2 st4 b4
      rw [e4]
      clear e4
      refine ⟨_, rfl, _, rfl, len2, fun a3 n5 => ?_⟩
      apply newG n0 b4 st4 n5
      intro H5 e5 s5 ha3 st5 b5
      rw [e5]
      clear e5
      refine ⟨_, rfl, _, rfl, _, rfl, len2, fun a4 n6 => ?_⟩
      apply newG n0 b5 st5 n6
      intro H6 e6 s6 ha4 st6 b6
      rw [e6]
      clear e6
      refine ⟨by show 6 <= sizeLine; decide, fun a5 n7 => ?_⟩
      apply newG n0 b6 st6 n7
      intro H7 e7 s7 ha5 st7 b7
      rw [e7]
      clear e7
      have e5 : Same (nw H H6) (nw H H7) := s7
      have e4 : Same (nw H H5) (nw H H7) := s6.trans e5
      have e3 : Same (nw H H4) (nw H H7) := s5.trans e4
      have e2 : Same (nw H H3) (nw H H7) := s4.trans e3
      have e1 : Same (nw H H2) (nw H H7) := s3.trans e2
      refine ⟨a, a5, _, _, rfl, rfl, nw_same _ _ (e1 _ _ hav), nw_same _ _ ha5, by rw [lv]; show 4 + 6 <= sizeLine; decide, fun a6 n8 => ?_⟩
      apply newG n0 b7 st7 n8
      intro H8 e8 s8 ha6 st8 b8
      rw [e8]
      clear e8
      refine hN _ _ ⟨a6, _, b8, st8, ha6, by rw [List.length_append, lv]; rfl, fun v hv => ?_, rfl⟩
      rcases List.mem_append.mp hv with hv | hv
      · exact (ok4 v hv).same (e1.trans s8)
      simp only [List.mem_cons, List.not_mem_nil, or_false] at hv
      rcases hv with rfl | rfl | rfl | rfl | rfl | rfl
      · exact .inr (.inl ⟨a1, _, rfl, s8 _ _ (e2 _ _ ha1), by show ¬ 1 = 2; decide⟩)
      · exact .inr (.inl ⟨a2, _, rfl, s8 _ _ (e3 _ _ ha2), by show ¬ 3 = 2; decide⟩)
      · exact .inl ⟨_, .lst (s8 _ _ (e4 _ _ ha3)), rfl⟩
      · exact .inl ⟨_, .str _, rfl⟩
      · exact .inl ⟨_, .non, rfl⟩
      · exact .inr (.inr ⟨a4, _, _, none, none, rfl, s8 _ _ (e5 _ _ ha4), ⟨_, .int _, rfl⟩, .inr ⟨_, .str _, rfl⟩, (fun y e => by cases e), rfl⟩)
    rintro _ H3 ⟨a, vs, b3, st3, hav, lv, ok10, rfl⟩
    refine ⟨_, rfl, _, rfl, l, 10, rfl, by decide, by decide, st3, fun r H4 r0 r10 b4 st4 => ?_⟩
    obtain ⟨v, hv, ov⟩ := hitL (p := fun v => HandV K (nw H H4) v none) (n := 10) lv r0 r10 (fun v hv => (ok10 v hv).same (b4.nw n0))
    exact ⟨a, _, _, v, rfl, rfl, .of (nw_same _ _ (b4.nw n0 _ _ hav)), hv, k v H4 (b3.trans b4) st4 ov⟩
end
end Ev
set_option Elab.async false
set_option linter.all false
set_option maxRecDepth 100000
namespace Ev
open PySem L2
section
variable {P : Program} {w : World} {K : PySem.W.Frag} {mg : Str -> Option Value} {base : Heap}
theorem scOddT : FnScope ["_law_state", "_law_hands_here", "_law_names", "_law_one", "_law_strange", "_law_some"] ["_law_state", "_law_hands_here"] (defScope sOddT) := ⟨rfl, rfl, rfl, by decide +kernel, rfl, by decide +kernel, by decide +kernel⟩
def spOddT (K : PySem.W.Frag) : Sp := fun vs H Q _ => ∃ (l lh : Addr) (ys : List V) (hs : List (Str × Int)), vs = [.ref l, .ref lh] /\ stt H l /\ H lh = some (.lst ys) /\ TupsAt K H ys (hs.map kH) /\ (∀ h ∈ hs, goodH h) /\ 1 <= hs.length /\ hs.length <= 8 /\ ∀ v H', But l H H' -> stt H' l -> PairV K (nw H H') v none -> Q v H'
set_option maxHeartbeats 1600000 in
theorem ok_oddT {f : Addr} {fd : FuncData} (F : Fun K "_law_odd_tie" "_law_odd_tie" sOddT f fd) (B : Bi mg) (cD : Cal P w K mg base 1 "_law_digit" ["_law_state", "_law_base"] spDigit) (cN : Cal P w K mg base 2 "_law_odd_name" ["_law_state", "_law_name_here"] spOddN) : FnOk P w K mg base CX0 3 f fd ["_law_state", "_law_hands_here"] (spOddT K) := by
  refine F.ok scOddT (fun vs H Q E h => ?_) (fun cdv A outer s H vs Q E hr h => ?_)
  · obtain ⟨l, lh, ys, hs, rfl, _⟩ := h
    rfl
  · obtain ⟨l, lh, ys, hs, rfl, st, hlh, tu, good, h1, h8, k⟩ := h
    have hr1 : Room 1 _ := hr.mono (by decide)
    have sz := sizeLine_eq
    have len2 : 2 <= sizeLine := by decide
    have n0 := st.has
    refine' ⟨_, pss_cons ?s1 (pss_cons ?s2 (pss_cons ?s3 (pss_cons ?s4 (pss_one ?s5)))), ?kk⟩
    case s1 => exact ps_setC (i := 2) ["_law_name_here", "_law_strength"] 2 [] scOddT.nd rfl (Or.inl rfl) (pi_list (pv 1)) (fun fp s H => pg_tupC (n := 2) (pgs_cons (pg_name (i := 0) (show (["_law_name_here", "_law_strength"] : List Str).Nodup by decide +kernel) rfl (Or.inl rfl)) (pgs_cons (pg_name (i := 1) (show (["_law_name_here", "_law_strength"] : List Str).Nodup by decide +kernel) rfl (Or.inl rfl)) pgs_nil))) (fun fp s H => pts_nil) (fun fp s H => pv 0)
    case s2 => exact ps_set (i := 3) scOddT.nd rfl (Or.inl rfl) (pe_ix ix_list (pv 2) (pe_fn cD hr1 (pa_cons (pv 0) (pa_cons (pe_callB call_len_seq (by rfl) B.len PySem.boot_len (pa_cons (pv 2) pa_nil)) pa_nil))) (fun _ _ => rfl))
    case s3 => exact ps_set (i := 4) scOddT.nd rfl (Or.inl rfl) (pe_fn cN hr (pa_cons (pv 0) (pa_cons (pv 3) pa_nil)))
    case' s4 => refine' ps_set (i := 5) scOddT.nd rfl (Or.inl rfl) (pe_lst ?m0)
    case' m0 => refine' pa_cons (pe_tup (pa_cons (pv 3) (pa_cons (pv 4) pa_nil))) ?m1
    case' m1 => refine' pa_cons (pe_tup (pa_cons (pv 4) (pa_cons (pv 3) pa_nil))) ?m2
    case' m2 => refine' pa_cons (pe_tup (pa_cons (pv 3) (pa_cons (pv 3) pa_nil))) ?m3
    case m3 => exact pa_cons (pe_tup (pa_cons (pv 3) (pa_cons (pe_op op_add_str (pv 3) (pe_op op_mulS pe_str (pe_op op_sub pe_int (pe_callB call_len_str (by rfl) B.len PySem.boot_len (pa_cons (pv 3) pa_nil))))) pa_nil))) pa_nil
    case' s5 => refine' ps_ret (pe_ix ix_list (pe_op op_cat (pv 5) (pe_lst ?o0)) (pe_fn cD hr1 (pa_cons (pv 0) (pa_cons pe_int pa_nil))) (fun _ _ => rfl))
    case' o0 => refine' pa_cons (pe_tup (pa_cons (pv 3) pa_nil)) ?o1
    case' o1 => refine' pa_cons (pe_tup (pa_cons (pv 3) (pa_cons (pv 3) (pa_cons (pv 3) pa_nil)))) ?o2
    case' o2 => refine' pa_cons (pe_lst (pa_cons (pv 3) (pa_cons (pv 3) pa_nil))) ?o3
    case' o3 => refine' pa_cons (pv 3) ?o4
    case' o4 => refine' pa_cons pe_non ?o5
    case o5 => exact pa_cons (pe_tup pa_nil) pa_nil
    case' kk => skip
    refine seqG (fun σ H1 => ∃ ln, But l H H1 /\ stt H1 l /\ nw H H1 ln = some (.lst ((hs.map (·.1)).map V.str)) /\ σ = [some (.ref l), some (.ref lh), some (.ref ln), none, none, none]) ?a2 ?a1
    case a1 =>
      intro N hN
      refine ⟨_, rfl, lh, rfl, ⟨_, .of hlh⟩, fun ln hln => ?_⟩
      refine comp_names rfl hlh tu (by omega) hln fun H1 s1 hn1 => ?_
      exact hN _ _ ⟨ln, But.of s1, st.same s1, nw_at hn1 hln, rfl⟩
    rintro _ H1 ⟨ln, b1, st1, hln, rfl⟩
    refine seqG (fun σ H2 => ∃ x : Str, nameB x = true /\ But l H H2 /\ stt H2 l /\ σ = [some (.ref l), some (.ref lh), some (.ref ln), some (.str x), none, none]) ?b2 ?b1
    case b1 =>
      intro N hN
      have l1 : ((hs.map (·.1)).map V.str).length = hs.length := by rw [List.length_map, List.length_map]
      refine ⟨_, rfl, _, rfl, _, rfl, ln, _, rfl, .inl (.of (nw_same _ _ hln)), l, _, rfl, by omega, by omega, st1, fun r H2 r0 r1 b2 st2 => ?_⟩
      obtain ⟨v, hv, x, rfl, hx⟩ := hitL (p := fun v => ∃ x, v = .str x /\ nameB x = true) (xs := (hs.map (·.1)).map V.str) rfl r0 r1 (fun v hv => by
        obtain ⟨x, hx, rfl⟩ := List.mem_map.mp hv
        obtain ⟨h, hh, rfl⟩ := List.mem_map.mp hx
        exact ⟨_, rfl, (good h hh).1⟩)
      exact ⟨ln, _, _, _, rfl, rfl, .of (nw_same _ _ (b2.nw n0 _ _ hln)), hv, hN _ _ ⟨x, hx, b1.trans b2, st2, rfl⟩⟩
    rintro _ H2 ⟨x, nx, b2, st2, rfl⟩
    obtain ⟨x1, x8, xs⟩ := nameB_signs nx
    refine seqG (fun σ H3 => ∃ v, But l H H3 /\ stt H3 l /\ OddV (nw H H3) v /\ σ = [some (.ref l), some (.ref lh), some (.ref ln), some (.str x), some v, none]) ?c2 ?c1
    case c1 =>
      intro N hN
      exact ⟨_, rfl, _, rfl, l, x, rfl, nx, st2, fun v H3 b3 st3 o3 => hN _ _ ⟨v, b2.trans b3, st3, o3.same (nw_sub b2 st2), rfl⟩⟩
    rintro _ H3 ⟨vo, b3, st3, ov, rfl⟩
    have lnx : ∀ y, some x = some y -> y.length <= 100000 := fun y e => by cases e; omega
    refine seqG (fun σ H4 => ∃ (a : Addr) (vs : List V), But l H H4 /\ stt H4 l /\ nw H H4 a = some (.lst vs) /\ vs.length = 4 /\ (∀ v ∈ vs, PairV K (nw H H4) v none) /\ σ = [some (.ref l), some (.ref lh), some (.ref ln), some (.str x), some vo, some (.ref a)]) ?d2 ?d1
    case d1 =>
      intro N hN
      obtain ⟨mo, ml⟩ := mulX (n := 9 - (x.length : Int)) (by omega) (by omega)
      refine ⟨_, rfl, _, rfl, len2, fun a1 n4 => ?_⟩
      apply newG n0 b3 st3 n4
      intro H4 e4 s4 ha1 st4 b4
      rw [e4]
      clear e4
      refine ⟨_, rfl, _, rfl, len2, fun a2 n5 => ?_⟩
      apply newG n0 b4 st4 n5
      intro H5 e5 s5 ha2 st5 b5
      rw [e5]
      clear e5
      refine ⟨_, rfl, _, rfl, len2, fun a3 n6 => ?_⟩
      apply newG n0 b5 st5 n6
      intro H6 e6 s6 ha3 st6 b6
      rw [e6]
      clear e6
      refine ⟨_, rfl, _, rfl, _, rfl, x, rfl, by omega, _, _, rfl, rfl, _, _, rfl, rfl, mo, _, _, rfl, rfl, by omega, len2, fun a4 n7 => ?_⟩
      apply newG n0 b6 st6 n7
      intro H7 e7 s7 ha4 st7 b7
      rw [e7]
      clear e7
      refine ⟨by show 4 <= sizeLine; decide, fun a5 n8 => ?_⟩
      apply newG n0 b7 st7 n8
      intro H8 e8 s8 ha5 st8 b8
      rw [e8]
      clear e8
      have e4 : Same (nw H H7) (nw H H8) := s8
      have e3 : Same (nw H H6) (nw H H8) := s7.trans s8
      have e2 : Same (nw H H5) (nw H H8) := s6.trans e3
      have e1 : Same (nw H H4) (nw H H8) := s5.trans e2
      obtain ⟨z, q1, q2, q3⟩ := ((ov.same s4).same e1).nm (K := K)
      refine hN _ _ ⟨a5, _, b8, st8, ha5, rfl, fun v hv => ?_, rfl⟩
      simp only [List.mem_cons, List.not_mem_nil, or_false] at hv
      rcases hv with rfl | rfl | rfl | rfl
      · exact .inr (.inr ⟨a1, _, _, some x, z, rfl, e1 _ _ ha1, rfl, q1, lnx, q2, by rw [q3, Bool.and_false, Bool.false_and]⟩)
      · exact .inr (.inr ⟨a2, _, _, z, some x, rfl, e2 _ _ ha2, q1, rfl, q2, lnx, by rw [q3, Bool.false_and, Bool.false_and]⟩)
      · exact .inr (.inr ⟨a3, _, _, some x, some x, rfl, e3 _ _ ha3, rfl, rfl, lnx, lnx, by simp⟩)
      · have l9 : 8 < (x ++ Txt.mul "x" (9 - (x.length : Int))).length := by rw [app_len]; omega
        exact .inr (.inr ⟨a4, _, _, some x, some _, rfl, e4 _ _ ha4, rfl, rfl, lnx, fun y e => by cases e; rw [app_len]; omega, by rw [show (some (x ++ Txt.mul "x" (9 - (x.length : Int)))).elim false nameB = false from nm_long l9, Bool.and_false, Bool.false_and]⟩)
    rintro _ H4 ⟨a, vs, b4, st4, hav, lv, ok4, rfl⟩
    refine ⟨_, rfl, _, rfl, by show 1 <= sizeLine; decide, fun a1 n5 => ?_⟩
    apply newG n0 b4 st4 n5
    intro H5 e5 s5 ha1 st5 b5
    rw [e5]
    clear e5
    refine ⟨_, rfl, _, rfl, _, rfl, by show 3 <= sizeLine; decide, fun a2 n6 => ?_⟩
    apply newG n0 b5 st5 n6
    intro H6 e6 s6 ha2 st6 b6
    rw [e6]
    clear e6
    refine ⟨_, rfl, _, rfl, len2, fun a3 n7 => ?_⟩
    apply newG n0 b6 st6 n7
    intro H7 e7 s7 ha3 st7 b7
    rw [e7]
    clear e7
    refine ⟨_, rfl, by show 0 <= sizeLine; decide, fun a4 n8 => ?_⟩
    apply newG n0 b7 st7 n8
    intro H8 e8 s8 ha4 st8 b8
    rw [e8]
    clear e8
    refine ⟨by show 6 <= sizeLine; decide, fun a5 n9 => ?_⟩
    apply newG n0 b8 st8 n9
    intro H9 e9 s9 ha5 st9 b9
    rw [e9]
    clear e9
    have e5 : Same (nw H H8) (nw H H9) := s9
    have e4 : Same (nw H H7) (nw H H9) := s8.trans e5
    have e3 : Same (nw H H6) (nw H H9) := s7.trans e4
    have e2 : Same (nw H H5) (nw H H9) := s6.trans e3
    have e1 : Same (nw H H4) (nw H H9) := s5.trans e2
    refine ⟨a, a5, _, _, rfl, rfl, nw_same _ _ (e1 _ _ hav), nw_same _ _ ha5, by rw [lv]; show 4 + 6 <= sizeLine; decide, fun a6 n10 => ?_⟩
    apply newG n0 b9 st9 n10
    intro H10 e10 s10 ha6 st10 b10
    rw [e10]
    clear e10
    refine ⟨_, rfl, l, 10, rfl, by decide, by decide, st10, fun r H11 r0 r10 b11 st11 => ?_⟩
    have s11 := b11.nw n0
    have s12 := s10.trans s11
    obtain ⟨v, hv, pv⟩ := hitL (p := fun v => PairV K (nw H H11) v none) (n := 10) (xs := vs ++ [.ref a1, .ref a2, .ref a3, .str x, .non, .ref a4]) (by rw [List.length_append, lv]; rfl) r0 r10 (fun v hv => by
      rcases List.mem_append.mp hv with hv | hv
      · exact (ok4 v hv).same (e1.trans s12)
      simp only [List.mem_cons, List.not_mem_nil, or_false] at hv
      rcases hv with rfl | rfl | rfl | rfl | rfl | rfl
      · exact .inr (.inl ⟨a1, _, rfl, s12 _ _ (e2 _ _ ha1), by show ¬ 1 = 2; decide⟩)
      · exact .inr (.inl ⟨a2, _, rfl, s12 _ _ (e3 _ _ ha2), by show ¬ 3 = 2; decide⟩)
      · exact .inl ⟨_, .lst (s12 _ _ (e4 _ _ ha3)), rfl⟩
      · exact .inl ⟨_, .str _, rfl⟩
      · exact .inl ⟨_, .non, rfl⟩
      · exact .inr (.inl ⟨a4, _, rfl, s12 _ _ (e5 _ _ ha4), by show ¬ 0 = 2; decide⟩))
    exact ⟨a6, _, _, v, rfl, rfl, .of (nw_same _ _ (s11 _ _ ha6)), hv, k v H11 (b10.trans b11) st11 pv⟩
end
theorem first_bad {α β : Type} {F : V -> Option α -> Prop} {T : V -> α -> Prop} {g : α -> Prop} {key : α -> β} (up : ∀ y a, F y (some a) -> g a /\ T y a) : ∀ {ys : List V} {os : List (Option α)}, Paired F ys os -> ∀ (pre : List α) (yp : List V), Paired T yp pre -> (∀ a ∈ pre, g a) -> (pre.map key).Nodup -> (∀ as, os = as.map some -> ¬ ((pre ++ as).map key).Nodup) ->
    ∃ (as : List α) (y : V), Paired T ((yp ++ ys).take as.length) as /\ (∀ a ∈ as, g a) /\ (as.map key).Nodup /\ (yp ++ ys)[as.length]? = some y /\ (F y none ∨ ∃ a, F y (some a) /\ key a ∈ as.map key) := by
  intro ys os pr
  induction pr with
  | nil =>
    intro pre yp _ _ nd no
    exact absurd (by simpa using nd) (no [] rfl)
  | @cons y o ys os h pr ih =>
    intro pre yp tp gp nd no
    have le := Paired.length tp
    have here : (yp ++ y :: ys).take pre.length = yp /\ (yp ++ y :: ys)[pre.length]? = some y := by
      rw [<- le]
      exact ⟨by simp, by simp⟩
    cases o with
    | none => exact ⟨pre, y, by rw [here.1]; exact tp, gp, nd, here.2, .inl h⟩
    | some a =>
      by_cases m : key a ∈ pre.map key
      · exact ⟨pre, y, by rw [here.1]; exact tp, gp, nd, here.2, .inr ⟨a, h, m⟩⟩
      · obtain ⟨ga, ta⟩ := up y a h
        obtain ⟨as, z, q⟩ := ih (pre ++ [a]) (yp ++ [y]) (Paired.snoc tp ta) (fun b hb => by
          rcases List.mem_append.mp hb with hb | hb
          · exact gp b hb
          · rw [List.mem_singleton.mp hb]; exact ga) (by
          rw [List.map_append, List.nodup_append]
          refine ⟨nd, by simp, fun u hu v hv e => m ?_⟩
          rw [List.map_cons, List.map_nil, List.mem_singleton] at hv
          rw [<- hv, <- e]
          exact hu) (fun as e => by
          have := no (a :: as) (by rw [e]; rfl)
          rw [List.append_assoc]
          exact this)
        refine ⟨as, z, ?_⟩
        rw [List.append_assoc] at q
        exact q
theorem paired_mapR {α β γ : Type} {F : α -> γ -> Prop} {k : β -> γ} : ∀ {ys : List α} {as : List β}, Paired (fun y a => F y (k a)) ys as -> Paired F ys (as.map k)
  | _, _, .nil => .nil
  | _, _, .cons h t => .cons h (paired_mapR t)
theorem map_some_inj {α : Type} : ∀ {xs ys : List α}, xs.map some = ys.map some -> xs = ys
  | [], [], _ => rfl
  | [], _ :: _, h => by cases h
  | _ :: _, [], h => by cases h
  | x :: xs, y :: ys, h => by
    rw [List.map_cons, List.map_cons, List.cons.injEq] at h
    rw [Option.some.inj h.1, map_some_inj h.2]
section
variable {K : PySem.W.Frag}
theorem badHs_of {H : Hp} {l : Addr} {ys : List V} {os : List (Option (Str × Int))} (hl : H l = some (.lst ys)) (pr : Paired (HandV K H) ys os) (bad : ∀ hs : List (Str × Int), os = hs.map some -> ¬ (hs.map (·.1)).Nodup) : BadHs K H (.ref l) := by
  obtain ⟨hs, y, t, g, nd, hy, b⟩ := first_bad (F := HandV K H) (g := goodH) (T := fun y h => ∃ a, y = .ref a /\ H a = some (.tup ((kH h).map kV))) (key := (·.1)) (fun y a h => h) pr [] [] .nil (by simp) (by simp) (by simpa using bad)
  exact .inr ⟨l, ys, rfl, hl, .inr (.inr ⟨hs, y, paired_mapR (F := fun (y : V) (k : List Key) => ∃ a, y = V.ref a /\ H a = some (.tup (k.map kV))) t, g, nd, hy, b⟩)⟩
theorem badTs_of {H : Hp} {l : Addr} {ys : List V} {os : List (Option (Str × Str))} (hl : H l = some (.lst ys)) (h64 : ys.length <= 64) (pr : Paired (PairV K H) ys os) (bad : ∀ ts : List (Str × Str), os = ts.map some -> ¬ (ts.map kO).Nodup) : BadTs K H (.ref l) := by
  obtain ⟨ts, y, t, g, nd, hy, b⟩ := first_bad (F := PairV K H) (g := goodT) (T := fun y h => ∃ a, y = .ref a /\ H a = some (.tup ((kT h).map kV))) (key := kO) (fun y a h => h) pr [] [] .nil (by simp) (by simp) (by simpa using bad)
  have : ts.length < ys.length := (List.getElem?_eq_some_iff.mp hy).1
  exact .inr ⟨l, ys, ts, y, rfl, hl, paired_mapR (F := fun (y : V) (k : List Key) => ∃ a, y = V.ref a /\ H a = some (.tup (k.map kV))) t, g, nd, by omega, hy, b⟩
theorem handsV {H : Hp} : ∀ {ys : List V} {hs : List (Str × Int)}, TupsAt K H ys (hs.map kH) -> (∀ h ∈ hs, goodH h) -> Paired (HandV K H) ys (hs.map some)
  | _, [], .nil, _ => .nil
  | _, h :: hs, .cons ⟨a, e, q⟩ t, g => .cons ⟨g h List.mem_cons_self, a, e, q⟩ (handsV t fun x hx => g x (List.mem_cons_of_mem _ hx))
theorem tiesV {H : Hp} : ∀ {ys : List V} {ts : List (Str × Str)}, TupsAt K H ys (ts.map kT) -> (∀ t ∈ ts, goodT t) -> Paired (PairV K H) ys (ts.map some)
  | _, [], .nil, _ => .nil
  | _, h :: hs, .cons ⟨a, e, q⟩ t, g => .cons ⟨g h List.mem_cons_self, a, e, q⟩ (tiesV t fun x hx => g x (List.mem_cons_of_mem _ hx))
theorem ins_none {α : Type} {as bs : List α} {k : Nat} (e : insAt (as.map some) k none = bs.map some) : False := by
  have m : none ∈ bs.map some := by rw [<- e]; exact (insAt_perm _ _ _).mem_iff.mpr List.mem_cons_self
  obtain ⟨b, _, e⟩ := List.mem_map.mp m
  cases e
theorem ins_some {α β : Type} {key : α -> β} {as bs : List α} {k : Nat} {a : α} (e : insAt (as.map some) k (some a) = bs.map some) (m : key a ∈ as.map key) : ¬ (bs.map key).Nodup := by
  rw [<- insAt_map] at e
  rw [<- map_some_inj e, insAt_map, (insAt_perm _ _ _).nodup_iff, List.nodup_cons]
  exact fun q => q.1 m
end
end Ev
set_option Elab.async false
set_option linter.all false
set_option maxRecDepth 100000
namespace Ev
open PySem L2
theorem ltS_asymm {a b : Str} (h : ltS a b = true) : ltS b a = false := kLt_asymm (a := Sum.inr a) (b := Sum.inr b) h
theorem ltS_tot {a b : Str} (h : ltS a b = false) (h2 : ltS b a = false) : a = b := Sum.inr.inj (kLt_tot (a := Sum.inr a) (b := Sum.inr b) h h2)
theorem ord2_comm (a b : Str) : ord2 a b = ord2 b a := by
  unfold ord2
  by_cases h : ltS a b = true
  · rw [if_pos h, if_neg (by rw [ltS_asymm h]; decide)]
  · by_cases h2 : ltS b a = true
    · rw [if_neg h, if_pos h2]
    · have := ltS_tot (by simpa using h) (by simpa using h2)
      subst this
      rw [if_neg h]
def BP (K : PySem.W.Frag) (G : Hp) (p : V) : Prop := ∃ a v1 v2, p = .ref a /\ G a = some (.tup [v1, v2]) /\ BadWeb K G v1 v2
theorem BP.same {K : PySem.W.Frag} {G G' : Hp} {p : V} (h : BP K G p) (s : Same G G') : BP K G' p := by
  obtain ⟨a, v1, v2, e, h, b⟩ := h
  exact ⟨a, v1, v2, e, s _ _ h, b.same s⟩
structure HT (K : PySem.W.Frag) (G : Hp) (lh lt : Addr) (yh yt : List V) (hs : List (Str × Int)) (ts : List (Str × Str)) : Prop where
  h : G lh = some (.lst yh)
  th : TupsAt K G yh (hs.map kH)
  t : G lt = some (.lst yt)
  tt : TupsAt K G yt (ts.map kT)
theorem HT.same {K : PySem.W.Frag} {G G' : Hp} {lh lt : Addr} {yh yt : List V} {hs : List (Str × Int)} {ts : List (Str × Str)} (h : HT K G lh lt yh yt hs ts) (s : Same G G') : HT K G' lh lt yh yt hs ts := ⟨s _ _ h.h, h.th.same s, s _ _ h.t, h.tt.same s⟩
theorem paired_take {α β : Type} {F : α -> β -> Prop} : ∀ {ys : List α} {ks : List β} (n : Nat), Paired F ys ks -> Paired F (ys.take n) (ks.take n)
  | _, _, 0, _ => by rw [List.take_zero, List.take_zero]; exact .nil
  | _, _, n + 1, .nil => .nil
  | _, _, n + 1, .cons h t => .cons h (paired_take n t)
section
variable {K : PySem.W.Frag} {G : Hp} {lh lt : Addr} {yh yt : List V} {hs : List (Str × Int)} {ts : List (Str × Str)}
theorem bw_hand {a : Addr} {ys : List V} {gs : List (Str × Int)} {k : Nat} {v : V} (h : G a = some (.lst (insAt ys k v))) (tu : TupsAt K G ys (gs.map kH)) (g : ∀ h ∈ gs, goodH h) (b : HandV K G v none) : BadHs K G (.ref a) :=
  badHs_of h (paired_ins k (handsV tu g) b) fun hs e => (ins_none e).elim
theorem bw_twice {a q : Addr} {k : Nat} {h : Str × Int} {m : Int} (X : HT K G lh lt yh yt hs ts) (g : ∀ h ∈ hs, goodH h) (hm : h ∈ hs) (m1 : 1 <= m) (m2 : m <= 1000) (hq : G q = some (.tup [.str h.1, .int m])) (ha : G a = some (.lst (insAt yh k (.ref q)))) : BadHs K G (.ref a) :=
  badHs_of ha (paired_ins k (handsV X.th g) (q := some (h.1, m)) ⟨⟨(g h hm).1, m1, m2⟩, q, rfl, hq⟩) fun hs e => ins_some (key := (·.1)) e (List.mem_map.mpr ⟨h, hm, rfl⟩)
theorem bw_tie {a : Addr} {k : Nat} {v : V} {o : Option (Str × Str)} (X : HT K G lh lt yh yt hs ts) (W : Good hs ts) (ha : G a = some (.lst (insAt yt k v))) (b : PairV K G v o) (hb : ∀ t, o = some t -> kO t ∈ ts.map kO) : BadWeb K G (.ref lh) (.ref a) := by
  refine .inr ⟨badTs_of ha ?_ (paired_ins k (tiesV X.tt W.tok) b) fun bs e => ?_, lh, yh, hs, rfl, X.h, X.th, W.hok, W.hnd, W.h1, W.h8⟩
  · rw [insAt_len]
    have := Paired.length X.tt
    rw [List.length_map] at this
    have := W.t64
    omega
  · cases o with
    | none => exact (ins_none e).elim
    | some t => exact ins_some (key := kO) e (hb t rfl)
theorem bw_goodH (X : HT K G lh lt yh yt hs ts) (W : Good hs ts) {v : V} (b : BadTs K G v) : BadWeb K G (.ref lh) v := .inr ⟨b, lh, yh, hs, rfl, X.h, X.th, W.hok, W.hnd, W.h1, W.h8⟩
end
theorem wo_ne {l a : Addr} {H : Hp} {o : HO} (h : wo l H a = some o) : a ≠ l := fun z => by
  unfold wo at h
  rw [if_pos z] at h
  cases h
theorem _root_.L2.Same.wo2 {D : Addr} {A B : Hp} (s : Same A B) : Same (wo D A) (wo D B) := fun b o e => wo_at (s _ _ (wo_same _ _ e)) (wo_ne e)
theorem wo_upd {l D : Addr} {H : Hp} {o : HO} : wo D (wo l (upd H D o)) = wo D (wo l H) := by
  funext b
  unfold wo
  by_cases z : b = D
  · rw [if_pos z, if_pos z]
  · rw [if_neg z, if_neg z, upd_ne z]
theorem nw_wo {l a : Addr} {H1 H2 : Hp} (na : H1 a ≠ none) (nl : H1 l ≠ none) : Same (nw H1 H2) (wo a (wo l H2)) := fun b o e => by
  obtain ⟨h0, h1⟩ := nw_of e
  exact wo_at (wo_at h1 (fun z => nl (z ▸ h0))) (fun z => na (z ▸ h0))
structure BSt (K : PySem.W.Frag) (H : Hp) (l lh lt q a : Addr) (yh yt : List V) (hs : List (Str × Int)) (ts : List (Str × Str)) (h : Str × Int) (n : Nat) (H1 : Hp) : Prop where
  b : But l H H1
  st : stt H1 l
  na : H a = none
  ne : a ≠ l
  X : HT K (wo a (wo l H1)) lh lt yh yt hs ts
  q : wo a (wo l H1) q = some (.tup [.str h.1, .int h.2])
  vs : ∃ vs, H1 a = some (.lst vs) /\ vs.length <= n /\ ∀ p ∈ vs, BP K (wo a (wo l H1)) p
section
variable {K : PySem.W.Frag} {H H1 H2 : Hp} {l lh lt q a : Addr} {yh yt : List V} {hs : List (Str × Int)} {ts : List (Str × Str)} {h : Str × Int} {n : Nat}
theorem BSt.has (B : BSt K H l lh lt q a yh yt hs ts h n H1) : H1 a ≠ none := by
  obtain ⟨vs, e, _⟩ := B.vs
  rw [e]
  exact fun z => by cases z
theorem BSt.go (B : BSt K H l lh lt q a yh yt hs ts h n H1) (b : But l H1 H2) (st : stt H2 l) : BSt K H l lh lt q a yh yt hs ts h n H2 := by
  obtain ⟨vs, e, le, ok⟩ := B.vs
  have s := b.wo.wo2 (D := a)
  exact ⟨B.b.trans b, st, B.na, B.ne, B.X.same s, s _ _ B.q, vs, b _ _ e B.ne, le, fun p hp => (ok p hp).same s⟩
theorem BSt.app (B : BSt K H l lh lt q a yh yt hs ts h n H1) {vs : List V} {p : V} (e : H1 a = some (.lst vs)) (k : BP K (wo a (wo l H1)) p) : BSt K H l lh lt q a yh yt hs ts h (n + 1) (upd H1 a (.lst (vs ++ [p]))) := by
  obtain ⟨vs', e', le, ok⟩ := B.vs
  rw [e] at e'
  cases e'
  have st : stt (upd H1 a (.lst (vs ++ [p]))) l := by
    unfold stt
    rw [upd_ne B.ne.symm]
    exact B.st
  refine ⟨fun b o e n => by rw [upd_ne (fun z => by rw [z, B.na] at e; cases e)]; exact B.b b o e n, st, B.na, B.ne, by rw [wo_upd]; exact B.X, by rw [wo_upd]; exact B.q, _, upd_same, by rw [List.length_append]; show vs.length + 1 <= n + 1; omega, fun p' hp => ?_⟩
  rw [wo_upd]
  rcases List.mem_append.mp hp with hp | hp
  · exact ok p' hp
  · rw [List.mem_singleton.mp hp]; exact k
theorem BSt.mk0 {p : V} (b : But l H H1) (st : stt H1 l) (na : H1 a = none) (X : HT K (wo l H1) lh lt yh yt hs ts) (hq : wo l H1 q = some (.tup [.str h.1, .int h.2])) (k : BP K (wo l H1) p) : BSt K H l lh lt q a yh yt hs ts h 1 (upd H1 a (.lst [p])) := by
  have s : Same (wo l H1) (wo a (wo l (upd H1 a (.lst [p])))) := by
    rw [wo_upd]
    exact fun b o e => wo_at e (fun z => by rw [z] at e; rw [wo_same _ _ e] at na; cases na)
  have s2 := Same.new (o := .lst [p]) na
  exact ⟨b.trans (But.of s2), st.same s2, b.free st na, st.ne na, X.same s, s _ _ hq, _, upd_same, Nat.le_refl _, fun p' hp => by rw [List.mem_singleton.mp hp]; exact k.same s⟩
end
end Ev
set_option Elab.async false
set_option linter.all false
set_option maxRecDepth 100000
namespace Ev
open PySem L2
theorem pick {K : PySem.W.Frag} {G : Hp} {α : Type} {ks : α -> List Key} {ys : List V} {as : List α} (t : TupsAt K G ys (as.map ks)) {r : Int} (r0 : 0 <= r) (r1 : r < (ys.length : Int)) : ∃ a p, a ∈ as /\ atI ys r = some (.ref p) /\ G p = some (.tup ((ks a).map kV)) := by
  have hy : ys[r.toNat]? = some ys[r.toNat] := List.getElem?_eq_getElem (by omega)
  obtain ⟨a, ha, p, e, hp⟩ := paired_map t hy
  exact ⟨a, p, List.mem_of_getElem? ha, by rw [atI_nat r0 r1, hy, e], hp⟩
theorem nw_wo1 {l : Addr} {H1 H2 : Hp} (nl : H1 l ≠ none) : Same (nw H1 H2) (wo l H2) := fun b o e => by
  obtain ⟨h0, h1⟩ := nw_of e
  exact wo_at h1 (fun z => nl (z ▸ h0))
section
variable {P : Program} {w : World} {K : PySem.W.Frag} {mg : Str -> Option Value} {base : Heap}
theorem scBad : FnScope ["_law_state", "_law_hands_here", "_law_ties_here", "_law_twice", "_law_some", "_law_tie", "_law_nine"] ["_law_state", "_law_hands_here", "_law_ties_here"] (defScope sBad) := ⟨rfl, rfl, rfl, by decide +kernel, rfl, by decide +kernel, by decide +kernel⟩
def spBad (K : PySem.W.Frag) : Sp := fun vs H Q _ => ∃ (l lh lt : Addr) (yh yt : List V) (hs : List (Str × Int)) (ts : List (Str × Str)), vs = [.ref l, .ref lh, .ref lt] /\ stt H l /\ HT K (wo l H) lh lt yh yt hs ts /\ Good hs ts /\ ∀ a ps H', But l H H' -> stt H' l -> H a = none -> H' a = some (.lst ps) -> ps.length <= 20 -> (∀ p ∈ ps, BP K H' p) -> Q (.ref a) H'
abbrev nT : List Str := ["_law_k"]
set_option maxHeartbeats 4000000 in
theorem ok_bad {f : Addr} {fd : FuncData} (F : Fun K "_law_bad" "_law_bad" sBad f fd) (B : Bi mg) (cD : Cal P w K mg base 1 "_law_digit" ["_law_state", "_law_base"] spDigit) (cP : Cal P w K mg base 2 "_law_put" ["_law_state", "_law_things", "_law_thing"] spPut) (cH : Cal P w K mg base 3 "_law_odd_hand" ["_law_state", "_law_hand"] (spOddH K)) (cT : Cal P w K mg base 3 "_law_odd_tie" ["_law_state", "_law_hands_here"] (spOddT K)) : FnOk P w K mg base CX0 4 f fd ["_law_state", "_law_hands_here", "_law_ties_here"] (spBad K) := by
  refine F.ok scBad (fun vs H Q E h => ?_) (fun cdv A outer s H vs Q E hr h => ?_)
  · obtain ⟨l, lh, lt, yh, yt, hs, ts, rfl, _⟩ := h
    rfl
  · obtain ⟨l, lh, lt, yh, yt, hs, ts, rfl, st, X0, W, k⟩ := h
    have hr1 : Room 1 _ := hr.mono (by decide)
    have hr2 : Room 2 _ := hr.mono (by decide)
    have hu := hu_of hr
    have sz := sizeLine_eq
    have len2 : 2 <= sizeLine := by decide
    have n0 := st.has
    have lhl := wo_ne X0.h
    have ltl := wo_ne X0.t
    have lyh := Paired.length X0.th
    have lyt := Paired.length X0.tt
    rw [List.length_map] at lyh lyt
    have h1 := W.h1
    have h8 := W.h8
    have t64 := W.t64
    refine' ⟨_, ?r0, ?kk⟩
    case' r0 => refine' pss_cons ?s1 ?r1
    case' r1 => refine' pss_cons ?s2 ?r2
    case' r2 => refine' pss_cons ?s3 ?r3
    case' r3 => refine' pss_cons ?s4 ?r4
    case' r4 => refine' pss_cons ?s5 ?r5
    case' r5 => refine' pss_cons ?s6 ?r6
    case' r6 => refine' pss_cons ?s7 ?r7
    case' r7 => refine' pss_cons ?s8 (pss_one ?s9)
    case s1 => exact ps_set (i := 3) scBad.nd rfl (Or.inl rfl) (pe_ix ix_list (pv 1) (pe_fn cD hr1 (pa_cons (pv 0) (pa_cons (pe_callB call_len_seq (by rfl) B.len PySem.boot_len (pa_cons (pv 1) pa_nil)) pa_nil))) (fun _ _ => rfl))
    case s2 => exact ps_set (i := 4) scBad.nd rfl (Or.inl rfl) (pe_lst (pa_cons (pe_tup (pa_cons (pe_slice sl_list (pe_fn cP hr2 (pa_cons (pv 0) (pa_cons (pv 1) (pa_cons (pe_fn cH hr (pa_cons (pv 0) (pa_cons (pv 3) pa_nil))) pa_nil)))) po_none (po_some pe_int)) (pa_cons (pv 2) pa_nil))) pa_nil))
    case s3 => exact ps_if (pt_cmpR op_eq (pe_callB call_len_seq (by rfl) B.len PySem.boot_len (pa_cons (pv 1) pa_nil)) pe_int (nomark _)) (pss_one (ps_set (i := 4) scBad.nd rfl (Or.inl rfl) (pe_lst (pa_cons (pe_tup (pa_cons (pe_fn cP hr2 (pa_cons (pv 0) (pa_cons (pe_slice sl_list (pv 1) po_none (po_some pe_int)) (pa_cons (pe_fn cH hr (pa_cons (pv 0) (pa_cons (pe_ix ix_list (pv 1) pe_int (fun _ _ => rfl)) pa_nil))) pa_nil)))) (pa_cons (pe_lst pa_nil) pa_nil))) pa_nil)))) pss_nil
    case s4 => exact ps_expr (pe_bm PySem.F.plainAttrs_list PySem.F.slot_list_append PySem.F.type_list_append mt_append (pv 4) (pa_cons (pe_tup (pa_cons (pe_fn cP hr2 (pa_cons (pv 0) (pa_cons (pv 1) (pa_cons (pe_tup (pa_cons (pe_ix ix_tup (pv 3) pe_int (fun _ _ => rfl)) (pa_cons (pe_op op_add pe_int (pe_op op_mod (pe_ix ix_tup (pv 3) pe_int (fun _ _ => rfl)) pe_int)) pa_nil))) pa_nil)))) (pa_cons (pv 2) pa_nil))) pa_nil))
    case s5 => exact ps_expr (pe_bm PySem.F.plainAttrs_list PySem.F.slot_list_append PySem.F.type_list_append mt_append (pv 4) (pa_cons (pe_tup (pa_cons (pv 1) (pa_cons (pe_fn cP hr2 (pa_cons (pv 0) (pa_cons (pv 2) (pa_cons (pe_fn cT hr (pa_cons (pv 0) (pa_cons (pv 1) pa_nil))) pa_nil)))) pa_nil))) pa_nil))
    case' s6 => refine' ps_if (pt_cmpR (op_neL (cmp2 cmpS cmpS) (roomU hr _)) (pv 2) (pe_lst pa_nil) (by with_unfolding_all rfl)) (pss_cons ?s6a (pss_one ?s6b)) pss_nil
    case s6a => exact ps_set (i := 5) scBad.nd rfl (Or.inl rfl) (pe_ix ix_list (pv 2) (pe_fn cD hr1 (pa_cons (pv 0) (pa_cons (pe_callB call_len_seq (by rfl) B.len PySem.boot_len (pa_cons (pv 2) pa_nil)) pa_nil))) (fun _ _ => rfl))
    case s6b => exact ps_expr (pe_bm PySem.F.plainAttrs_list PySem.F.slot_list_append PySem.F.type_list_append mt_append (pv 4) (pa_cons (pe_tup (pa_cons (pv 1) (pa_cons (pe_fn cP hr2 (pa_cons (pv 0) (pa_cons (pv 2) (pa_cons (pe_ix ix_list (pe_lst (pa_cons (pv 5) (pa_cons (pe_rev2 (pv 5) (pe_un un_neg pe_int)) pa_nil))) (pe_fn cD hr1 (pa_cons (pv 0) (pa_cons pe_int pa_nil))) (fun _ _ => rfl)) pa_nil)))) pa_nil))) pa_nil))
    case s7 => exact ps_setC (i := 6) nT 1 [] scBad.nd rfl (Or.inl rfl) (pi_range1 (by rfl) B.range (pa_cons pe_int pa_nil)) (fun fp s H => pg_name (i := 0) (show nT.Nodup by decide +kernel) rfl (Or.inl rfl)) (fun fp s H => pts_nil) (fun fp s H => pe_tup (pa_cons (pe_ix ix_str pe_str (pv 0) (fun _ _ => rfl)) (pa_cons pe_int pa_nil)))
    case' s8 => refine' ps_set (i := 4) scBad.nd rfl (Or.inl rfl) (pe_op op_cat (pv 4) (pe_lst ?m0))
    case' m0 => refine' pa_cons (pe_tup (pa_cons (pe_lst pa_nil) (pa_cons (pe_lst pa_nil) pa_nil))) ?m1
    case' m1 => refine' pa_cons (pe_tup (pa_cons (pv 6) (pa_cons (pe_lst pa_nil) pa_nil))) ?m2
    case' m2 => refine' pa_cons (pe_tup (pa_cons (pe_callTy call_tuple_of (by rfl) B.tuple PyProof.Rows.Boot.«tuple» (pa_cons (pv 1) pa_nil)) (pa_cons (pv 2) pa_nil))) ?m3
    case' m3 => refine' pa_cons (pe_tup (pa_cons (pv 1) (pa_cons (pe_callTy call_tuple_of (by rfl) B.tuple PyProof.Rows.Boot.«tuple» (pa_cons (pv 2) pa_nil)) pa_nil))) ?m4
    case' m4 => refine' pa_cons (pe_tup (pa_cons pe_non (pa_cons (pv 2) pa_nil))) ?m5
    case m5 => exact pa_cons (pe_tup (pa_cons (pv 1) (pa_cons pe_non pa_nil))) pa_nil
    case' s9 => refine' ps_ret (pe_op op_cat (pv 4) (pe_lst ?o0))
    case' o0 => refine' pa_cons (pe_tup (pa_cons (pe_callTy (call_dictOf rfl) (by rfl) B.dict PyProof.Rows.Boot.«dict» (pa_cons (pv 1) pa_nil)) (pa_cons (pv 2) pa_nil))) ?o1
    case' o1 => refine' pa_cons (pe_tup (pa_cons (pv 1) (pa_cons pe_str pa_nil))) ?o2
    case o2 => exact pa_cons (pe_tup (pa_cons (pe_fn cP hr2 (pa_cons (pv 0) (pa_cons (pv 1) (pa_cons pe_non pa_nil)))) (pa_cons (pe_fn cP hr2 (pa_cons (pv 0) (pa_cons (pv 2) (pa_cons pe_non pa_nil)))) pa_nil))) pa_nil
    case' kk => skip
    refine seqG (fun σ H1 => ∃ (q : Addr) (h : Str × Int), h ∈ hs /\ But l H H1 /\ stt H1 l /\ wo l H1 q = some (.tup [.str h.1, .int h.2]) /\ σ = [some (.ref l), some (.ref lh), some (.ref lt), some (.ref q), none, none, none]) ?a2 ?a1
    case a1 =>
      intro N hN
      refine ⟨_, rfl, _, rfl, _, rfl, lh, _, rfl, .inl (.of (wo_same _ _ X0.h)), l, _, rfl, by omega, by omega, st, fun r H1 r0 r1 b1 st1 => ?_⟩
      obtain ⟨h, q, hm, hat, hq⟩ := pick (X0.th.same b1.wo) r0 r1
      exact ⟨lh, _, _, _, rfl, rfl, .of (wo_same _ _ (b1.wo _ _ X0.h)), hat, hN _ _ ⟨q, h, hm, b1, st1, hq, rfl⟩⟩
    rintro _ H1 ⟨q, h, hm, b1, st1, hq, rfl⟩
    have X1 := X0.same b1.wo
    have g := W.hok h hm
    refine seqG (fun σ H2 => ∃ a : Addr, But l H H2 /\ stt H2 l /\ wo l H2 q = some (.tup [.str h.1, .int h.2]) /\ (hs.length < 8 -> BSt K H l lh lt q a yh yt hs ts h 1 H2) /\ σ = [some (.ref l), some (.ref lh), some (.ref lt), some (.ref q), some (.ref a), none, none]) ?b2 ?b1
    case b1 =>
      intro N hN
      have n1 := st1.has
      refine ⟨_, rfl, _, rfl, _, rfl, _, rfl, l, q, h, rfl, g, wo_same _ _ hq, st1, fun v H2 b2 st2 bv => ?_⟩
      refine ⟨l, lh, v, yh, rfl, st2, wo_same _ _ (b2.wo _ _ X1.h), lhl, by omega, fun kk a1 H3 b3 st3 ha1 => ?_⟩
      have ha1 := nw_sub b2 st2 _ _ ha1
      refine ⟨_, rfl, a1, _, rfl, .of (nw_same _ _ ha1), fun a2 m4 => ?_⟩
      apply newG n1 (b2.trans b3) st3 m4
      intro H4 e4 s4 ha2 st4 b4
      rw [e4]
      clear e4
      refine ⟨_, rfl, len2, fun a3 m5 => ?_⟩
      apply newG n1 b4 st4 m5
      intro H5 e5 s5 ha3 st5 b5
      rw [e5]
      clear e5
      refine ⟨by show 1 <= sizeLine; decide, fun a4 m6 => ?_⟩
      have w5 := b5.wo
      have X5 := X1.same w5
      refine hN _ _ ⟨a4, (b1.trans b5).trans (But.of (Same.new m6)), st5.same (Same.new m6), (But.of (l := l) (Same.new m6)).wo _ _ (w5 _ _ hq), fun lt8 => ?_, rfl⟩
      refine BSt.mk0 (b1.trans b5) st5 m6 X5 (w5 _ _ hq) ⟨a3, _, _, rfl, nw_wo1 n1 _ _ ha3, .inl ?_⟩
      have e8 : cutV (insAt yh kk v) none (some 8) = insAt yh kk v := by
        rw [show (some (8 : Int)) = some ((8 : Nat) : Int) from rfl, cutV_take, List.take_of_length_le (by rw [insAt_len]; omega)]
      rw [e8] at ha2
      exact bw_hand (nw_wo1 n1 _ _ (s5 _ _ ha2)) X5.th W.hok (bv.same (((b3.nw n1).trans s4).trans (s5.trans (nw_wo1 n1))))
    rintro _ H2 ⟨a0, b2, st2, hq2, small, rfl⟩
    have X2 := X0.same b2.wo
    refine seqG (fun σ H3 => ∃ a : Addr, BSt K H l lh lt q a yh yt hs ts h 1 H3 /\ σ = [some (.ref l), some (.ref lh), some (.ref lt), some (.ref q), some (.ref a), none, none]) ?c2 ?c1
    case c1 =>
      intro N hN
      have n2 := st2.has
      refine ⟨_, rfl, lh, _, rfl, .inl (.of (wo_same _ _ X2.h)), rfl, _, rfl, ?_⟩
      refine ite2 (fun c => ?_) (fun c => ?_)
      · have hl8 : hs.length = 8 := by
          have c : V.int (yh.length : Int) = V.int 8 := by simpa using c
          injection c with c
          omega
        refine ⟨_, rfl, _, rfl, _, rfl, lh, _, rfl, .of (wo_same _ _ X2.h), fun a1 m3 => ?_⟩
        apply newG n2 (But.refl l H2) st2 m3
        intro H3 e3 s3 ha1 st3 b3
        rw [e3]
        clear e3
        obtain ⟨h', q', hm', hat', hq'⟩ := pick (X2.th.same b3.wo) (r := 0) (by decide) (by omega)
        refine ⟨_, rfl, _, rfl, lh, _, _, _, rfl, rfl, .of (wo_same _ _ (b3.wo _ _ X2.h)), hat', l, q', h', rfl, W.hok h' hm', wo_same _ _ hq', st3, fun v H4 b4 st4 bv => ?_⟩
        have bv := bv.same (nw_sub b3 st3)
        have ha1 := b4.nw n2 _ _ ha1
        have e7 : cutV yh none (some 7) = yh.take 7 := cutV_take yh 7
        rw [e7] at ha1
        refine ⟨l, a1, v, _, rfl, st4, nw_same _ _ ha1, wo_ne (nw_wo1 n2 _ _ ha1), by rw [List.length_take]; omega, fun kk a2 H5 b5 st5 ha2 => ?_⟩
        have bb := (b3.trans b4).trans b5
        have ha2 := nw_sub (b3.trans b4) st4 _ _ ha2
        refine ⟨by show 0 <= sizeLine; decide, fun a3 m6 => ?_⟩
        apply newG n2 bb st5 m6
        intro H6 e6 s6 ha3 st6 b6
        rw [e6]
        clear e6
        refine ⟨len2, fun a4 m7 => ?_⟩
        apply newG n2 b6 st6 m7
        intro H7 e7 s7 ha4 st7 b7
        rw [e7]
        clear e7
        refine ⟨by show 1 <= sizeLine; decide, fun a5 m8 => ?_⟩
        have w7 := b7.wo
        have X7 := X2.same w7
        refine hN _ _ ⟨a5, BSt.mk0 (b2.trans b7) st7 m8 X7 (w7 _ _ hq2) ⟨a4, _, _, rfl, nw_wo1 n2 _ _ ha4, .inl ?_⟩, rfl⟩
        refine bw_hand (gs := hs.take 7) (nw_wo1 n2 _ _ (s7 _ _ (s6 _ _ ha2))) ?_ (fun x hx => W.hok x (List.mem_of_mem_take hx)) (bv.same (((b5.nw n2).trans s6).trans (s7.trans (nw_wo1 n2))))
        rw [List.map_take]
        exact paired_take 7 X7.th
      · refine hN _ _ ⟨a0, small ?_, rfl⟩
        have c : ¬ V.int (yh.length : Int) = V.int 8 := by simpa using c
        rcases Nat.lt_or_ge hs.length 8 with z | z
        · exact z
        · exact absurd (show V.int (yh.length : Int) = V.int 8 by rw [lyh, show hs.length = 8 by omega]; rfl) c
    rintro _ H3 ⟨a, B3, rfl⟩
    have e2l : ∀ {H1 H2 : Hp}, stt H1 l -> H1 a ≠ none -> Same (nw H1 H2) (wo a (wo l H2)) := fun st na => nw_wo na st.has
    refine seqG (fun σ H4 => BSt K H l lh lt q a yh yt hs ts h 2 H4 /\ σ = [some (.ref l), some (.ref lh), some (.ref lt), some (.ref q), some (.ref a), none, none]) ?d2 ?d1
    case d1 =>
      intro N hN
      obtain ⟨vs, hav, lv, okv⟩ := id B3.vs
      have n3 := B3.st.has
      have hq3 := wo_same _ _ (wo_same _ _ B3.q)
      refine ⟨_, rfl, .inl ⟨rfl, _, .of hav⟩, _, rfl, _, rfl, _, rfl, q, _, _, _, rfl, rfl, .of hq3, rfl, _, rfl, q, _, _, _, rfl, rfl, .of hq3, rfl, _, _, rfl, rfl, show (0 : Int) < 1000 by decide, _, _, rfl, rfl, len2, fun a1 m4 => ?_⟩
      apply newG n3 (But.refl l H3) B3.st m4
      intro H4 e4 s4 ha1 st4 b4
      rw [e4]
      clear e4
      refine ⟨l, lh, _, yh, rfl, st4, b4 _ _ (wo_same _ _ (wo_same _ _ B3.X.h)) lhl, lhl, by omega, fun kk a2 H5 b5 st5 ha2 => ⟨_, rfl, len2, fun a3 m6 => ?_⟩⟩
      have ha2 := nw_sub b4 st4 _ _ ha2
      apply newG n3 (b4.trans b5) st5 m6
      intro H6 e6 s6 ha3 st6 b6
      rw [e6]
      clear e6
      have B6 := B3.go b6 st6
      have w6 := e2l (H2 := H6) B3.st B3.has
      refine ⟨a, vs, _, rfl, rfl, b6 _ _ hav B3.ne, by omega, hN _ _ ⟨B6.app (b6 _ _ hav B3.ne) ⟨a3, _, _, rfl, w6 _ _ ha3, .inl ?_⟩, rfl⟩⟩
      exact bw_twice B6.X W.hok hm (by omega) (by omega) (w6 _ _ (s6 _ _ (b5.nw n3 _ _ ha1))) (w6 _ _ (s6 _ _ ha2))
    rintro _ H4 ⟨B4, rfl⟩
    refine seqG (fun σ H5 => BSt K H l lh lt q a yh yt hs ts h 3 H5 /\ σ = [some (.ref l), some (.ref lh), some (.ref lt), some (.ref q), some (.ref a), none, none]) ?e2 ?e1
    case e1 =>
      intro N hN
      obtain ⟨vs, hav, lv, okv⟩ := id B4.vs
      have n4 := B4.st.has
      have G4 : Same (wo a (wo l H4)) H4 := fun b o e => wo_same _ _ (wo_same _ _ e)
      refine ⟨_, rfl, .inl ⟨rfl, _, .of hav⟩, _, rfl, _, rfl, _, rfl, _, rfl, _, rfl, l, lh, yh, hs, rfl, B4.st, G4 _ _ B4.X.h, B4.X.th.same G4, W.hok, h1, h8, fun v H5 b5 st5 bv => ?_⟩
      have B5 := B4.go b5 st5
      refine ⟨l, lt, v, yt, rfl, st5, b5 _ _ (G4 _ _ B4.X.t) ltl, ltl, by omega, fun kk a2 H6 b6 st6 ha2 => ⟨len2, fun a3 m7 => ?_⟩⟩
      have ha2 := nw_sub b5 st5 _ _ ha2
      apply newG n4 (b5.trans b6) st6 m7
      intro H7 e7 s7 ha3 st7 b7
      rw [e7]
      clear e7
      have B7 := B4.go b7 st7
      have w7 := e2l (H2 := H7) B4.st B4.has
      refine ⟨a, vs, _, rfl, rfl, b7 _ _ hav B4.ne, by omega, hN _ _ ⟨B7.app (b7 _ _ hav B4.ne) ⟨a3, _, _, rfl, w7 _ _ ha3, ?_⟩, rfl⟩⟩
      exact bw_tie B7.X W (w7 _ _ (s7 _ _ ha2)) (bv.same (((b6.nw n4).trans s7).trans w7)) (fun t e => by cases e)
    rintro _ H5 ⟨B5, rfl⟩
    refine seqG (fun σ H6 => ∃ v5, BSt K H l lh lt q a yh yt hs ts h 4 H6 /\ σ = [some (.ref l), some (.ref lh), some (.ref lt), some (.ref q), some (.ref a), v5, none]) ?f2 ?f1
    case f1 =>
      intro N hN
      have n5 := B5.st.has
      have G5 : Same (wo a (wo l H5)) H5 := fun b o e => wo_same _ _ (wo_same _ _ e)
      refine ⟨_, rfl, by show 0 <= sizeLine; decide, fun a1 m6 => ?_⟩
      apply newG n5 (But.refl l H5) B5.st m6
      intro H6 e6 s6 ha1 st6 b6
      rw [e6]
      clear e6
      have B6 := B5.go b6 st6
      have G6 : Same (wo a (wo l H6)) H6 := fun b o e => wo_same _ _ (wo_same _ _ e)
      refine ⟨ts, [], ⟨lt, yt, rfl, .of (G6 _ _ B6.X.t), reps_of (B6.X.tt.same G6)⟩, ⟨a1, [], rfl, .of (nw_same _ _ ha1), .nil⟩, _, rfl, ?_⟩
      refine ite2 (fun c => ?_) (fun c => ?_)
      · have c : ts ≠ [] := by simpa using c
        have tl : 1 <= ts.length := by
          cases ts with
          | nil => exact absurd rfl c
          | cons x xs => exact Nat.succ_le_succ (Nat.zero_le _)
        refine ⟨_, rfl, _, rfl, _, rfl, lt, _, rfl, .inl (.of (G6 _ _ B6.X.t)), l, _, rfl, by omega, by omega, st6, fun r H7 r0 r1 b7 st7 => ?_⟩
        have B7 := B6.go b7 st7
        have G7 : Same (wo a (wo l H7)) H7 := fun b o e => wo_same _ _ (wo_same _ _ e)
        obtain ⟨t, u, hu1, hat, htu⟩ := pick B7.X.tt r0 r1
        refine ⟨lt, _, _, _, rfl, rfl, .of (G7 _ _ B7.X.t), hat, ?_⟩
        obtain ⟨vs, hav, lv, okv⟩ := id B7.vs
        have n7 := B7.st.has
        have htu : wo a (wo l H7) u = some (.tup [.str t.1, .str t.2]) := htu
        refine ⟨_, rfl, .inl ⟨rfl, _, .of hav⟩, _, rfl, _, rfl, _, rfl, _, rfl, _, rfl, _, rfl, rfl, u, _, _, rfl, .of (G7 _ _ htu), fun a2 m8 => ?_⟩
        apply newG n7 (But.refl l H7) B7.st m8
        intro H8 e8 s8 ha2 st8 b8
        rw [e8]
        clear e8
        refine ⟨len2, fun a3 m9 => ?_⟩
        apply newG n7 b8 st8 m9
        intro H9 e9 s9 ha3 st9 b9
        rw [e9]
        clear e9
        refine ⟨_, rfl, l, 2, rfl, by decide, by decide, st9, fun r' H10 z0 z1 b10 st10 => ?_⟩
        have bb := b9.trans b10
        have B10 := B7.go bb st10
        have w10 := e2l (H2 := H10) B7.st B7.has
        have ha2 := w10 _ _ (b10.nw n7 _ _ (s9 _ _ ha2))
        have ha3 := nw_same _ _ (b10.nw n7 _ _ ha3)
        have tg := W.tok t hu1
        obtain ⟨v, hv, o, pv, ko⟩ := hitL (p := fun v => ∃ o : Str × Str, PairV K (wo a (wo l H10)) v (some o) /\ kO o = kO t) (xs := [.ref u, .ref a2]) (n := 2) rfl z0 z1 (fun v hv => by
          simp only [List.mem_cons, List.not_mem_nil, or_false] at hv
          rcases hv with rfl | rfl
          · exact ⟨t, ⟨tg, u, rfl, bb.wo.wo2 _ _ htu⟩, rfl⟩
          · exact ⟨(t.2, t.1), ⟨⟨tg.2.1, tg.1, tg.2.2.symm⟩, a2, rfl, ha2⟩, by show kT (ord2 t.2 t.1) = kT (ord2 t.1 t.2); rw [ord2_comm]⟩)
        refine ⟨a3, _, _, v, rfl, rfl, .of ha3, hv, ?_⟩
        have G10 : Same (wo a (wo l H10)) H10 := fun b o e => wo_same _ _ (wo_same _ _ e)
        refine ⟨l, lt, v, yt, rfl, st10, G10 _ _ B10.X.t, ltl, by omega, fun kk a4 H11 b11 st11 ha4 => ⟨len2, fun a5 m12 => ?_⟩⟩
        have ha4 := nw_sub bb st10 _ _ ha4
        apply newG n7 (bb.trans b11) st11 m12
        intro H12 e12 s12 ha5 st12 b12
        rw [e12]
        have q12 : Same H11 H12 := by rw [<- e12]; exact Same.new m12
        clear e12
        have B12 := B7.go b12 st12
        have w12 := e2l (H2 := H12) B7.st B7.has
        have s1012 : Same (wo a (wo l H10)) (wo a (wo l H12)) := b11.wo.wo2.trans (But.of q12).wo.wo2
        refine ⟨a, vs, _, rfl, rfl, b12 _ _ hav B7.ne, by omega, hN _ _ ⟨_, B12.app (b12 _ _ hav B7.ne) ⟨a5, _, _, rfl, w12 _ _ ha5, ?_⟩, rfl⟩⟩
        exact bw_tie B12.X W (w12 _ _ (s12 _ _ ha4)) (pv.same s1012) (fun t' e => by cases e; rw [ko]; exact List.mem_map.mpr ⟨t, hu1, rfl⟩)
      · obtain ⟨vs, hav, lv, okv⟩ := id B6.vs
        exact hN _ _ ⟨_, ⟨B6.b, B6.st, B6.na, B6.ne, B6.X, B6.q, vs, hav, by omega, okv⟩, rfl⟩
    rintro _ H6 ⟨v5, B6, rfl⟩
    refine seqG (fun σ H7 => ∃ (ln : Addr) (us : List V), BSt K H l lh lt q a yh yt hs ts h 4 H7 /\ wo a (wo l H7) ln = some (.lst us) /\ us.length = 9 /\ σ = [some (.ref l), some (.ref lh), some (.ref lt), some (.ref q), some (.ref a), v5, some (.ref ln)]) ?g2 ?g1
    case g1 =>
      intro N hN
      refine ⟨_, rfl, by decide, by decide, fun D hD => ?_⟩
      refine comp_it (own := 1) (fv := []) rfl gok1 9 (fun i out H' => Same H6 H' /\ H' D = some (.lst out) /\ out.length = i) ⟨Same.new hD, upd_same, rfl⟩ (fun out H7 ⟨s7, hD7, le⟩ => ⟨Nat.le_refl _, ?_⟩) (fun i out H7 hi ⟨s7, hD7, le⟩ => ⟨hi, fun x H8 ⟨e8, ex⟩ => ?_⟩)
      · have Da : D ≠ a := fun z => B6.has (z ▸ hD)
        exact hN _ _ ⟨D, out, B6.go (But.of s7) (B6.st.same s7), wo_at (wo_at hD7 (B6.st.ne hD)) Da, le, rfl⟩
      · subst e8
        refine ⟨_, rfl, rfl, fun Nx hNx => yesT ?_⟩
        have c : ∃ c, atI ("abcdefghi" : Str).cps.toList (i : Int) = some c := by
          rw [show ("abcdefghi" : Str).cps.toList = [97, 98, 99, 100, 101, 102, 103, 104, 105] by decide +kernel, atI_nat (by omega) (by simp; omega), List.getElem?_eq_getElem (by simpa using hi)]
          exact ⟨_, rfl⟩
        obtain ⟨c, hc⟩ := c
        subst ex
        refine ⟨_, rfl, _, _, c, rfl, rfl, by decide +kernel, by rw [Int.zero_add]; exact hc, len2, fun p hp => ?_⟩
        have sp := Same.new (o := .tup [.str ⟨#[c]⟩, .int 1]) hp
        refine ⟨out, sp _ _ hD7, by omega, hNx (out ++ [.ref p]) _ ⟨same_but (s7.trans sp) hD, upd_same, by rw [List.length_append, le]; rfl⟩⟩
    rintro _ H7 ⟨ln, us, B7, hln, lus, rfl⟩
    refine seqG (fun σ H8 => ∃ (c : Addr) (vs : List V), BSt K H l lh lt q a yh yt hs ts h 4 H8 /\ wo a (wo l H8) c = some (.lst vs) /\ vs.length <= 10 /\ (∀ p ∈ vs, BP K (wo a (wo l H8)) p) /\ σ = [some (.ref l), some (.ref lh), some (.ref lt), some (.ref q), some (.ref c), v5, some (.ref ln)]) ?h2 ?h1
    case h1 =>
      intro N hN
      obtain ⟨vs, hav, lv, okv⟩ := id B7.vs
      have n7 := B7.st.has
      refine ⟨_, rfl, by show 0 <= sizeLine; decide, fun c1 m1 => ?_⟩
      apply newG n7 (But.refl l H7) B7.st m1
      intro G1 e1 s1 k1 st1 d1
      rw [e1]
      clear e1
      refine ⟨by show 0 <= sizeLine; decide, fun c2 m2 => ?_⟩
      apply newG n7 d1 st1 m2
      intro G2 e2 s2 k2 st2 d2
      rw [e2]
      clear e2
      refine ⟨len2, fun c3 m3 => ?_⟩
      apply newG n7 d2 st2 m3
      intro G3 e3 s3 k3 st3 d3
      rw [e3]
      clear e3
      refine ⟨_, rfl, by show 0 <= sizeLine; decide, fun c4 m4 => ?_⟩
      apply newG n7 d3 st3 m4
      intro G4 e4 s4 k4 st4 d4
      rw [e4]
      clear e4
      refine ⟨len2, fun c5 m5 => ?_⟩
      apply newG n7 d4 st4 m5
      intro G5 e5 s5 k5 st5 d5
      rw [e5]
      clear e5
      refine ⟨_, rfl, lh, yh, rfl, .inl ⟨.of (wo_same _ _ (wo_same _ _ (B7.go d5 st5).X.h)), fun c6 m6 => ?_⟩⟩
      apply newG n7 d5 st5 m6
      intro G6 e6 s6 k6 st6 d6
      rw [e6]
      clear e6
      refine ⟨_, rfl, len2, fun c7 m7 => ?_⟩
      apply newG n7 d6 st6 m7
      intro G7 e7 s7 k7 st7 d7
      rw [e7]
      clear e7
      refine ⟨_, rfl, _, rfl, lt, yt, rfl, .inl ⟨.of (wo_same _ _ (wo_same _ _ (B7.go d7 st7).X.t)), fun c8 m8 => ?_⟩⟩
      apply newG n7 d7 st7 m8
      intro G8 e8 s8 k8 st8 d8
      rw [e8]
      clear e8
      refine ⟨len2, fun c9 m9 => ?_⟩
      apply newG n7 d8 st8 m9
      intro G9 e9 s9 k9 st9 d9
      rw [e9]
      clear e9
      refine ⟨_, rfl, len2, fun c10 m10 => ?_⟩
      apply newG n7 d9 st9 m10
      intro G10 e10 s10 k10 st10 d10
      rw [e10]
      clear e10
      refine ⟨_, rfl, len2, fun c11 m11 => ?_⟩
      apply newG n7 d10 st10 m11
      intro G11 e11 s11 k11 st11 d11
      rw [e11]
      clear e11
      refine ⟨by show 6 <= sizeLine; decide, fun c12 m12 => ?_⟩
      apply newG n7 d11 st11 m12
      intro G12 e12 s12 k12 st12 d12
      rw [e12]
      clear e12
      have B12 := B7.go d12 st12
      refine ⟨a, c12, _, _, rfl, rfl, d12 _ _ hav B7.ne, nw_same _ _ k12, by show vs.length + 6 <= sizeLine; omega, fun c13 m13 => ?_⟩
      apply newG n7 d12 st12 m13
      intro G13 e13 s13 k13 st13 d13
      rw [e13]
      clear e13
      have B13 := B7.go d13 st13
      have w := e2l (H2 := G13) B7.st B7.has
      have t12 : Same (nw H7 G12) (wo a (wo l G13)) := s13.trans w
      have t11 : Same (nw H7 G11) (wo a (wo l G13)) := s12.trans t12
      have t10 : Same (nw H7 G10) (wo a (wo l G13)) := s11.trans t11
      have t9 : Same (nw H7 G9) (wo a (wo l G13)) := s10.trans t10
      have t8 : Same (nw H7 G8) (wo a (wo l G13)) := s9.trans t9
      have t7 : Same (nw H7 G7) (wo a (wo l G13)) := s8.trans t8
      have t6 : Same (nw H7 G6) (wo a (wo l G13)) := s7.trans t7
      have t5 : Same (nw H7 G5) (wo a (wo l G13)) := s6.trans t6
      have t4 : Same (nw H7 G4) (wo a (wo l G13)) := s5.trans t5
      have t3 : Same (nw H7 G3) (wo a (wo l G13)) := s4.trans t4
      have t2 : Same (nw H7 G2) (wo a (wo l G13)) := s3.trans t3
      have t1 : Same (nw H7 G1) (wo a (wo l G13)) := s2.trans t2
      have o7 : Same (wo a (wo l H7)) (wo a (wo l G13)) := d13.wo.wo2
      refine hN _ _ ⟨c13, _, B13, w _ _ k13, by rw [List.length_append]; show vs.length + 6 <= 10; omega, fun p hp => ?_, rfl⟩
      rcases List.mem_append.mp hp with hp | hp
      · exact (okv p hp).same o7
      simp only [List.mem_cons, List.not_mem_nil, or_false] at hp
      rcases hp with rfl | rfl | rfl | rfl | rfl | rfl
      · exact ⟨c3, _, _, rfl, t3 _ _ k3, .inl (.inr ⟨c1, [], rfl, t1 _ _ k1, .inl rfl⟩)⟩
      · exact ⟨c5, _, _, rfl, t5 _ _ k5, .inl (.inr ⟨ln, us, rfl, o7 _ _ hln, .inr (.inl (by omega))⟩)⟩
      · exact ⟨c7, _, _, rfl, t7 _ _ k7, .inl (.inl ⟨_, .tup (t6 _ _ k6), rfl⟩)⟩
      · exact ⟨c9, _, _, rfl, t9 _ _ k9, bw_goodH B13.X W (.inl ⟨_, .tup (t8 _ _ k8), rfl⟩)⟩
      · exact ⟨c10, _, _, rfl, t10 _ _ k10, .inl (.inl ⟨_, .non, rfl⟩)⟩
      · exact ⟨c11, _, _, rfl, t11 _ _ k11, bw_goodH B13.X W (.inl ⟨_, .non, rfl⟩)⟩
    rintro _ H8 ⟨c, vs, B8, hc, lv, okv, rfl⟩
    have n8 := B8.st.has
    have G8 : Same (wo a (wo l H8)) H8 := fun b o e => wo_same _ _ (wo_same _ _ e)
    have pz : PairsAt K H8 yh (hs.map fun h => (Sum.inr h.1, V.int h.2)) := by
      have := B8.X.th.same G8
      have gen : ∀ (hs : List (Str × Int)) (ys : List V), TupsAt K H8 ys (hs.map kH) -> PairsAt K H8 ys (hs.map fun h => (Sum.inr h.1, V.int h.2)) := fun hs => by
        induction hs with
        | nil => intro ys t; cases t; exact .nil
        | cons h hs ih =>
          intro ys t
          cases t with
          | cons e t => exact .cons e (ih _ t)
      exact gen _ _ this
    refine ⟨_, rfl, _, rfl, lh, yh, _, rfl, G8 _ _ B8.X.h, pz, by rw [List.length_map]; omega, fun c1 m1 => ?_⟩
    apply newG n8 (But.refl l H8) B8.st m1
    intro G1 e1 s1 k1 st1 d1
    rw [e1]
    clear e1
    refine ⟨_, rfl, len2, fun c2 m2 => ?_⟩
    apply newG n8 d1 st1 m2
    intro G2 e2 s2 k2 st2 d2
    rw [e2]
    clear e2
    refine ⟨_, rfl, len2, fun c3 m3 => ?_⟩
    apply newG n8 d2 st2 m3
    intro G3 e3 s3 k3 st3 d3
    rw [e3]
    clear e3
    refine ⟨_, rfl, _, rfl, l, lh, .non, yh, rfl, st3, d3 _ _ (G8 _ _ B8.X.h) lhl, lhl, by omega, fun i4 c4 G4 b4 st4 k4 => ?_⟩
    have k4 := nw_sub d3 st3 _ _ k4
    have d4 := d3.trans b4
    refine ⟨_, rfl, _, rfl, l, lt, .non, yt, rfl, st4, d4 _ _ (G8 _ _ B8.X.t) ltl, ltl, by omega, fun i5 c5 G5 b5 st5 k5 => ?_⟩
    have k5 := nw_sub d4 st4 _ _ k5
    have d5 := d4.trans b5
    refine ⟨len2, fun c6 m6 => ?_⟩
    apply newG n8 d5 st5 m6
    intro G6 e6 s6 k6 st6 d6
    rw [e6]
    clear e6
    refine ⟨by show 3 <= sizeLine; decide, fun c7 m7 => ?_⟩
    apply newG n8 d6 st6 m7
    intro G7 e7 s7 k7 st7 d7
    rw [e7]
    clear e7
    refine ⟨c, c7, _, _, rfl, rfl, wo_same _ _ (wo_same _ _ (d7.wo.wo2 _ _ hc)), nw_same _ _ k7, by show vs.length + 3 <= sizeLine; omega, fun c8 m8 => ?_⟩
    apply newG n8 d7 st7 m8
    intro G9 e9 s9 k9 st9 d9
    rw [e9]
    clear e9
    have B9 := B8.go d9 st9
    have w := e2l (H2 := G9) B8.st B8.has
    have t7 : Same (nw H8 G7) (wo a (wo l G9)) := s9.trans w
    have t6 : Same (nw H8 G6) (wo a (wo l G9)) := s7.trans t7
    have t5 : Same (nw H8 G5) (wo a (wo l G9)) := s6.trans t6
    have t4 : Same (nw H8 G4) (wo a (wo l G9)) := (b5.nw n8).trans t5
    have t3 : Same (nw H8 G3) (wo a (wo l G9)) := (b4.nw n8).trans t4
    have t2 : Same (nw H8 G2) (wo a (wo l G9)) := s3.trans t3
    have t1 : Same (nw H8 G1) (wo a (wo l G9)) := s2.trans t2
    have o8 : Same (wo a (wo l H8)) (wo a (wo l G9)) := d9.wo.wo2
    have out : Same (wo a (wo l G9)) G9 := fun b o e => wo_same _ _ (wo_same _ _ e)
    refine k c8 _ G9 B9.b st9 (B8.b.free B8.st (nw_of k9).1) (nw_same _ _ k9) (by rw [List.length_append]; show vs.length + 3 <= 20; omega) (fun p hp => ?_)
    rcases List.mem_append.mp hp with hp | hp
    · exact ((okv p hp).same o8).same out
    refine BP.same ?_ out
    simp only [List.mem_cons, List.not_mem_nil, or_false] at hp
    rcases hp with rfl | rfl | rfl
    · exact ⟨c2, _, _, rfl, t2 _ _ k2, .inl (.inl ⟨_, .dK (t1 _ _ k1), rfl⟩)⟩
    · exact ⟨c3, _, _, rfl, t3 _ _ k3, bw_goodH B9.X W (.inl ⟨_, .str _, rfl⟩)⟩
    · exact ⟨c6, _, _, rfl, t6 _ _ k6, .inl (bw_hand (t4 _ _ k4) B9.X.th W.hok (.inl ⟨_, .non, rfl⟩))⟩
end
end Ev
set_option Elab.async false
set_option linter.all false
set_option maxRecDepth 100000
namespace L2
open PySem PySem.Spec PyProof.Rows
section
variable {X : Cx}
theorem cls_vals : ∀ {cs : List V} {cvs us : List Value}, Vals cs us -> cs.map clsV = cvs.map some -> us = cvs
  | _, [], _, .nil, _ => rfl
  | _, _ :: _, _, .nil, h => by cases h
  | _, [], _, .cons _ _, h => by cases h
  | _, c :: cvs, _, .cons r rs, h => by
    obtain ⟨h1, h2⟩ := List.cons.inj h
    rw [clsV_rel r h1, cls_vals rs h2]
end
section
variable {X : Cx} {k : Nat} {ps : List Str} {x : Str} {p pos : Pos} {e : Expr} {es : List Expr} {tn : TE} {t : TA}
end
end L2
set_option Elab.async false
set_option linter.all false
set_option maxRecDepth 100000
namespace L2
open PySem PySem.Spec PyProof.Rows
section
variable {X : Cx}
def rIsiQT (K : PySem.W.Frag) : List V -> Hp -> VK -> Prop := fun xs H Q => ∃ (a tp C : Addr) (dd : Option Addr) (cs : List V) (cvs : List Value) (b : Bool), xs = [.ref a, .ref tp] /\ H tp = some (.tup cs) /\ cs.map clsV = cvs.map some /\ H a = some (exq a C dd) /\ ExcK K C /\ PySem.W.kitAny K (.ref C) cvs = some b /\ Q (.bl b) H
theorem call_isiQT : CallR X (.builtin "isinstance") (rIsiQT X.K) := by
  intro pins s σ H xs us Q I r h
  obtain ⟨a, tp, C, dd, cs, cvs, b, rfl, ht, hc, ha, k, e, q⟩ := h
  obtain ⟨u, w', rfl, ru, rw'⟩ := vals2 r
  cases (show u = Value.ref a from ru)
  cases (show w' = Value.ref tp from rw')
  obtain ⟨its, rv, ⟨o, ho, hcl, n, hd⟩, _⟩ := I.tuple (.of ht)
  cases cls_vals rv hc
  obtain ⟨oc, od, dt, sl⟩ := o
  cases (show oc = _ from hcl)
  cases (show dt = _ from hd)
  obtain ⟨o, vs, h1, h2, _⟩ := (I.hok a _ ha).1
  exact PySem.W.kia_tup (kitx_exc k) I.kIn ⟨o, h1, h2⟩ ho e (fun z => nomatch z) fun tk => ⟨.bl b, H, I.tok tk, rfl, q⟩
end
open PySem.W in
def flatT : List (Pos × Addr) -> List Value
  | [] => []
  | (p, c) :: es => rawInt p.line :: rawInt p.col :: .ref c :: flatT es
def TabOk (H : Hp) (T : Addr) (qual : Str) : Prop := ∃ es : List (Pos × Addr), H T = some (.tbl (flatT es).toArray) /\ ∀ e ∈ es, H e.2 = some (codeH e.2 qual)
theorem TabOk.same {H H' : Hp} {T : Addr} {qual : Str} (s : Same H H') (h : TabOk H T qual) : TabOk H' T qual := by
  obtain ⟨es, a, b⟩ := h
  exact ⟨es, s _ _ a, fun e he => s _ _ (b e he)⟩
theorem flatT_ok : ∀ es : List (Pos × Addr), TriplesOk (flatT es)
  | [] => trivial
  | (p, c) :: es => by
    have := flatT_ok es
    simp [flatT, TriplesOk, rawInt, this]
theorem flatT_app : ∀ (es : List (Pos × Addr)) (p : Pos) (c : Addr), flatT (es ++ [(p, c)]) = flatT es ++ [rawInt p.line, rawInt p.col, .ref c]
  | [], p, c => rfl
  | (p', c') :: es, p, c => by
    show rawInt p'.line :: rawInt p'.col :: .ref c' :: flatT (es ++ [(p, c)]) = _
    rw [flatT_app es p c]
    rfl
theorem flatT_among (pos : Pos) : ∀ es : List (Pos × Addr), codeAmong pos (flatT es) = none ∨ ∃ e ∈ es, codeAmong pos (flatT es) = some (.ref e.2)
  | [] => .inl rfl
  | (p, c) :: es => by
    by_cases h : codeAmong pos (flatT ((p, c) :: es)) = some (.ref c)
    · exact .inr ⟨(p, c), List.mem_cons_self, h⟩
    · have e : codeAmong pos (flatT ((p, c) :: es)) = codeAmong pos (flatT es) := by
        show codeAmong pos (rawInt p.line :: rawInt p.col :: .ref c :: flatT es) = _
        have h : ¬ codeAmong pos (rawInt p.line :: rawInt p.col :: .ref c :: flatT es) = some (.ref c) := h
        simp only [codeAmong, rawInt] at h ⊢
        split at h
        · exact absurd rfl h
        · rename_i q
          rw [if_neg q]
      rcases flatT_among pos es with q | ⟨x, hx, q⟩
      · exact .inl (e.trans q)
      · exact .inr ⟨x, List.mem_cons_of_mem _ hx, e.trans q⟩
end L2
set_option Elab.async false
set_option linter.all false
set_option maxRecDepth 100000
namespace Ev
open PySem L2
theorem lam_mk {H : Hp} {T : Addr} {qual q' : Str} {a a' : Arguments} {b b' : Expr} {sc sc' : Scope} {ps : Pos} {cl : List (Str × Addr)} {σ : St} {Q : VK} (h : TabOk H T qual) (e1 : q' = qual) (e2 : a' = a) (e3 : b' = b) (e4 : sc' = sc) (q : ∀ f c' H1, But T H H1 -> TabOk H1 T qual -> H1 f = some (lamH f qual a b sc cl c') -> H1 c' = some (codeH c' qual) -> Q (.ref f) H1) : tLam T q' a' b' sc' ps cl σ H Q := by
  subst e1 e2 e3 e4
  obtain ⟨es, h, hes⟩ := h
  refine ⟨_, h, flatT_ok es, ?_⟩
  rcases flatT_among ps es with e | ⟨e, he, q1⟩
  · refine .inl ⟨e, fun c' f n1 n2 n3 => ?_⟩
    have nT1 : T ≠ c' := ne_of_none h n1
    have nT2 : T ≠ f := ne_of_none h n2
    have B : But T H (upd (upd (upd H T (.tbl ((flatT es).toArray ++ #[rawInt ps.line, rawInt ps.col, .ref c']))) c' (codeH c' q')) f (lamH f q' a' b' sc' cl c')) := fun b o e n => by
      rw [upd_ne (ne_of_none e n2), upd_ne (ne_of_none e n1), upd_ne n]
      exact e
    refine q f c' _ B ⟨es ++ [(ps, c')], ?_, fun x hx => ?_⟩ upd_same ?_
    · rw [upd_ne nT2, upd_ne nT1, upd_same, flatT_app]
      simp
    · rcases List.mem_append.mp hx with hx | hx
      · exact B _ _ (hes x hx) (fun z => by have := hes x hx; rw [z, h] at this; cases this)
      · rw [List.mem_singleton.mp hx]
        show upd _ f _ c' = _
        rw [upd_ne n3, upd_same]
    · rw [upd_ne n3, upd_same]
  · refine .inr ⟨e.2, q1, fun f hf => ?_⟩
    have s := Same.new (o := lamH f q' a' b' sc' cl e.2) hf
    exact q f e.2 _ (But.of s) ⟨es, s _ _ h, fun x hx => s _ _ (hes x hx)⟩ upd_same (s _ _ (hes e he))
def exkIn (K : PySem.W.Frag) (C : Addr) : Bool := (PySem.W.clsIn K C).isSome && PySem.W.findIn K (.ref C) "__getattribute__" == some (some (.builtin "BaseException.__getattribute__")) && PySem.W.findIn K (.ref C) "__getattr__" == some none && PySem.W.findIn K (.ref C) "__class__" == some (some (.builtin "object.__class__")) &&
  PySem.W.specialIn K (.builtin "object.__class__") "__get__" == some (some (.builtin "getset_descriptor.__get__")) && PySem.W.takesIn K (.builtin "object.__class__") == some true && PySem.W.mroIn K C (.type "object") == some true && PySem.W.mroIn K C (.type "BaseException") == some true
theorem exk_of {K : PySem.W.Frag} {C : Addr} (h : exkIn K C = true) : ExcK K C := by
  simp only [exkIn, Bool.and_eq_true, beq_iff_eq] at h
  obtain ⟨⟨⟨⟨⟨⟨⟨a, b⟩, c⟩, d⟩, e⟩, f⟩, g⟩, i⟩ := h
  exact ⟨a, b, c, d, e, f, g, i⟩
def wrd1 (K : PySem.W.Frag) (CE CN CH : Addr) (c : Nat -> Addr) (C : Addr) (n h : Bool) : Bool := exkIn K C && PySem.W.exmOne K (.ref C) (.ref CE) == some true && PySem.W.kitOne K (.ref C) (.type "ValueError") == some true && PySem.W.kitOne K (.ref C) (.ref CN) == some n && PySem.W.kitOne K (.ref C) (.ref CH) == some h &&
  PySem.W.kitAny K (.ref C) ([c 0, c 1, c 2, c 3, c 4, c 5, c 6, c 7, c 8].map .ref) == some false && PySem.W.kitAny K (.ref C) ([c 9, c 10, c 11, c 12].map .ref) == some false
structure Wd (K : PySem.W.Frag) (mg : Str -> Option Value) (CE CN CH : Addr) (c : Nat -> Addr) : Prop where
  e : mg "EvenError" = some (.ref CE)
  n : Ref K mg "NoWeb" CN
  h : Ref K mg "NoHand" CH
  m0 : mg "NoFraction" = some (.ref (c 0))
  m1 : mg "NoGoods" = some (.ref (c 1))
  m2 : mg "NoMoment" = some (.ref (c 2))
  m3 : mg "NoMost" = some (.ref (c 3))
  m4 : mg "NoMove" = some (.ref (c 4))
  m5 : mg "NoPiece" = some (.ref (c 5))
  m6 : mg "NoRow" = some (.ref (c 6))
  m7 : mg "NoRule" = some (.ref (c 7))
  m8 : mg "NoStand" = some (.ref (c 8))
  m9 : mg "NotLetBy" = some (.ref (c 9))
  m10 : mg "NoText" = some (.ref (c 10))
  m11 : mg "NoWeight" = some (.ref (c 11))
  m12 : mg "NoYard" = some (.ref (c 12))
  wn : wrd1 K CE CN CH c CN true false = true
  wh : wrd1 K CE CN CH c CH false true = true
theorem wrd_of {K : PySem.W.Frag} {CE CN CH C : Addr} {c : Nat -> Addr} {n h : Bool} (q : wrd1 K CE CN CH c C n h = true) : ExcK K C /\ PySem.W.exmOne K (.ref C) (.ref CE) = some true /\ PySem.W.kitOne K (.ref C) (.type "ValueError") = some true /\ PySem.W.kitOne K (.ref C) (.ref CN) = some n /\ PySem.W.kitOne K (.ref C) (.ref CH) = some h /\
    PySem.W.kitAny K (.ref C) ([c 0, c 1, c 2, c 3, c 4, c 5, c 6, c 7, c 8].map .ref) = some false /\ PySem.W.kitAny K (.ref C) ([c 9, c 10, c 11, c 12].map .ref) = some false := by
  simp only [wrd1, Bool.and_eq_true, beq_iff_eq] at q
  obtain ⟨⟨⟨⟨⟨⟨a, b⟩, c⟩, d⟩, e⟩, f⟩, g⟩ := q
  exact ⟨exk_of a, b, c, d, e, f, g⟩
section
variable {P : Program} {w : World} {K : PySem.W.Frag} {mg : Str -> Option Value} {base : Heap} {CE CN CH : Addr} {c : Nat -> Addr}
theorem scWord : FnScope ["_law_ask", "_law_refusal", "e", "_law_others"] ["_law_ask"] (defScope sWord) := ⟨rfl, rfl, rfl, by decide +kernel, rfl, by decide +kernel, by decide +kernel⟩
abbrev SpL := List V -> List V -> Hp -> VK -> XK -> Prop
def MonoL (sp : SpL) : Prop := ∀ vs gs H Q Q' E E', sp vs gs H Q E -> (∀ v H, Q v H -> Q' v H) -> (∀ c d H, E c d H -> E' c d H) -> sp vs gs H Q' E'
def spWord (CN CH : Addr) (qual : Str) (a : Arguments) (b : Expr) (sc : Scope) (fvs : List Str) (sp : SpL) : Sp := fun vs H Q _ => ∃ (f c' : Addr) (cl : List (Str × Addr)) (cs : List (Addr × Obj)) (gs : List V), vs = [.ref f] /\ H f = some (lamH f qual a b sc cl c') /\ H c' = some (codeH c' qual) /\ Lent H cs /\ CellsOf fvs cl cs gs /\
  sp [] gs (unl cs H) (fun _ _ => False) (fun cls _ H2 => NoCs cs H2 -> ∃ (n h : Bool) (Cx : Addr), ((Cx = CN /\ n = true /\ h = false) ∨ (Cx = CH /\ n = false /\ h = true)) /\ cls = .ref Cx /\ ∀ H', Same (lend cs H2) H' -> Q (.str (if n then "web" else "hand")) H')
set_option maxHeartbeats 1600000 in
theorem ok_word {f : Addr} {qual : Str} {a : Arguments} {b : Expr} {sc : Scope} {fvs : List Str} {sp : SpL} {kk : Nat} {fd : FuncData} (F : Fun K "_law_word" "_law_word" sWord f fd) (B : Bi mg) (mV : mg "ValueError" = none) (R : Wd K mg CE CN CH c) (mo : MonoL sp) (cL : LamOk P w K mg base kk qual a b sc [] fvs sp) : FnOk P w K mg base CX0 (kk + 1) f fd ["_law_ask"] (spWord CN CH qual a b sc fvs sp) := by
  refine F.ok scWord (fun vs H Q E h => ?_) (fun cdv A outer s H vs Q E hr h => ?_)
  · obtain ⟨f, c', cl, cs, gs, rfl, _⟩ := h
    rfl
  · obtain ⟨fl, c', cl, cs, gs, rfl, hf, hc, L, Cs, h⟩ := h
    refine' ⟨_, ?r0, ?kk⟩
    case' r0 => refine' pss_cons ?s1 ?r1
    case' r1 => refine' pss_cons ?s2 ?r2
    case' r2 => refine' pss_cons ?s3 ?r3
    case' r3 => refine' pss_cons ?s4 ?r4
    case' r4 => refine' pss_cons ?s5 (pss_one ?s6)
    case s1 => exact ps_set (i := 1) scWord.nd rfl (Or.inl rfl) pe_non
    case' s2 => refine' ps_try2F (i := 2) (ok := fun Cx => Cx = CN ∨ Cx = CH) (tb := fun E => tDrop (tThunk qual a b sc fvs sp E (tVar 0))) (ts := tAsg (tVar 2) (gName 1)) scWord.nd rfl rfl rfl rfl (by rfl) R.e (fun Cx h => ?hx) (fun E W pn hp => ?hb) (fun a => ?hs)
    case hx =>
      rcases h with rfl | rfl
      · exact (wrd_of R.wn).2.1
      · exact (wrd_of R.wh).2.1
    case hb => exact pss_one (ps_expr (pe_thunk cL hr hp (pv 0)))
    case hs => exact pss_one (ps_set (i := 1) scWord.nd rfl (Or.inl rfl) (pv 2))
    case s3 => exact ps_if (pt_not (pt_val (pe_callB (callK (K := K) rIsiQ call_isiQ) (by rfl) B.isi PyProof.Rows.Boot.«isinstance» (pa_cons (pv 1) (pa_cons (pe_bltn (v := .ty "ValueError") (by rfl) mV PyProof.Rows.Boot.«ValueError» rfl) pa_nil))))) (pss_one (ps_ret pe_str)) pss_nil
    case' s4 => refine' ps_set (i := 3) scWord.nd rfl (Or.inl rfl) (pe_callB (callK (K := K) rIsiQT call_isiQT) (by rfl) B.isi PyProof.Rows.Boot.«isinstance» (pa_cons (pv 1) (pa_cons (pe_tup ?l0) pa_nil)))
    case' l0 => refine' pa_cons (pe_glob (v := .ref (c 0)) (by rfl) R.m0 rfl) ?l1
    case' l1 => refine' pa_cons (pe_glob (v := .ref (c 1)) (by rfl) R.m1 rfl) ?l2
    case' l2 => refine' pa_cons (pe_glob (v := .ref (c 2)) (by rfl) R.m2 rfl) ?l3
    case' l3 => refine' pa_cons (pe_glob (v := .ref (c 3)) (by rfl) R.m3 rfl) ?l4
    case' l4 => refine' pa_cons (pe_glob (v := .ref (c 4)) (by rfl) R.m4 rfl) ?l5
    case' l5 => refine' pa_cons (pe_glob (v := .ref (c 5)) (by rfl) R.m5 rfl) ?l6
    case' l6 => refine' pa_cons (pe_glob (v := .ref (c 6)) (by rfl) R.m6 rfl) ?l7
    case' l7 => refine' pa_cons (pe_glob (v := .ref (c 7)) (by rfl) R.m7 rfl) ?l8
    case l8 => exact pa_cons (pe_glob (v := .ref (c 8)) (by rfl) R.m8 rfl) pa_nil
    case' s5 => refine' ps_if (pw_or (pt_val (pv 3)) (pw_or1 (pt_val (pe_callB (callK (K := K) rIsiQT call_isiQT) (by rfl) B.isi PyProof.Rows.Boot.«isinstance» (pa_cons (pv 1) (pa_cons (pe_tup ?o0) pa_nil)))))).pt (pss_one (ps_ret pe_str)) pss_nil
    case' o0 => refine' pa_cons (pe_glob (v := .ref (c 9)) (by rfl) R.m9 rfl) ?o1
    case' o1 => refine' pa_cons (pe_glob (v := .ref (c 10)) (by rfl) R.m10 rfl) ?o2
    case' o2 => refine' pa_cons (pe_glob (v := .ref (c 11)) (by rfl) R.m11 rfl) ?o3
    case o3 => exact pa_cons (pe_glob (v := .ref (c 12)) (by rfl) R.m12 rfl) pa_nil
    case' s6 => refine' ps_ret (pe_ix ix_list (pe_lst ?p0) (pe_op op_add (pe_callTy call_int1 (by rfl) B.int PyProof.Rows.Boot.«int» (pa_cons ?q0 pa_nil)) (pe_op op_mul pe_int (pe_callTy call_int1 (by rfl) B.int PyProof.Rows.Boot.«int» (pa_cons ?q1 pa_nil)))) (fun _ _ => rfl))
    case p0 => exact pa_cons pe_str (pa_cons pe_str (pa_cons pe_str (pa_cons pe_str pa_nil)))
    case q0 => exact pe_callB (callK (K := K) rIsiQ call_isiQ) (by rfl) B.isi PyProof.Rows.Boot.«isinstance» (pa_cons (pv 1) (pa_cons (pe_glob (v := .ref CN) (by rfl) R.n.mg rfl) pa_nil))
    case q1 => exact pe_callB (callK (K := K) rIsiQ call_isiQ) (by rfl) B.isi PyProof.Rows.Boot.«isinstance» (pa_cons (pv 1) (pa_cons (pe_glob (v := .ref CH) (by rfl) R.h.mg rfl) pa_nil))
    case' kk => skip
    refine ⟨_, rfl, fl, c', cl, cs, gs, rfl, hf, hc, L, Cs, mo _ _ _ _ _ _ _ h (fun v H2 z => z.elim) (fun cx d H2 z nc => ?_)⟩
    obtain ⟨n, hh, Cx, wch, rfl, z2⟩ := z nc
    clear z
    have wd : wrd1 K CE CN CH c Cx n hh = true := by
      rcases wch with ⟨rfl, rfl, rfl⟩ | ⟨rfl, rfl, rfl⟩
      · exact R.wn
      · exact R.wh
    obtain ⟨kx, _, kv, kn, kh, k1, k2⟩ := wrd_of wd
    refine ⟨Cx, wch.imp (·.1) (·.1), rfl, fun σ a hl ha => ?_⟩
    obtain ⟨u0, u1, u2, u3, rfl⟩ : ∃ a b c d, σ = [a, b, c, d] := by
      match σ, hl with
      | [a, b, c, d], _ => exact ⟨a, b, c, d, rfl⟩
    generalize lend cs H2 = H3 at z2 ha ⊢
    have s1 := Same.new (o := exq a Cx d) ha
    have ea : upd H3 a (exq a Cx d) a = some (exq a Cx d) := upd_same
    generalize upd H3 a (exq a Cx d) = H4 at s1 ea ⊢
    refine ⟨_, rfl, ?_⟩
    show _
    refine ⟨_, rfl, a, Cx, d, _, _, _, rfl, rfl, ea, kx, kv, _, rfl, iteF ?_⟩
    refine ⟨_, rfl, by show 9 <= sizeLine; decide, fun t1 n1 => ?_⟩
    have s2 := Same.new (o := .tup [.ref (c 0), .ref (c 1), .ref (c 2), .ref (c 3), .ref (c 4), .ref (c 5), .ref (c 6), .ref (c 7), .ref (c 8)]) n1
    refine ⟨a, t1, Cx, d, _, _, false, rfl, upd_same, rfl, s2 _ _ ea, kx, k1, ?_⟩
    have ea2 := s2 _ _ ea
    refine setG ?_
    dsimp only
    generalize upd H4 t1 _ = H5 at s2 ea2 ⊢
    refine ⟨_, rfl, _, rfl, iteF ?_⟩
    refine ⟨_, rfl, by show 4 <= sizeLine; decide, fun t2 n2 => ?_⟩
    have s3 := Same.new (o := .tup [.ref (c 9), .ref (c 10), .ref (c 11), .ref (c 12)]) n2
    have ea3 := s3 _ _ ea2
    refine ⟨a, t2, Cx, d, _, _, false, rfl, upd_same, rfl, ea3, kx, k2, _, rfl, iteF ?_⟩
    generalize upd H5 t2 _ = H6 at s3 ea3 ⊢
    refine ⟨by show 4 <= sizeLine; decide, fun l n3 => ?_⟩
    have s4 := Same.new (o := .lst [.str "none", .str "web", .str "hand", .str "wrong"]) n3
    have ea4 := s4 _ _ ea3
    refine ⟨_, rfl, a, Cx, d, _, _, n, rfl, rfl, ea4, kx, kn, .inr ⟨_, rfl, ?_⟩⟩
    refine ⟨_, rfl, a, Cx, d, _, _, hh, rfl, rfl, ea4, kx, kh, .inr ⟨_, rfl, _, _, rfl, rfl, .inr ⟨by cases hh <;> decide, by cases hh <;> decide⟩, _, _, rfl, rfl, ?_⟩⟩
    have sAll : Same H3 (upd H6 l (.lst [.str "none", .str "web", .str "hand", .str "wrong"])) := ((s1.trans s2).trans s3).trans s4
    have q := z2 _ sAll
    rcases wch with ⟨rfl, rfl, rfl⟩ | ⟨rfl, rfl, rfl⟩
    · exact ⟨l, _, _, _, rfl, rfl, .of upd_same, rfl, q⟩
    · exact ⟨l, _, _, _, rfl, rfl, .of upd_same, rfl, q⟩
end
end Ev
set_option Elab.async false
set_option linter.all false
set_option maxRecDepth 100000
namespace L2
open PySem PySem.Spec PyProof.Rows PySem.W
section
variable {X : Cx} {a b : Expr} {rest : List Expr} {pos : Pos} {ta tb : TE}
theorem op_isNotB : OpR X (compareOp .IsNot) (fun x y H Q => ∃ i j, x = .bl i /\ y = .bl j /\ Q (.bl (!(i == j))) H) := by
  intro pins s σ H x y v u Q I rx ry h
  obtain ⟨i, j, rfl, rfl, q⟩ := h
  cases rx
  cases ry
  show wpAny _ _ (do return Value.bool (!(<- isSame (.bool i) (.bool j)))) _ _ s
  unfold isSame
  refine wpAny_bind (wpAny_pure (wpAny_pure ⟨.bl _, H, I, rfl, ?_⟩))
  have e : (Value.bool i == Value.bool j) = (i == j) := by cases i <;> cases j <;> rfl
  rw [e]
  exact q
end
end L2
set_option Elab.async false
set_option linter.all false
set_option maxRecDepth 100000
namespace Ev
open PySem L2
def NT (H G : Hp) : Prop := ∀ b o, H b = some o -> (∀ vs, o ≠ .tbl vs) -> G b = some o
theorem NT.of {H G : Hp} (s : Same H G) : NT H G := fun b o e _ => s b o e
theorem NT.trans {H G J : Hp} (s : NT H G) (t : NT G J) : NT H J := fun b o e n => t b o (s b o e n) n
theorem But.nt {T : Addr} {H G : Hp} {vs : Array Value} (b : But T H G) (hT : H T = some (.tbl vs)) : NT H G := fun c o e n => b c o e (fun z => by
  rw [z, hT] at e
  exact n _ (Option.some.inj e).symm)
section
variable {K : PySem.W.Frag} {H G : Hp} {v : V}
theorem TupsAt.nt {ys : List V} {ks : List (List Key)} (h : TupsAt K H ys ks) (s : NT H G) : TupsAt K G ys ks := Paired.mapP h fun y k ⟨a, z, q⟩ => ⟨a, z, s _ _ q (by intro vs z; cases z)⟩
theorem tyOf_nt {t : Value} (h : TyOf K H v t) (s : NT H G) : TyOf K G v t := by
  cases h with
  | non => exact .non
  | bl y => exact .bl y
  | int i => exact .int i
  | str y => exact .str y
  | flt y => exact .flt y
  | lst ea => exact .lst (s _ _ ea (by intro vs z; cases z))
  | frz ea => exact .frz (s _ _ ea (by intro vs z; cases z))
  | tup ea => exact .tup (s _ _ ea (by intro vs z; cases z))
  | dK ea => exact .dK (s _ _ ea (by intro vs z; cases z))
  | dT ea => exact .dT (s _ _ ea (by intro vs z; cases z))
  | ins ea cl ha hn htk hm => exact .ins (s _ _ ea (by intro vs z; cases z)) cl ha hn htk hm
theorem StrV.nt {x : Option Str} (h : StrV K H v x) (s : NT H G) : StrV K G v x := by
  cases x with
  | some x => exact h
  | none =>
    obtain ⟨t, ty, e⟩ := h
    exact ⟨t, tyOf_nt ty s, e⟩
theorem IntV.nt {x : Option Int} (h : IntV K H v x) (s : NT H G) : IntV K G v x := by
  cases x with
  | some x => exact h
  | none =>
    rcases h with h | ⟨t, ty, e⟩
    · exact .inl h
    · exact .inr ⟨t, tyOf_nt ty s, e⟩
theorem HandV.nt {o : Option (Str × Int)} (h : HandV K H v o) (s : NT H G) : HandV K G v o := by
  cases o with
  | some t =>
    obtain ⟨g, p, e, hp⟩ := h
    exact ⟨g, p, e, s _ _ hp (by intro vs z; cases z)⟩
  | none =>
    rcases h with ⟨t, ty, e⟩ | ⟨p, xs, e, hp, hl⟩ | ⟨p, u1, u2, x1, x2, e, hp, su1, su2, r⟩
    · exact .inl ⟨t, tyOf_nt ty s, e⟩
    · exact .inr (.inl ⟨p, xs, e, s _ _ hp (by intro vs z; cases z), hl⟩)
    · exact .inr (.inr ⟨p, u1, u2, x1, x2, e, s _ _ hp (by intro vs z; cases z), su1.nt s, su2.nt s, r⟩)
theorem PairV.nt {o : Option (Str × Str)} (h : PairV K H v o) (s : NT H G) : PairV K G v o := by
  cases o with
  | some t =>
    obtain ⟨g, p, e, hp⟩ := h
    exact ⟨g, p, e, s _ _ hp (by intro vs z; cases z)⟩
  | none =>
    rcases h with ⟨t, ty, e⟩ | ⟨p, xs, e, hp, hl⟩ | ⟨p, u1, u2, x1, x2, e, hp, su1, su2, r⟩
    · exact .inl ⟨t, tyOf_nt ty s, e⟩
    · exact .inr (.inl ⟨p, xs, e, s _ _ hp (by intro vs z; cases z), hl⟩)
    · exact .inr (.inr ⟨p, u1, u2, x1, x2, e, s _ _ hp (by intro vs z; cases z), su1.nt s, su2.nt s, r⟩)
theorem BadTs.nt (h : BadTs K H v) (s : NT H G) : BadTs K G v := by
  rcases h with ⟨t, ty, e⟩ | ⟨l, ys, ts, y, rfl, hl, tu, good, nd, h64, hy, bad⟩
  · exact .inl ⟨t, tyOf_nt ty s, e⟩
  · refine .inr ⟨l, ys, ts, y, rfl, s _ _ hl (by intro vs z; cases z), TupsAt.nt tu s, good, nd, h64, hy, ?_⟩
    rcases bad with b | ⟨t, b, m⟩
    · exact .inl (b.nt s)
    · exact .inr ⟨t, b.nt s, m⟩
theorem BadHs.nt (h : BadHs K H v) (s : NT H G) : BadHs K G v := by
  rcases h with ⟨t, ty, e⟩ | ⟨l, ys, rfl, hl, h⟩
  · exact .inl ⟨t, tyOf_nt ty s, e⟩
  · refine .inr ⟨l, ys, rfl, s _ _ hl (by intro vs z; cases z), ?_⟩
    rcases h with h | h | ⟨hs, y, tu, good, nd, hy, bad⟩
    · exact .inl h
    · exact .inr (.inl h)
    · refine .inr (.inr ⟨hs, y, TupsAt.nt tu s, good, nd, hy, ?_⟩)
      rcases bad with b | ⟨t, b, m⟩
      · exact .inl (b.nt s)
      · exact .inr ⟨t, b.nt s, m⟩
theorem BP.nt (h : BP K H v) (s : NT H G) : BP K G v := by
  obtain ⟨a, v1, v2, e, h, b⟩ := h
  refine ⟨a, v1, v2, e, s _ _ h (by intro vs z; cases z), ?_⟩
  rcases b with b | ⟨b, l, ys, hs, e, hl, tu, r⟩
  · exact .inl (b.nt s)
  · exact .inr ⟨b.nt s, l, ys, hs, e, s _ _ hl (by intro vs z; cases z), TupsAt.nt tu s, r⟩
theorem WebAt.nt {C p : Addr} {hs : List (Str × Int)} {ts : List (Str × Str)} {fp : List Addr} (W : WebAt K C H p hs ts fp) (s : NT H G) : WebAt K C G p hs ts fp := by
  obtain ⟨dx, d1, l2, d3, zs, as, rfl, h1, h2, h3, h4, h5, h6, h7⟩ := W.ex
  exact ⟨dx, d1, l2, d3, zs, as, rfl, s _ _ h1 (by intro vs z; cases z), s _ _ h2 (by intro vs z; cases z), s _ _ h3 (by intro vs z; cases z), TupsAt.nt h4 s, s _ _ h5 (by intro vs z; cases z), h6, fun i n a e1 e2 => s _ _ (h7 i n a e1 e2) (by intro vs z; cases z)⟩
theorem stt.nt {l : Addr} (h : stt H l) (s : NT H G) : stt G l := by
  rcases h with ⟨n, e⟩ | ⟨n, m, c, e⟩
  · exact .inl ⟨n, s _ _ e (by intro vs z; cases z)⟩
  · exact .inr ⟨n, m, c, s _ _ e (by intro vs z; cases z)⟩
def OddL (H : Hp) (v : V) : Prop := OddV H v ∨ (∃ a xs, v = .ref a /\ H a = some (.tup xs)) ∨ ∃ a, v = .ref a /\ H a = some (.dK [])
theorem OddL.nt (h : OddL H v) (s : NT H G) : OddL G v := by
  rcases h with (h | h | h | h | ⟨a, x, e, h⟩) | ⟨a, xs, e, h⟩ | ⟨a, e, h⟩
  · exact .inl (.inl h)
  · exact .inl (.inr (.inl h))
  · exact .inl (.inr (.inr (.inl h)))
  · exact .inl (.inr (.inr (.inr (.inl h))))
  · exact .inl (.inr (.inr (.inr (.inr ⟨a, x, e, s _ _ h (by intro vs z; cases z)⟩))))
  · exact .inr (.inl ⟨a, xs, e, s _ _ h (by intro vs z; cases z)⟩)
  · exact .inr (.inr ⟨a, e, s _ _ h (by intro vs z; cases z)⟩)
theorem OddL.no {hs : List (Str × Int)} (h : OddL H v) (g : ∀ h ∈ hs, goodH h) : NoH K H v hs := by
  have no : ∀ {t : Value}, TyOf K H v t -> PySem.W.kitOne K t (.type "str") = some false -> NoH K H v hs := fun {t} a b => ⟨none, ⟨t, a, b⟩, fun y e => by cases e⟩
  rcases h with (⟨y, rfl, n, le⟩ | rfl | rfl | rfl | ⟨a, x, rfl, h⟩) | ⟨a, xs, rfl, h⟩ | ⟨a, rfl, h⟩
  · refine ⟨some y, rfl, fun z e m => ?_⟩
    cases e
    obtain ⟨h, hh, e⟩ := List.mem_map.mp m
    have := (g h hh).1
    rw [e, n] at this
    cases this
  · exact no .non rfl
  · exact no (.int _) rfl
  · exact no (.bl _) rfl
  · exact no (.lst h) rfl
  · exact no (.tup h) rfl
  · exact no (.dK h) rfl
end
theorem in_strs (x : Str) (gs : List Str) : inV (.str x) (gs.map V.str) = decide (x ∈ gs) := by
  unfold inV
  induction gs with
  | nil => rfl
  | cons g gs ih =>
    rw [List.map_cons, List.any_cons, ih]
    have : eqV (V.str g) (V.str x) = decide (g = x) := by
      unfold eqV
      by_cases e : g = x
      · simp [e]
      · simp [e]
    rw [this]
    by_cases e : g = x
    · simp [e]
    · have e2 : ¬ x = g := fun z => e z.symm
      simp [e, e2]
theorem strs_flat (gs : List Str) : (gs.map V.str).all flatV = true := by
  rw [List.all_eq_true]
  intro v hv
  obtain ⟨x, _, rfl⟩ := List.mem_map.mp hv
  rfl
theorem inV_no {v : V} (h : ∀ y, eqV (.str y) v = false) (ns : List Str) : inV v (ns.map V.str) = false := by
  unfold inV
  induction ns with
  | nil => rfl
  | cons n ns ih => rw [List.map_cons, List.any_cons, ih, h n]; rfl
theorem OddL.notIn {K : PySem.W.Frag} {H : Hp} {v : V} {ln : Addr} {hs : List (Str × Int)} {Q : VK} (h : OddL H v) (g : ∀ h ∈ hs, goodH h) (hl : H ln = some (.lst ((nmsOf hs).map V.str))) (q : Q (.bl true) H) : rInP K true v (.ref ln) H Q := by
  have fl : flatV v = true -> inV v ((nmsOf hs).map V.str) = false -> rInP K true v (.ref ln) H Q := fun f e => .inl (.inl ⟨ln, _, rfl, .inl (.of hl), f, strs_flat _, by rw [if_pos rfl, e]; exact q⟩)
  rcases h with (⟨y, rfl, n, le⟩ | rfl | rfl | rfl | ⟨a, x, rfl, h⟩) | ⟨a, xs, rfl, h⟩ | ⟨a, rfl, h⟩
  · refine fl rfl ?_
    rw [in_strs]
    refine decide_eq_false fun m => ?_
    obtain ⟨h, hh, e⟩ := List.mem_map.mp ((nms_perm hs).mem_iff.mp m)
    have := (g h hh).1
    rw [e, n] at this
    cases this
  · exact fl rfl (inV_no (fun _ => rfl) _)
  · exact fl rfl (inV_no (fun _ => rfl) _)
  · exact fl rfl (inV_no (fun _ => rfl) _)
  · exact .inr ⟨ln, a, nmsOf hs, rfl, rfl, .of hl, .inl ⟨_, h⟩, q⟩
  · exact .inl (.inr ⟨ln, a, nmsOf hs, xs, rfl, rfl, .of hl, h, q⟩)
  · exact .inr ⟨ln, a, nmsOf hs, rfl, rfl, .of hl, .inr ⟨_, h⟩, q⟩
theorem no_self {hs : List (Str × Int)} {ts : List (Str × Str)} (W : Good hs ts) (x : Str) : decide (x ∈ near (nmsOf hs) (tsOf ts) x) = false := by
  refine decide_eq_false fun m => ?_
  have m := (List.mem_filter.mp m).2
  have m : ord2 x x ∈ tsOf ts := by simpa using m
  have k : kT (ord2 x x) ∈ (tsOf ts).map kT := List.mem_map.mpr ⟨_, m, rfl⟩
  rw [tsOf_keys] at k
  obtain ⟨t, ht, e⟩ := List.mem_map.mp ((sortKs_perm _).mem_iff.mp k)
  have g := W.tok t ht
  rcases kO_two (a := t.1) (b := t.2) (c := x) (d := x) e with ⟨e1, e2⟩ | ⟨e1, e2⟩ <;> exact g.2.2 (e1.trans e2.symm)
theorem keepU {cs : List (Addr × Obj)} {H1 H2 H3 : Hp} (n : NoCs cs H1) (s : Same H1 H2) (s3 : Same (lend cs H2) H3) : Same H1 (unl cs H3) := fun b o e => by
  have q := out_of n e
  rw [unl_out q]
  exact s3 _ _ (by rw [lend_out q]; exact s _ _ e)
theorem lenU {cs : List (Addr × Obj)} {H2 H3 : Hp} (s3 : Same (lend cs H2) H3) : Lent H3 cs := fun c o e => s3 _ _ (lend_in e)
def forB : Stmt -> List Stmt
  | .For _ _ b _ _ => b
  | _ => []
def ifT : Stmt -> Expr
  | .If t _ _ _ => t
  | _ => .Constant .none 0 ⟨0, 0, 0, 0⟩
def ifB : Stmt -> List Stmt
  | .If _ b _ _ => b
  | _ => []
def lamIn : Expr -> Expr
  | .Compare (.Call _ (e :: _) _ _) _ _ _ => e
  | e => e
def nthS (l : List Stmt) (i : Nat) : Stmt := l.getD i (.Pass ⟨0, 0, 0, 0⟩)
def lawB : List Stmt := forB (nthS (defBody sLaw) 0)
def oddB : List Stmt := ifB (nthS (forB (nthS lawB 6)) 0)
def lam1 : Expr := lamIn (ifT (nthS (forB (nthS lawB 3)) 0))
def lam2 : Expr := lamIn (ifT (nthS oddB 0))
def lam3 : Expr := lamIn (ifT (nthS oddB 1))
def lamS : Expr -> Scope
  | .Lambda _ _ s _ => s
  | _ => defScope sLaw
def lamB : Expr -> Expr
  | .Lambda _ b _ _ => b
  | e => e
def lamA : Expr -> Arguments
  | .Lambda a _ _ _ => a
  | _ => defArgs sLaw
abbrev fv1 : List Str := ["_law_bad_here"]
abbrev fv2 : List Str := ["_law_web", "_law_odd"]
theorem free1 : ∀ y ∈ (lamS lam1).names, y.2 = .free -> y.1 ∈ fv1 := by decide +kernel
theorem free2 : ∀ y ∈ (lamS lam2).names, y.2 = .free -> y.1 ∈ fv2 := by decide +kernel
theorem free3 : ∀ y ∈ (lamS lam3).names, y.2 = .free -> y.1 ∈ fv2 := by decide +kernel
theorem scLam1 : LamScope [] fv1 (lamS lam1) := ⟨by decide +kernel, rfl, rfl, rfl, fun p h => (by cases h), by decide +kernel, fun x h => free1 (x, .free) (PySem.mem_of_lookup h) rfl, by decide +kernel⟩
theorem scLam2 : LamScope [] fv2 (lamS lam2) := ⟨by decide +kernel, rfl, rfl, rfl, fun p h => (by cases h), by decide +kernel, fun x h => free2 (x, .free) (PySem.mem_of_lookup h) rfl, by decide +kernel⟩
theorem scLam3 : LamScope [] fv2 (lamS lam3) := ⟨by decide +kernel, rfl, rfl, rfl, fun p h => (by cases h), by decide +kernel, fun x h => free3 (x, .free) (PySem.mem_of_lookup h) rfl, by decide +kernel⟩
def spL1 (K : PySem.W.Frag) (CN : Addr) : SpL := fun vs gs H _ E => ∃ (p : Addr) (v1 v2 : V), vs = [] /\ gs = [.ref p] /\ H p = some (.tup [v1, v2]) /\ BadWeb K H v1 v2 /\ ∀ dd H', Same H H' -> E (.ref CN) dd H'
def spL2 (K : PySem.W.Frag) (C CH : Addr) : SpL := fun vs gs H _ E => ∃ (p : Addr) (v : V) (hs : List (Str × Int)) (ts : List (Str × Str)) (fp : List Addr), vs = [] /\ gs = [.ref p, v] /\ WebAt K C H p hs ts fp /\ NoH K H v hs /\ ∀ dd, E (.ref CH) dd H
theorem mono1 {K : PySem.W.Frag} {CN : Addr} : MonoL (spL1 K CN) := fun vs gs H Q Q' E E' ⟨p, v1, v2, a, b, c, d, k⟩ _ hE => ⟨p, v1, v2, a, b, c, d, fun dd H' s => hE _ _ _ (k dd H' s)⟩
theorem mono2 {K : PySem.W.Frag} {C CH : Addr} : MonoL (spL2 K C CH) := fun vs gs H Q Q' E E' ⟨p, v, hs, ts, fp, a, b, c, d, k⟩ _ hE => ⟨p, v, hs, ts, fp, a, b, c, d, fun dd => hE _ _ _ (k dd)⟩
def spAskG (K : PySem.W.Frag) (C CH : Addr) : Sp := fun vs H Q E => spAskN K C CH vs H Q (fun c _ H' => ∀ dd, E c dd H')
section
variable {P : Program} {w : World} {K : PySem.W.Frag} {mg : Str -> Option Value} {base : Heap} {C CN CH : Addr} {qual : Str}
theorem ok_lam1 (cW : CalCG P w K mg base C 5 "Web" ["self", "hands", "ties"] (spInitN K C CN)) : LamOk P w K mg base 7 qual (lamA lam1) (lamB lam1) (lamS lam1) [] fv1 (spL1 K CN) := by
  refine lamOk scLam1 (fun pm c' ctv cl us hl => ?_) (fun A outer s H f cd cl vs gs Q E hr h hp => ?_)
  · cases us with
    | nil => rfl
    | cons u us => cases hl
  · obtain ⟨p, v1, v2, rfl, rfl, hp0, bad, k⟩ := h
    refine ⟨_, pe_mkG cW hr hp (pa_cons (pe_ix ix_tup (pv 0) pe_int (fun _ _ => rfl)) (pa_cons (pe_ix ix_tup (pv 0) pe_int (fun _ _ => rfl)) pa_nil)), ?_⟩
    refine ⟨_, rfl, p, _, _, _, rfl, rfl, .of hp0, rfl, _, rfl, p, _, _, _, rfl, rfl, .of hp0, rfl, fun x dx hx hdx ne => ?_⟩
    have s1 : Same H (upd H dx (.own x)) := Same.new hdx
    have s2 : Same (upd H dx (.own x)) (upd (upd H dx (.own x)) x (.ins C dx [])) := Same.new (by rw [upd_ne (fun z => ne z.symm)]; exact hx)
    exact ⟨x, v1, v2, rfl, (bad.same s1).same s2, fun dd H' s => k dd H' ((s1.trans s2).trans s)⟩
theorem ok_lam2 (T : Txt K mg C) (cS : CalMG P w K mg base C 2 "strength" ["self", "hand"] (spAskG K C CH)) : LamOk P w K mg base 3 qual (lamA lam2) (lamB lam2) (lamS lam2) [] fv2 (spL2 K C CH) := by
  refine lamOk scLam2 (fun pm c' ctv cl us hl => ?_) (fun A outer s H f cd cl vs gs Q E hr h hp => ?_)
  · cases us with
    | nil => rfl
    | cons u us => cases hl
  · obtain ⟨p, v, hs, ts, fp, rfl, rfl, W, no, k⟩ := h
    obtain ⟨dx, d1, l2, d3, zs, as, rfl, h1, h2, h3, h4, h5, h6, h7⟩ := id W.ex
    refine ⟨_, pe_mtG cS T.cl hr hp (pv 0) (pa_cons (pv 1) pa_nil), ?_⟩
    exact ⟨_, rfl, p, dx, _, rfl, h1, flds_no _ _ _ (by decide +kernel) (by decide +kernel) (by decide +kernel), _, rfl, p, v, hs, ts, _, rfl, W, no, k⟩
theorem ok_lam3 (T : Txt K mg C) (cS : CalMG P w K mg base C 2 "neighbours" ["self", "hand"] (spAskG K C CH)) : LamOk P w K mg base 3 qual (lamA lam3) (lamB lam3) (lamS lam3) [] fv2 (spL2 K C CH) := by
  refine lamOk scLam3 (fun pm c' ctv cl us hl => ?_) (fun A outer s H f cd cl vs gs Q E hr h hp => ?_)
  · cases us with
    | nil => rfl
    | cons u us => cases hl
  · obtain ⟨p, v, hs, ts, fp, rfl, rfl, W, no, k⟩ := h
    obtain ⟨dx, d1, l2, d3, zs, as, rfl, h1, h2, h3, h4, h5, h6, h7⟩ := id W.ex
    refine ⟨_, pe_mtG cS T.cl hr hp (pv 0) (pa_cons (pv 1) pa_nil), ?_⟩
    exact ⟨_, rfl, p, dx, _, rfl, h1, flds_no _ _ _ (by decide +kernel) (by decide +kernel) (by decide +kernel), _, rfl, p, v, hs, ts, _, rfl, W, no, k⟩
end
theorem tab_tbl {H : Hp} {T : Addr} {qual : Str} (h : TabOk H T qual) : ∃ vs, H T = some (.tbl vs) := by
  obtain ⟨es, e, _⟩ := h
  exact ⟨_, e⟩
theorem callG {fvs : List Str} {cl : List (Str × Addr)} {is : List Nat} {sp : Sp} {tl : TE} {σ : St} {H : Hp} {Q : VK} (h : tl σ H (fun v H1 => ∃ gs : List V, is.map (fun i => σ[i]?) = gs.map (fun v => some (some v)) /\ ∀ cs, CellsOf fvs cl cs gs -> (∀ c o, cs.lookup c = some o -> H1 c = none) -> sp [v] (lend cs H1) (fun v H2 => Lent H2 cs /\ Q v (unl cs H2)) E0)) : tCallL fvs cl is sp (tCons tl tNil) σ H Q := h
theorem ask_ok {CN CH T : Addr} {qual q' : Str} {a a' : Arguments} {b b' : Expr} {sc sc' : Scope} {pos : Pos} {cl : List (Str × Addr)} {fvs : List Str} {is : List Nat} {sp : SpL} {σ : St} {H : Hp} {Q : VK} {gs : List V} {n h : Bool} {Cx : Addr} (mo : MonoL sp) (e1 : q' = qual) (e2 : a' = a) (e3 : b' = b) (e4 : sc' = sc) (tab : TabOk H T qual) (hgs : is.map (fun i => σ[i]?) = gs.map (fun v => some (some v)))
    (hC : (Cx = CN /\ n = true /\ h = false) ∨ (Cx = CH /\ n = false /\ h = true)) (hsp : ∀ H1, NT H H1 -> sp [] gs H1 (fun _ _ => False) (fun cls _ H2 => cls = .ref Cx /\ Same H1 H2)) (k : ∀ H', NT H H' -> TabOk H' T qual -> Q (.str (if n then "web" else "hand")) H') :
    tCallL fvs cl is (spWord CN CH qual a b sc fvs sp) (tCons (tLam T q' a' b' sc' pos cl) tNil) σ H Q := by
  refine callG (lam_mk tab e1 e2 e3 e4 (fun f c' H1 bT tab1 hf hc => ?_))
  obtain ⟨vs, hT⟩ := tab_tbl tab
  have nt := bT.nt hT
  refine ⟨gs, hgs, fun cs Cs ncs => ?_⟩
  refine ⟨f, c', _, cs, _, rfl, by rw [lend_out (out_of ncs hf)]; exact hf, by rw [lend_out (out_of ncs hc)]; exact hc, fun c o e => lend_in e, Cs, ?_⟩
  rw [unl_lend ncs]
  refine mo _ _ _ _ _ _ _ (hsp H1 nt) (fun _ _ z => z) (fun cls d H2 ⟨ec, s2⟩ nc => ⟨n, h, Cx, hC, ec, fun H' s3 => ⟨lenU s3, ?_⟩⟩)
  have s := keepU ncs s2 s3
  exact k _ (nt.trans (NT.of s)) (tab1.same s)
end Ev
set_option Elab.async false
set_option linter.all false
set_option maxRecDepth 100000
namespace L2
open PySem PySem.Spec PyProof.Rows
theorem okC {P : Program} {w : World} {K : PySem.W.Frag} {mg : Str -> Option Value} {base : Heap} {k : Nat} {f : Addr} {name qual : Str} {params : Arguments} {body : List Stmt} {scope : Scope} {dV kV doc pm cdv ct oc : Value} {an od : Option Addr}
    {osl : Array (Option Value)} {N ps : List Str} {sp : Sp} (lk : K.lookup f = some ⟨oc, od, .func (PySem.W.fnOf name qual params body scope dV kV doc pm an cdv ct), osl⟩) (hcd : PySem.W.codeIn K cdv qual = true) (S : FnScope N ps scope)
    (len : ∀ vs H Q E, sp vs H Q E -> vs.length = ps.length)
    (hbody : ∀ (A : Around) (outer : List Env) (s : Shared) (H : Hp) (vs : List V) (Q : VK) (E : XK), Room k (A.deeper (envOfC qual scope s.heap.objs.size f cdv)) -> sp vs H Q E ->
      ∃ t, PSs (cxOf CX0 P w K mg base N qual scope f cdv A outer s H E).nox body t /\ t { nx := fun _ H' => Q .non H', rt := Q } (start N vs) H) :
    FnOk P w K mg base CX0 (k + 1) f (PySem.W.fnOf name qual params body scope dV kV doc pm an cdv ct) ps sp :=
  fn_of lk hcd S len fun A outer s H vs Q E hr hsp => by
    obtain ⟨t, h, q⟩ := hbody A outer s H vs Q E hr hsp
    exact ⟨t, h.nox, q⟩
end L2
namespace Ev
open PySem L2
theorem pe_fnL {X : Cx} {k : Nat} {x : Str} {ps : List Str} {sp : Sp} {p pos : Pos} {e : Expr} {es : List Expr} {ta : TA} {fvs : List Str} {cl : List (Str × Addr)} {is : List Nat} (c : Cal X.prog X.w X.K X.mg X.base k x ps sp) (hr : Room k X.A) (ha : PA X (e :: es) ta)
    (hin : ∀ q ∈ cl, X.env.cells.lookup q.1 = some q.2) (hfn : ∀ q ∈ cl, X.fn q.1 = true) (hcl : ∀ x ∈ fvs, ∃ c, cl.lookup x = some c) (hkd : ∀ x ∈ fvs, X.env.scope.names.lookup x = some .cell) (hkl : ∀ x c, cl.lookup x = some c -> x ∈ fvs) (hN : is.map (fun i => X.N[i]?) = fvs.map some)
    (hg : Gl X x := by rfl) (hdb : (x == ("__debug__" : Str)) = false := by decide) (he : starEach (e :: es) X.env = (false, eval e X.env) :: starEach es X.env := by rfl) (hpl : (backTo pos (starEach es X.env)).any (·.1) = false := by rfl) :
    PE X (.Call (.Name x p) (e :: es) [] pos) (tCallL fvs cl is sp ta) := by
  obtain ⟨f, fd, F, m, kp, b⟩ := c.ex
  exact pe_callL F hr hg m kp b ha hin hfn hcl hkd hkl hN hdb he hpl
abbrev lN : List Str := ["_law_script", "_law_cell", "_law_state", "_law_hands_here", "_law_ties_here", "_law_name_here", "_law_bad_here", "_law_odd", "_law_web"]
theorem scLaw : FnScope lN ["_law_script"] (defScope sLaw) := ⟨rfl, rfl, rfl, by decide +kernel, rfl, by decide +kernel, by decide +kernel⟩
def cl1 (L : Addr) : List (Str × Addr) := [("_law_bad_here", L+1)]
def cl2 (L : Addr) : List (Str × Addr) := [("_law_web", L+3), ("_law_odd", L+2)]
theorem clo1 {L f : Addr} {cd : Value} : closureFor (lamS lam1) (PyProof.Rows.envOfC "law" (defScope sLaw) L f cd) = pure (cl1 L) := by rfl
theorem clo2 {L f : Addr} {cd : Value} : closureFor (lamS lam2) (PyProof.Rows.envOfC "law" (defScope sLaw) L f cd) = pure (cl2 L) := by rfl
theorem clo3 {L f : Addr} {cd : Value} : closureFor (lamS lam3) (PyProof.Rows.envOfC "law" (defScope sLaw) L f cd) = pure (cl2 L) := by rfl
theorem cel1 {L f : Addr} {cd : Value} : ∀ q ∈ cl1 L, (PyProof.Rows.envOfC "law" (defScope sLaw) L f cd).cells.lookup q.1 = some q.2 := by
  intro q hq
  simp only [cl1, List.mem_cons, List.not_mem_nil, or_false] at hq
  rcases hq with rfl <;> rfl
theorem cel2 {L f : Addr} {cd : Value} : ∀ q ∈ cl2 L, (PyProof.Rows.envOfC "law" (defScope sLaw) L f cd).cells.lookup q.1 = some q.2 := by
  intro q hq
  simp only [cl2, List.mem_cons, List.not_mem_nil, or_false] at hq
  rcases hq with rfl | rfl <;> rfl
theorem lcl1 {L : Addr} : ∀ x ∈ fv1, ∃ c, (cl1 L).lookup x = some c := by
  intro x hx
  simp only [fv1, List.mem_cons, List.not_mem_nil, or_false] at hx
  rcases hx with rfl <;> exact ⟨_, rfl⟩
theorem lcl2 {L : Addr} : ∀ x ∈ fv2, ∃ c, (cl2 L).lookup x = some c := by
  intro x hx
  simp only [fv2, List.mem_cons, List.not_mem_nil, or_false] at hx
  rcases hx with rfl | rfl <;> exact ⟨_, rfl⟩
theorem lkl1 {L : Addr} : ∀ x c, (cl1 L).lookup x = some c -> x ∈ fv1 := by
  intro x c h
  have m := PySem.mem_of_lookup h
  simp only [cl1, List.mem_cons, List.not_mem_nil, or_false, Prod.mk.injEq] at m
  rcases m with ⟨rfl, _⟩ <;> simp [fv1]
theorem lkl2 {L : Addr} : ∀ x c, (cl2 L).lookup x = some c -> x ∈ fv2 := by
  intro x c h
  have m := PySem.mem_of_lookup h
  simp only [cl2, List.mem_cons, List.not_mem_nil, or_false, Prod.mk.injEq] at m
  rcases m with ⟨rfl, _⟩ | ⟨rfl, _⟩ <;> simp [fv2]
theorem lkd1 : ∀ x ∈ fv1, (defScope sLaw).names.lookup x = some .cell := by decide +kernel
theorem lkd2 : ∀ x ∈ fv2, (defScope sLaw).names.lookup x = some .cell := by decide +kernel
def lq : Str := ("law" : Str) ++ ".<locals>." ++ "<lambda>"
def spLaw (K : PySem.W.Frag) (T : Addr) : Sp := fun vs H Q _ => ∃ (a : Addr) (ns : List Int), vs = [.ref a] /\ H T = some (.tbl #[]) /\ SqL K H a (ns.map V.int) /\ ns.length <= 63 /\ ∀ H', Q (.bl true) H'
theorem ifAsk {fvs : List Str} {cl : List (Str × Addr)} {is : List Nat} {sp : Sp} {ta : TA} {w : Str} {t u : TS} {D : Ends} {σ : St} {H : Hp} (h : tCallL fvs cl is sp ta σ H (fun x H1 => rNe x (.str w) H1 (fun z H2 => ∃ b, z = .bl b /\ (if b = true then t D σ H2 else u D σ H2)))) : tIfS (tTest (tOp rNe (tCallL fvs cl is sp ta) (tC (.str w)))) t u D σ H := h
theorem sqL_same {K : PySem.W.Frag} {H H' : Hp} {a : Addr} {xs : List V} (s : Same H H') (h : SqL K H a xs) : SqL K H' a xs := by
  rcases h with (h | ⟨o, h⟩) | h
  · exact .inl (.inl (s _ _ h))
  · exact .inl (.inr ⟨o, s _ _ h⟩)
  · exact .inr h
theorem But.same {l : Addr} {H H1 H2 : Hp} (b : But l H1 H2) (n : H l = none) (s : Same H H1) : Same H H2 := fun c o e => b c o (s c o e) (ne_of_none e n)
theorem valV_hs {hs : List (Str × Int)} (nd : (hs.map (·.1)).Nodup) {h : Str × Int} (m : h ∈ hs) : valV (hs.map fun h => ((Sum.inr h.1 : Key), V.int h.2)) (Sum.inr h.1) = some (.int h.2) := by
  induction hs with
  | nil => cases m
  | cons g hs ih =>
    rw [List.map_cons] at nd
    obtain ⟨n1, n2⟩ := List.nodup_cons.mp nd
    rcases List.mem_cons.mp m with e | m
    · rw [<- e]
      exact valV_pos rfl
    · show valV ((Sum.inr g.1, V.int g.2) :: hs.map fun h => ((Sum.inr h.1 : Key), V.int h.2)) (Sum.inr h.1) = _
      rw [valV_neg (fun e => n1 (by rw [show g.1 = h.1 from Sum.inr.inj e]; exact List.mem_map.mpr ⟨h, m, rfl⟩))]
      exact ih n2 m
theorem pairs_hs {K : PySem.W.Frag} {H : Hp} : ∀ (hs : List (Str × Int)) (ys : List V), TupsAt K H ys (hs.map kH) -> PairsAt K H ys (hs.map fun h => (Sum.inr h.1, V.int h.2))
  | [], _, .nil => .nil
  | h :: hs, _, .cons e t => .cons e (pairs_hs (K := K) hs _ t)
def spTi (K : PySem.W.Frag) (C : Addr) : Sp := fun vs H Q E => spTied K C vs H Q E ∨ spTiedN K C vs H Q E
section
variable {P : Program} {w : World} {K : PySem.W.Frag} {mg : Str -> Option Value} {base : Heap} {C CN CH : Addr}
set_option maxHeartbeats 3200000 in
theorem ok_law {fl c T : Addr} {ocl kVl dcl pml ctl : Value} {odl anl : Option Addr} {sll : Array (Option Value)} (lk : K.lookup fl = some ⟨ocl, odl, .func (PySem.W.fnOf "law" "law" (defArgs sLaw) (defBody sLaw) (defScope sLaw) .none kVl dcl pml anl (.ref c) ctl), sll⟩) (hcd : PySem.W.codeIn K (.ref c) "law" = true) (hC : PySem.W.CodeHd base c T) (hbm : base.BuiltinsAt mg T)
    (B : Bi mg) (X : Txt K mg C) (cD : Cal P w K mg base 1 "_law_digit" ["_law_state", "_law_base"] spDigit) (cLH : Cal P w K mg base 3 "_law_hands" ["_law_state", "_law_most"] (spLHands K)) (cLT : Cal P w K mg base 2 "_law_ties" ["_law_state", "_law_hands_here"] (spLTies K)) (cB : Cal P w K mg base 4 "_law_bad" ["_law_state", "_law_hands_here", "_law_ties_here"] (spBad K)) (cON : Cal P w K mg base 2 "_law_odd_name" ["_law_state", "_law_name_here"] spOddN)
    (cMk : CalC P w K mg base C 5 "Web" ["self", "hands", "ties"] (spInit K C)) (cHn : CalM P w K mg base C 1 "hands" ["self"] (spHands K C)) (cSt : CalM P w K mg base C 2 "strength" ["self", "hand"] (spStrength K C)) (cTi : CalM P w K mg base C 2 "are_tied" ["self", "one", "other"] (spTi K C))
    (cW1 : Cal P w K mg base 8 "_law_word" ["_law_ask"] (spWord CN CH lq (lamA lam1) (lamB lam1) (lamS lam1) fv1 (spL1 K CN))) (cW2 : Cal P w K mg base 4 "_law_word" ["_law_ask"] (spWord CN CH lq (lamA lam2) (lamB lam2) (lamS lam2) fv2 (spL2 K C CH))) (cW3 : Cal P w K mg base 4 "_law_word" ["_law_ask"] (spWord CN CH lq (lamA lam3) (lamB lam3) (lamS lam3) fv2 (spL2 K C CH))) :
    FnOk P w K mg base CX0 9 fl (PySem.W.fnOf "law" "law" (defArgs sLaw) (defBody sLaw) (defScope sLaw) .none kVl dcl pml anl (.ref c) ctl) ["_law_script"] (spLaw K T) := by
  refine okC lk hcd scLaw (fun vs H Q E h => ?_) (fun A outer s H vs Q E hr h => ?_)
  · obtain ⟨a, ns, rfl, _⟩ := h
    rfl
  · obtain ⟨ls, ns, rfl, hT, hls, h63, k⟩ := h
    have sz := sizeLine_eq
    have hu := hu_of hr
    have hr1 : Room 1 _ := hr.mono (by decide)
    have hr2 : Room 2 _ := hr.mono (by decide)
    have hr3 : Room 3 _ := hr.mono (by decide)
    have hr4 : Room 4 _ := hr.mono (by decide)
    have hr6 : Room 6 _ := hr.mono (by decide)
    refine' ⟨_, pss_cons ?s1 (pss_one (ps_ret pe_bl)), ?kk⟩
    case' s1 => refine' ps_for PassesOwn.never rfl (pi_list (pe_op op_cat (pe_lst (pa_cons pe_int pa_nil)) (pe_slice sl_list (pv 0) po_none (po_some pe_int)))) (pg_name (i := 1) scLaw.nd rfl (Or.inl rfl)) ?b0
    case' b0 => refine' pss_cons ?q0 ?c1
    case' c1 => refine' pss_cons ?q1 ?c2
    case' c2 => refine' pss_cons ?q2 ?c3
    case' c3 => refine' pss_cons ?q3 ?c4
    case' c4 => refine' pss_cons ?q4 ?c5
    case' c5 => refine' pss_cons ?q5 ?c6
    case' c6 => refine' pss_cons ?q6 (pss_one ?q7)
    case q0 => exact ps_set (i := 2) scLaw.nd rfl (Or.inl rfl) (pe_lst (pa_cons (pv 1) pa_nil))
    case q1 => exact ps_set (i := 3) scLaw.nd rfl (Or.inl rfl) (pe_fn cLH hr3 (pa_cons (pv 2) (pa_cons pe_int pa_nil)))
    case q2 => exact ps_set (i := 4) scLaw.nd rfl (Or.inl rfl) (pe_fn cLT hr2 (pa_cons (pv 2) (pa_cons (pv 3) pa_nil)))
    case' q3 => refine' ps_for PassesOwn.never rfl (pi_list (pe_fn cB hr4 (pa_cons (pv 2) (pa_cons (pv 3) (pa_cons (pv 4) pa_nil))))) (pg_name (i := 6) scLaw.nd rfl (Or.inr rfl)) (pss_one (ps_if (pt_cmpR op_ne ?w1 pe_str (nomark _)) (pss_one (ps_ret pe_bl)) pss_nil))
    case w1 => exact pe_fnL (cl := cl1 s.heap.objs.size) (is := [6]) cW1 hr (pa_cons (pe_lam (P := T) (c := c) rfl clo1 rfl hC hbm) pa_nil) cel1 (fun _ _ => rfl) lcl1 lkd1 lkl1 rfl
    case q4 => exact ps_set (i := 8) scLaw.nd rfl (Or.inr rfl) (pe_mk cMk hr6 (pa_cons (pv 3) (pa_cons (pv 4) pa_nil)))
    case q5 => exact ps_set (i := 5) scLaw.nd rfl (Or.inl rfl) (pe_ix ix_tup (pe_ix ix_list (pv 3) (pe_fn cD hr1 (pa_cons (pv 2) (pa_cons (pe_callB call_len_seq (by rfl) B.len PySem.boot_len (pa_cons (pv 3) pa_nil)) pa_nil))) (fun _ _ => rfl)) pe_int (fun _ _ => rfl))
    case' q6 => refine' ps_for PassesOwn.never rfl (pi_list (pe_lst ?l0)) (pg_name (i := 7) scLaw.nd rfl (Or.inr rfl)) (pss_one (ps_if (pt_cmpR (op_notInP hu) (pv 7) (pe_mt0 cHn X.cl hr1 (pv 8)) (by with_unfolding_all rfl)) ?g0 pss_nil))
    case' l0 => refine' pa_cons (pe_fn cON hr2 (pa_cons (pv 2) (pa_cons (pv 5) pa_nil))) ?l1
    case' l1 => refine' pa_cons pe_str ?l2
    case' l2 => refine' pa_cons pe_non ?l3
    case' l3 => refine' pa_cons pe_int ?l4
    case' l4 => refine' pa_cons (pe_tup (pa_cons (pv 5) (pa_cons (pv 5) pa_nil))) ?l5
    case' l5 => refine' pa_cons (pe_lst (pa_cons (pv 5) pa_nil)) ?l6
    case l6 => exact pa_cons pe_bl (pa_cons pe_dnewK pa_nil)
    case' g0 => refine' pss_cons ?g1 (pss_cons ?g2 (pss_one ?g3))
    case' g1 => refine' ps_if (pt_cmpR op_ne ?w2 pe_str (nomark _)) (pss_one (ps_ret pe_bl)) pss_nil
    case w2 => exact pe_fnL (cl := cl2 s.heap.objs.size) (is := [8, 7]) cW2 hr4 (pa_cons (pe_lam (P := T) (c := c) rfl clo2 rfl hC hbm) pa_nil) cel2 (fun _ _ => rfl) lcl2 lkd2 lkl2 rfl
    case' g2 => refine' ps_if (pt_cmpR op_ne ?w3 pe_str (nomark _)) (pss_one (ps_ret pe_bl)) pss_nil
    case w3 => exact pe_fnL (cl := cl2 s.heap.objs.size) (is := [8, 7]) cW3 hr4 (pa_cons (pe_lam (P := T) (c := c) rfl clo3 rfl hC hbm) pa_nil) cel2 (fun _ _ => rfl) lcl2 lkd2 lkl2 rfl
    case g3 => exact ps_if (pw_or (pt_cmpR op_isNotB (pe_mt cTi X.cl hr2 (pv 8) (pa_cons (pv 7) (pa_cons (pv 5) pa_nil))) pe_bl (by with_unfolding_all rfl)) (pw_or1 (pt_cmpR op_isNotB (pe_mt cTi X.cl hr2 (pv 8) (pa_cons (pv 5) (pa_cons (pv 7) pa_nil))) pe_bl (by with_unfolding_all rfl)))).pt (pss_one (ps_ret pe_bl)) pss_nil
    case q7 => exact ps_if (pw_or (pt_cmpR op_isNotB (pe_mt cTi X.cl hr2 (pv 8) (pa_cons (pv 5) (pa_cons (pv 5) pa_nil))) pe_bl (by with_unfolding_all rfl)) (pw_or1 (pt_cmpR op_ne (pe_mt cSt X.cl hr2 (pv 8) (pa_cons (pv 5) pa_nil)) (pe_dget hu (pe_callTy (call_dictOf rfl) (by rfl) B.dict PyProof.Rows.Boot.«dict» (pa_cons (pv 3) pa_nil)) (pv 5) (fun _ _ => rfl)) (nomark _)))).pt (pss_one (ps_ret pe_bl)) pss_nil
    case' kk => skip
    have es0 : TabOk H T lq := ⟨[], hT, fun e he => by cases he⟩
    refine ⟨by show 1 <= sizeLine; decide, fun a1 n1 => ?_⟩
    have s1 := Same.new (o := .lst [.int 0]) n1
    have k1 : upd H a1 (.lst [.int 0]) a1 = some (.lst [.int 0]) := upd_same
    generalize upd H a1 (.lst [.int 0]) = H1 at s1 k1 ⊢
    refine ⟨_, rfl, _, rfl, ls, _, rfl, sqL_same s1 hls, fun a2 n2 => ?_⟩
    have s2 := Same.new (o := .lst (cutV (ns.map V.int) none (some 8))) n2
    have k2 : upd H1 a2 (.lst (cutV (ns.map V.int) none (some 8))) a2 = some (.lst (cutV (ns.map V.int) none (some 8))) := upd_same
    generalize upd H1 a2 (.lst (cutV (ns.map V.int) none (some 8))) = H2 at s2 k2 ⊢
    have lc := cutV_length (ns.map V.int) none (some 8)
    rw [List.length_map] at lc
    refine ⟨a1, a2, _, _, rfl, rfl, s2 _ _ k1, k2, by show 1 + (cutV (ns.map V.int) none (some 8)).length <= sizeLine; omega, fun a3 n3 => ?_⟩
    have s3 := Same.new (o := .lst ([.int 0] ++ cutV (ns.map V.int) none (some 8))) n3
    have k3 : upd H2 a3 (.lst ([.int 0] ++ cutV (ns.map V.int) none (some 8))) a3 = some (.lst ([.int 0] ++ cutV (ns.map V.int) none (some 8))) := upd_same
    generalize upd H2 a3 (.lst ([.int 0] ++ cutV (ns.map V.int) none (some 8))) = H0 at s3 k3 ⊢
    have tab0 : TabOk H0 T lq := es0.same ((s1.trans s2).trans s3)
    have allI : ∀ y ∈ [V.int 0] ++ cutV (ns.map V.int) none (some 8), ∃ n, y = .int n := fun y hy => by
      rcases List.mem_append.mp hy with hy | hy
      · exact ⟨0, List.mem_singleton.mp hy⟩
      · have hy : y ∈ ns.map V.int := by
          unfold cutV at hy
          exact List.mem_of_mem_drop (List.mem_of_mem_take hy)
        obtain ⟨n, _, rfl⟩ := List.mem_map.mp hy
        exact ⟨n, rfl⟩
    refine ⟨a3, rfl, ⟨_, .of k3⟩, for_list (K := K) (a := a3) (xs := [.int 0] ++ cutV (ns.map V.int) none (some 8)) (fun i σ H2 => ∃ (v1 v2 v3 v4 v5 v6 v7 v8 : Option V), NT H0 H2 /\ TabOk H2 T lq /\ σ = [some (.ref ls), v1, v2, v3, v4, v5, v6, v7, v8]) ⟨none, none, none, none, none, none, none, none, NT.of (Same.refl H0), tab0, rfl⟩ (fun i σ H2 _ ⟨_, _, _, _, _, _, _, _, nt, _, _⟩ => .of (nt _ _ k3 (by intro vs z; cases z))) ?_ ?_⟩
    rotate_left
    · rintro σ H2 ⟨v1, v2, v3, v4, v5, v6, v7, v8, nt, tab, rfl⟩
      exact k H2
    rintro i y σ H2 hy ⟨w1, w2, w3, w4, w5, w6, w7, w8, nt2, tab2, rfl⟩
    obtain ⟨n, rfl⟩ := allI y (List.mem_of_getElem? hy)
    clear hy s1 k1 s2 k2 n1 n2 n3 s3 es0 tab0 k
    refine ⟨_, rfl, by show 1 <= sizeLine; decide, fun l nl => ?_⟩
    have s3 := Same.new (o := .lst [.int n]) nl
    have st3 : stt (upd H2 l (.lst [.int n])) l := .inl ⟨n, upd_same⟩
    refine setG ?_
    dsimp only
    generalize upd H2 l (.lst [.int n]) = H3 at s3 st3 ⊢
    refine ⟨_, rfl, l, rfl, st3, fun lh yh hs H4 b4 st4 fr4 hlh tu g nd h1 h8 => ?_⟩
    have lhl : lh ≠ l := st3.ne fr4
    refine setG ?_
    dsimp only
    refine ⟨_, rfl, _, rfl, l, lh, yh, hs, rfl, st4, hlh, tu, fun x hx => ?_, nd, h8, lhl, fun lt yt ts H5 b5 st5 fr5 hlt tt tok tnd t64 => ?_⟩
    · obtain ⟨h, hh, rfl⟩ := List.mem_map.mp hx
      exact (g h hh).1
    have ltl : lt ≠ l := st4.ne fr5
    have W : Good hs ts := ⟨g, nd, h1, h8, fun t ht => (tok t ht).1, tnd, t64, fun t ht => (tok t ht).2⟩
    have X5 : HT K (wo l H5) lh lt yh yt hs ts := ⟨wo_at (b5 _ _ hlh lhl) lhl, (tups_wo tu st4).same b5.wo, wo_at hlt ltl, tups_wo tt st5⟩
    have s5 : Same H2 H5 := (b4.trans b5).same nl s3
    refine setG ?_
    dsimp only
    clear hlh tu hlt tt b4 b5 st4 fr4 fr5 s3 st3
    refine ⟨_, rfl, _, rfl, _, rfl, l, lh, lt, yh, yt, hs, ts, rfl, st5, X5, W, fun ab ps H6 b6 st6 fr6 hab lps okp => ?_⟩
    have s6 : Same H2 H6 := b6.same nl s5
    have X6 := X5.same b6.wo
    have tab6 := tab2.same s6
    have nt6 : NT H0 H6 := nt2.trans (NT.of s6)
    clear s5 X5 st5 b6
    refine ⟨ab, rfl, ⟨_, .of hab⟩, for_list (K := K) (a := ab) (xs := ps) (fun i σ H7 => ∃ v6, NT H6 H7 /\ TabOk H7 T lq /\ σ = [some (.ref ls), some (.int n), some (.ref l), some (.ref lh), some (.ref lt), w5, v6, w7, w8]) ⟨w6, NT.of (Same.refl H6), tab6, rfl⟩ (fun i σ H7 _ ⟨_, nt, _, _⟩ => .of (nt _ _ hab (by intro vs z; cases z))) ?_ ?_⟩
    · rintro j p σ H7 hp ⟨v6, nt7, tab7, rfl⟩
      obtain ⟨q, u1, u2, rfl, hq, bad⟩ := (okp p (List.mem_of_getElem? hp)).nt nt7
      refine setG ?_
      dsimp only
      refine ifAsk (ask_ok (gs := [.ref q]) (Cx := CN) (n := true) (h := false) mono1 rfl rfl rfl rfl tab7 rfl (.inl ⟨rfl, rfl, rfl⟩) (fun H8 nt8 => ?_) (fun H8 nt8 tab8 => ⟨rfl, _, rfl, iteNS rfl ⟨_, nt7.trans nt8, tab8, rfl⟩⟩))
      obtain ⟨q', u1', u2', e', hq', bad'⟩ := (BP.nt ⟨q, u1, u2, rfl, hq, bad⟩ nt8 : BP K H8 (.ref q))
      cases e'
      exact ⟨q, u1', u2', rfl, rfl, hq', bad', fun dd H9 s9 => ⟨rfl, s9⟩⟩
    rintro σ H7 ⟨v6, nt7, tab7, rfl⟩
    have st7 := st6.nt nt7
    have hlh7 := nt7 _ _ (wo_same _ _ X6.h) (by intro vs z; cases z)
    have hlt7 := nt7 _ _ (wo_same _ _ X6.t) (by intro vs z; cases z)
    have tu7 := TupsAt.nt (X6.th.same wo_same) nt7
    have tt7 := TupsAt.nt (X6.tt.same wo_same) nt7
    have nt07 : NT H0 H7 := nt6.trans nt7
    clear X6 tab6 nt6 hab okp st6 s6 nt7
    refine ⟨_, rfl, _, rfl, fun p dx hp hdx ne => ?_⟩
    have sa : Same H7 (upd H7 dx (.own p)) := Same.new hdx
    have sb : Same (upd H7 dx (.own p)) (upd (upd H7 dx (.own p)) p (.ins C dx [])) := Same.new (by rw [upd_ne (fun z => ne z.symm)]; exact hp)
    have sx := sa.trans sb
    have hpx : upd (upd H7 dx (.own p)) p (.ins C dx []) p = some (.ins C dx []) := upd_same
    generalize upd (upd H7 dx (.own p)) p (.ins C dx []) = Hx at sx hpx ⊢
    refine ⟨p, dx, lh, lt, yh, yt, hs, ts, rfl, hpx, sx _ _ hlh7, tu7.same sx, sx _ _ hlt7, tt7.same sx, W, fun fp H8 keep WA fresh => ⟨rfl, ?_⟩⟩
    have s8 : Same H7 H8 := fun b o e => keep b o (sx b o e) (ne_of_none e hp)
    have lfp : ∀ b ∈ fp, b ≠ l := fun b hb z => by
      obtain ⟨xs, e⟩ := st7.some
      rcases fresh b hb with q | q
      · rw [z] at q; rw [q, hp] at e; cases e
      · rw [z] at q; rw [sx _ _ e] at q; cases q
    have st8 := st7.same s8
    have W8 : WebAt K C (wo l H8) p hs ts fp := WA.keep (fun b hb o e => wo_at e (lfp b hb)) (fun b xs e => by
      obtain ⟨zs, e2⟩ := st8.some
      exact wo_at e (ne_of e e2 (by intro z; cases z)))
    have tab8 := tab7.same s8
    have hlh8 := wo_at (s8 _ _ hlh7) lhl
    have tu8 := tups_wo (tu7.same s8) st8
    have nt08 := nt07.trans (NT.of s8)
    refine setG ?_
    dsimp only
    clear sa sb sx hpx keep fresh WA hlt7 tt7 tab7 nt07 hlh7 tu7 st7 s8
    have lyh := Paired.length tu8
    rw [List.length_map] at lyh
    refine ⟨_, rfl, _, rfl, _, rfl, lh, _, rfl, .inl (.of (wo_same _ _ hlh8)), l, _, rfl, by omega, by omega, st8, fun r H9 r0 r1 b9 st9 => ?_⟩
    obtain ⟨h, q, hm, hat, hq⟩ := pick (tu8.same b9.wo) r0 r1
    have hq : wo l H9 q = some (.tup [.str h.1, .int h.2]) := hq
    have hlh9 := b9.wo _ _ hlh8
    refine ⟨lh, _, _, _, rfl, rfl, .of (wo_same _ _ hlh9), hat, q, _, _, _, rfl, rfl, .of (wo_same _ _ hq), rfl, ?_⟩
    have gx := (g h hm).1
    have hm1 : h.1 ∈ hs.map (·.1) := List.mem_map.mpr ⟨h, hm, rfl⟩
    refine setG ?_
    dsimp only
    have len2 : 2 <= sizeLine := by decide
    refine ⟨_, rfl, _, rfl, l, h.1, rfl, gx, st9, fun vo H10 b10 st10 ov => ?_⟩
    have ov : OddV H10 vo := ov.same nw_same
    have bb := b9.trans b10
    have W10 := (W8.same bb.wo).same wo_same
    have tab10 : TabOk H10 T lq := by
      obtain ⟨es, e1, e2⟩ := tab8
      obtain ⟨zs, e3⟩ := st8.some
      exact ⟨es, bb _ _ e1 (ne_of e1 e3 (by intro z; cases z)), fun x hx => bb _ _ (e2 x hx) (ne_of (e2 x hx) e3 (by intro z; cases z))⟩
    have nt010 : NT H0 H10 := fun b o e n => bb _ _ (nt08 b o e n) (fun z => by
      rw [z] at e
      have q := nt2 _ _ e n
      rw [nl] at q
      cases q)
    have hlh10 := wo_same _ _ (bb.wo _ _ hlh8)
    have tu10 := (tu8.same bb.wo).same wo_same
    clear hq hlh9 hat b9 b10 bb st8 st9 W8 tab8 hlh8 tu8 nt08 lfp
    refine ⟨_, rfl, _, rfl, len2, fun t1 m1 => ?_⟩
    have s11 := Same.new (o := .tup [.str h.1, .str h.1]) m1
    have k11 : upd H10 t1 (.tup [.str h.1, .str h.1]) t1 = some (.tup [.str h.1, .str h.1]) := upd_same
    generalize upd H10 t1 (.tup [.str h.1, .str h.1]) = H11 at s11 k11 ⊢
    refine ⟨_, rfl, by show 1 <= sizeLine; decide, fun t2 m2 => ?_⟩
    have s12 := Same.new (o := .lst [.str h.1]) m2
    have k12 : upd H11 t2 (.lst [.str h.1]) t2 = some (.lst [.str h.1]) := upd_same
    generalize upd H11 t2 (.lst [.str h.1]) = H12 at s12 k12 ⊢
    intro t3 m3
    have s13 := Same.new (o := .dK []) m3
    have k13 : upd H12 t3 (.dK []) t3 = some (.dK []) := upd_same
    generalize upd H12 t3 (.dK []) = H13 at s13 k13 ⊢
    refine ⟨by show 8 <= sizeLine; decide, fun lo m4 => ?_⟩
    have s14 := Same.new (o := .lst [vo, .str "", .non, .int 7, .ref t1, .ref t2, .bl true, .ref t3]) m4
    have k14 : upd H13 lo (.lst [vo, .str "", .non, .int 7, .ref t1, .ref t2, .bl true, .ref t3]) lo = some (.lst [vo, .str "", .non, .int 7, .ref t1, .ref t2, .bl true, .ref t3]) := upd_same
    generalize upd H13 lo (.lst [vo, .str "", .non, .int 7, .ref t1, .ref t2, .bl true, .ref t3]) = H14 at s14 k14 ⊢
    have sA : Same H10 H14 := ((s11.trans s12).trans s13).trans s14
    have odds : ∀ v ∈ [vo, .str "", .non, .int 7, .ref t1, .ref t2, .bl true, .ref t3], OddL H14 v := fun v hv => by
      simp only [List.mem_cons, List.not_mem_nil, or_false] at hv
      rcases hv with rfl | rfl | rfl | rfl | rfl | rfl | rfl | rfl
      · exact .inl (ov.same sA)
      · exact .inl (.inl ⟨_, rfl, by decide +kernel, by decide +kernel⟩)
      · exact .inl (.inr (.inl rfl))
      · exact .inl (.inr (.inr (.inl rfl)))
      · exact .inr (.inl ⟨t1, _, rfl, s14 _ _ (s13 _ _ (s12 _ _ k11))⟩)
      · exact .inl (.inr (.inr (.inr (.inr ⟨t2, _, rfl, s14 _ _ (s13 _ _ k12)⟩))))
      · exact .inl (.inr (.inr (.inr (.inl rfl))))
      · exact .inr (.inr ⟨t3, rfl, s14 _ _ k13⟩)
    have W14 := W10.same sA
    have tab14 := tab10.same sA
    have hlh14 := sA _ _ hlh10
    have tu14 := tu10.same sA
    have nt014 := nt010.trans (NT.of sA)
    clear s11 k11 s12 k12 s13 k13 s14 m1 m2 m3 m4 sA W10 tab10 hlh10 tu10 nt010 ov st10
    refine ⟨lo, rfl, ⟨_, .of k14⟩, for_list (K := K) (a := lo) (xs := [vo, .str "", .non, .int 7, .ref t1, .ref t2, .bl true, .ref t3]) (fun i σ H15 => ∃ v7, NT H14 H15 /\ TabOk H15 T lq /\ σ = [some (.ref ls), some (.int n), some (.ref l), some (.ref lh), some (.ref lt), some (.str h.1), v6, v7, some (.ref p)]) ⟨w7, NT.of (Same.refl H14), tab14, rfl⟩ (fun i σ H15 _ ⟨_, nt, _, _⟩ => .of (nt _ _ k14 (by intro vs z; cases z))) ?_ ?_⟩
    · rintro j v σ H15 hv ⟨v7, nt15, tab15, rfl⟩
      have ol := odds v (List.mem_of_getElem? hv)
      refine setG ?_
      dsimp only
      have W15 := W14.nt nt15
      obtain ⟨dx', d1, l2, d3, zs, as, efp, hi1, _⟩ := id W15.ex
      refine ⟨_, rfl, _, rfl, p, dx', _, rfl, hi1, flds_no _ _ _ (by decide +kernel) (by decide +kernel) (by decide +kernel), p, hs, ts, fp, rfl, W15, fun ln nln => ?_⟩
      have s16 := Same.new (o := .lst ((nmsOf hs).map V.str)) nln
      have k16 : upd H15 ln (.lst ((nmsOf hs).map V.str)) ln = some (.lst ((nmsOf hs).map V.str)) := upd_same
      generalize upd H15 ln (.lst ((nmsOf hs).map V.str)) = H16 at s16 k16 ⊢
      have nt16 := nt15.trans (NT.of s16)
      have tab16 := tab15.same s16
      refine OddL.notIn (ol.nt nt16) g k16 ⟨_, rfl, iteT ?_⟩
      have ask : ∀ (H' H1 : Hp), NT H14 H' -> NT H' H1 -> spL2 K C CH [] [.ref p, v] H1 (fun _ _ => False) (fun cls _ H2 => cls = .ref CH /\ Same H1 H2) := fun H' H1 a b => ⟨p, v, hs, ts, fp, rfl, rfl, W14.nt (a.trans b), (ol.nt (a.trans b)).no g, fun dd => ⟨rfl, Same.refl H1⟩⟩
      refine ifAsk (ask_ok (gs := [.ref p, v]) (Cx := CH) (n := false) (h := true) mono2 rfl rfl rfl rfl tab16 rfl (.inr ⟨rfl, rfl, rfl⟩) (fun H8 nt8 => ask _ _ nt16 nt8) (fun H17 nt8 tab17 => ⟨rfl, _, rfl, iteNS rfl ?_⟩))
      have nt17 := nt16.trans nt8
      refine ifAsk (ask_ok (gs := [.ref p, v]) (Cx := CH) (n := false) (h := true) mono2 rfl rfl rfl rfl tab17 rfl (.inr ⟨rfl, rfl, rfl⟩) (fun H8 nt8 => ask _ _ nt17 nt8) (fun H18 nt9 tab18 => ⟨rfl, _, rfl, iteNS rfl ?_⟩))
      have nt18 := nt17.trans nt9
      have W18 := W14.nt nt18
      obtain ⟨x, sv, ex⟩ := ((ol.nt nt18).no (K := K) g).no
      obtain ⟨dx', d1, l2, d3, zs, as, efp, hi1, _⟩ := id W18.ex
      have fno := flds_no d1 l2 d3 (m := "are_tied") (by decide +kernel) (by decide +kernel) (by decide +kernel)
      refine ⟨_, rfl, p, dx', _, rfl, hi1, fno, _, rfl, _, rfl, .inr ⟨p, v, .str h.1, x, some h.1, hs, ts, fp, rfl, W18, sv, rfl, by rw [ex, Bool.false_and], _, _, rfl, rfl, _, rfl, iteF ?_⟩⟩
      refine ⟨_, rfl, p, dx', _, rfl, hi1, fno, _, rfl, _, rfl, .inr ⟨p, .str h.1, v, some h.1, x, hs, ts, fp, rfl, W18, rfl, sv, by rw [ex, Bool.and_false], _, _, rfl, rfl, _, rfl, iteF ?_⟩⟩
      exact ⟨_, nt18, tab18, rfl⟩
    rintro σ H15 ⟨v7, nt15, tab15, rfl⟩
    have W15 := W14.nt nt15
    obtain ⟨dx', d1, l2, d3, zs, as, efp, hi1, _⟩ := id W15.ex
    have hlh15 := nt15 _ _ hlh14 (by intro vs z; cases z)
    have tu15 := TupsAt.nt tu14 nt15
    refine ⟨_, rfl, p, dx', _, rfl, hi1, flds_no _ _ _ (by decide +kernel) (by decide +kernel) (by decide +kernel), _, rfl, _, rfl, .inl ⟨p, h.1, h.1, hs, ts, fp, rfl, W15, W.nnd, hm1, hm1, _, _, rfl, rfl, _, rfl, ?_⟩⟩
    rw [no_self W h.1]
    refine iteF ?_
    refine ⟨_, rfl, p, dx', _, rfl, hi1, flds_no _ _ _ (by decide +kernel) (by decide +kernel) (by decide +kernel), _, rfl, p, h.1, h.2, hs, ts, fp, rfl, W15, nd, hm, ?_⟩
    refine ⟨_, rfl, lh, yh, _, rfl, hlh15, pairs_hs (K := K) hs yh tu15, by rw [List.length_map]; omega, fun d nd' => ?_⟩
    have kn : ((hs.map fun h => ((Sum.inr h.1 : Key), V.int h.2)).map (·.1)).Nodup := by
      have e : ((hs.map fun h => ((Sum.inr h.1 : Key), V.int h.2)).map (·.1)) = (hs.map (·.1)).map Sum.inr := by rw [List.map_map, List.map_map]; rfl
      rw [e, List.nodup_iff_pairwise_ne, List.pairwise_map]
      exact (List.nodup_iff_pairwise_ne.mp nd).imp fun n e => n (Sum.inr.inj e)
    rw [mergeK_nil kn]
    have s16 := Same.new (o := .dK (hs.map fun h => ((Sum.inr h.1 : Key), V.int h.2))) nd'
    refine ⟨_, rfl, d, .int h.2, rfl, ?_, rfl, _, rfl, iteNS rfl ?_⟩
    · rw [<- valV_hs nd hm]
      exact .k (k := Sum.inr h.1) upd_same
    exact ⟨_, _, _, _, _, _, _, _, (nt014.trans nt15).trans (NT.of s16), tab15.same s16, rfl⟩
end
end Ev
set_option Elab.async false
set_option linter.all false
set_option maxRecDepth 100000
namespace Ev
open PySem L2
structure Fd (K : PySem.W.Frag) (mg : Str -> Option Value) (x : Str) (st : Stmt) : Prop where
  ex : ∃ f fd, Fun K x x st f fd /\ mg x = some (.ref f) /\ PySem.W.keepIn K (.ref f) = true
theorem fd_mk {K : PySem.W.Frag} {h : Heap} {mg : Str -> Option Value} {x : Str} {st : Stmt} (X : K.In h) (G : h.Ns mainGlobals mg) {f : Addr} {oc : Value} {od an : Option Addr} {osl : Array (Option Value)} {kV doc pm cdv ct : Value} (a : PySem.W.nsIn K mainGlobals x = some (some (.ref f)))
    (l : K.lookup f = some ⟨oc, od, .func (PySem.W.fnOf x x (defArgs st) (defBody st) (defScope st) .none kV doc pm an cdv ct), osl⟩) (c : PySem.W.codeIn K cdv x = true) (k : PySem.W.keepIn K (.ref f) = true) : Fd K mg x st := ⟨_, _, fun_mk l c k, PySem.W.mg_of X G a, k⟩
structure Md (K : PySem.W.Frag) (C : Addr) (m qual : Str) (st : Stmt) : Prop where
  ex : ∃ f fd, Fun K m qual st f fd /\ Meth K C m f
theorem md_mk {K : PySem.W.Frag} {C : Addr} {m qual : Str} {st : Stmt} {f : Addr} {oc : Value} {od an : Option Addr} {osl : Array (Option Value)} {kV doc pm cdv ct : Value} (a : PySem.W.findIn K (.ref C) m = some (some (.ref f))) (i : PySem.W.isFn K (.ref f) = true)
    (l : K.lookup f = some ⟨oc, od, .func (PySem.W.fnOf m qual (defArgs st) (defBody st) (defScope st) .none kV doc pm an cdv ct), osl⟩) (c : PySem.W.codeIn K cdv qual = true) (k : PySem.W.keepIn K (.ref f) = true) : Md K C m qual st := ⟨_, _, fun_mk l c k, a, i, k⟩
theorem cal {P : Program} {w : World} {K : PySem.W.Frag} {mg : Str -> Option Value} {base : Heap} {x : Str} {st : Stmt} {k : Nat} {ps : List Str} {sp : Sp} (d : Fd K mg x st) (ok : ∀ f fd, Fun K x x st f fd -> FnOk P w K mg base CX0 k f fd ps sp)
    (h : ∀ (kV doc pm : Value) (an : Option Addr) (cdv ct : Value) (us : List Value), us.length = ps.length -> bindArgs (PySem.W.fnOf x x (defArgs st) (defBody st) (defScope st) .none kV doc pm an cdv ct) ⟨us, []⟩ = pure (ps.zip us)) : Cal P w K mg base k x ps sp := by
  obtain ⟨f, fd, F, m, kp⟩ := d.ex
  exact ⟨f, fd, ok f fd F, m, kp, F.binds h⟩
theorem calM {P : Program} {w : World} {K : PySem.W.Frag} {mg : Str -> Option Value} {base : Heap} {C : Addr} {m qual : Str} {st : Stmt} {k : Nat} {ps : List Str} {sp : Sp} (d : Md K C m qual st) (ok : ∀ f fd, Fun K m qual st f fd -> FnOk P w K mg base CX0 k f fd ps sp)
    (h : ∀ (kV doc pm : Value) (an : Option Addr) (cdv ct : Value) (us : List Value), us.length = ps.length -> bindArgs (PySem.W.fnOf m qual (defArgs st) (defBody st) (defScope st) .none kV doc pm an cdv ct) ⟨us, []⟩ = pure (ps.zip us)) : CalM P w K mg base C k m ps sp := by
  obtain ⟨f, fd, F, m⟩ := d.ex
  exact ⟨f, fd, ok f fd F, m, F.binds h⟩
theorem calC {P : Program} {w : World} {K : PySem.W.Frag} {mg : Str -> Option Value} {base : Heap} {C : Addr} {x qual : Str} {st : Stmt} {k : Nat} {ps : List Str} {sp : Sp} (d : Md K C "__init__" qual st) (hx : mg x = some (.ref C)) (mk : PySem.W.makesIn K C = true) (kc : PySem.W.keepIn K (.ref C) = true) (ok : ∀ f fd, Fun K "__init__" qual st f fd -> FnOk P w K mg base CX0 k f fd ps sp)
    (h : ∀ (kV doc pm : Value) (an : Option Addr) (cdv ct : Value) (us : List Value), us.length = ps.length -> bindArgs (PySem.W.fnOf "__init__" qual (defArgs st) (defBody st) (defScope st) .none kV doc pm an cdv ct) ⟨us, []⟩ = pure (ps.zip us)) : CalC P w K mg base C k x ps sp := by
  obtain ⟨f, fd, F, m⟩ := d.ex
  exact ⟨f, fd, ok f fd F, ⟨mk, m.1, m.2, kc⟩, hx, F.binds h⟩
theorem calG {P : Program} {w : World} {K : PySem.W.Frag} {mg : Str -> Option Value} {base : Heap} {x : Str} {st : Stmt} {k : Nat} {ps : List Str} {sp : Sp} (d : Fd K mg x st) (ok : ∀ f fd, Fun K x x st f fd -> FnOk P w K mg base (CX2 P w) k f fd ps sp)
    (h : ∀ (kV doc pm : Value) (an : Option Addr) (cdv ct : Value) (us : List Value), us.length = ps.length -> bindArgs (PySem.W.fnOf x x (defArgs st) (defBody st) (defScope st) .none kV doc pm an cdv ct) ⟨us, []⟩ = pure (ps.zip us))   : CalG P w K mg base k x ps sp := by
  obtain ⟨f, fd, F, m, kp⟩ := d.ex
  exact ⟨f, fd, ok f fd F, m, kp, F.binds h⟩
theorem calMG {P : Program} {w : World} {K : PySem.W.Frag} {mg : Str -> Option Value} {base : Heap} {C : Addr} {m qual : Str} {st : Stmt} {k : Nat} {ps : List Str} {sp : Sp} (d : Md K C m qual st) (ok : ∀ f fd, Fun K m qual st f fd -> FnOk P w K mg base (CX2 P w) k f fd ps sp)
    (h : ∀ (kV doc pm : Value) (an : Option Addr) (cdv ct : Value) (us : List Value), us.length = ps.length -> bindArgs (PySem.W.fnOf m qual (defArgs st) (defBody st) (defScope st) .none kV doc pm an cdv ct) ⟨us, []⟩ = pure (ps.zip us))   : CalMG P w K mg base C k m ps sp := by
  obtain ⟨f, fd, F, m⟩ := d.ex
  exact ⟨f, fd, ok f fd F, m, F.binds h⟩
theorem calCG {P : Program} {w : World} {K : PySem.W.Frag} {mg : Str -> Option Value} {base : Heap} {C : Addr} {x qual : Str} {st : Stmt} {k : Nat} {ps : List Str} {sp : Sp} (d : Md K C "__init__" qual st) (hx : mg x = some (.ref C)) (mk : PySem.W.makesIn K C = true) (kc : PySem.W.keepIn K (.ref C) = true) (ok : ∀ f fd, Fun K "__init__" qual st f fd -> FnOk P w K mg base (CX2 P w) k f fd ps sp)
    (h : ∀ (kV doc pm : Value) (an : Option Addr) (cdv ct : Value) (us : List Value), us.length = ps.length -> bindArgs (PySem.W.fnOf "__init__" qual (defArgs st) (defBody st) (defScope st) .none kV doc pm an cdv ct) ⟨us, []⟩ = pure (ps.zip us))   : CalCG P w K mg base C k x ps sp := by
  obtain ⟨f, fd, F, m⟩ := d.ex
  exact ⟨f, fd, ok f fd F, ⟨mk, m.1, m.2, kc⟩, hx, F.binds h⟩
def pick13 (o0 o1 o2 o3 o4 o5 o6 o7 o8 o9 o10 o11 o12 : Addr) : Nat -> Addr := fun i => [o0, o1, o2, o3, o4, o5, o6, o7, o8, o9, o10, o11, o12].getD i 0
set_option maxHeartbeats 1600000 in
theorem all_mk {l : PySem.W.OpenLaw} {w : World} {K : PySem.W.Frag} {h : Heap} {mg : Str -> Option Value} {fa CW fl c T CE CN CH o0 o1 o2 o3 o4 o5 o6 o7 o8 o9 o10 o11 o12 : Addr} (X : K.In h) (G : h.Ns mainGlobals mg) (hfa : mg "law" = some (.ref fa))
    (f0 : Fd K mg "is_whole" sIsW)
    (f1 : Fd K mg "is_whole_within" sWhole)
    (f2 : Fd K mg "is_name" sName)
    (f3 : Fd K mg "lesser_first" sLesser)
    (f4 : Fd K mg "is_pair_of_names" sPair)
    (f5 : Fd K mg "sorted_ties" sSorted)
    (f6 : Fd K mg "is_hand_with_strength" sHand)
    (f7 : Fd K mg "checked_strengths" sStr)
    (f8 : Fd K mg "checked_ties" sTies)
    (f9 : Fd K mg "neighbours_of_all" sNear)
    (f10 : Fd K mg "_law_digit" sDigit)
    (f11 : Fd K mg "_law_name" sLName)
    (f12 : Fd K mg "_law_hands" sLHands)
    (f13 : Fd K mg "_law_ties" sLTies)
    (f14 : Fd K mg "_law_word" sWord)
    (f15 : Fd K mg "_law_odd_name" sOddN)
    (f16 : Fd K mg "_law_odd_hand" sOddH)
    (f17 : Fd K mg "_law_odd_tie" sOddT)
    (f18 : Fd K mg "_law_put" sPut)
    (f19 : Fd K mg "_law_bad" sBad)
    (m0 : Md K CW "__init__" "Web.__init__" sInit)
    (m1 : Md K CW "has_hand" "Web.has_hand" sHas)
    (m2 : Md K CW "hands" "Web.hands" sHands)
    (m3 : Md K CW "strength" "Web.strength" sStrength)
    (m4 : Md K CW "neighbours" "Web.neighbours" sNeigh)
    (m5 : Md K CW "are_tied" "Web.are_tied" sTied)
    {ocl kVl dcl pml ctl : Value} {odl anl : Option Addr} {sll : Array (Option Value)} {t8 t9 t10 : Tok}
    (al : PySem.W.nsIn K mainGlobals "law" = some (some (.ref fl))) (ll : K.lookup fl = some ⟨ocl, odl, .func (PySem.W.fnOf "law" "law" (defArgs sLaw) (defBody sLaw) (defScope sLaw) .none kVl dcl pml anl (.ref c) ctl), sll⟩) (cl : PySem.W.codeIn K (.ref c) "law" = true) (ch : PySem.W.codeHdIn K c T = true)
    (aW : PySem.W.nsIn K mainGlobals "Web" = some (some (.ref CW)))
    (c8 : PySem.W.nsIn K mainGlobals "MOST_LETTERS" = some (some (.int 8 t8))) (c9 : PySem.W.nsIn K mainGlobals "MOST_HANDS" = some (some (.int 8 t9))) (c10 : PySem.W.nsIn K mainGlobals "MOST_STRENGTH" = some (some (.int 1000 t10)))
    (wpg : PySem.W.plainGet K CW Str.empty = true) (whd : PySem.W.hasDictIn K CW = true) (wpo : PySem.W.plainOver K CW = true) (wsa : PySem.W.findIn K (.ref CW) "__setattr__" = some (some (.builtin "object.__setattr__"))) (wmk : PySem.W.makesIn K CW = true) (wkc : PySem.W.keepIn K (.ref CW) = true)
    (nS : PySem.W.findIn K (.ref CW) "strength_by_hand" = some none) (nP : PySem.W.findIn K (.ref CW) "sorted_pairs" = some none) (nN : PySem.W.findIn K (.ref CW) "neighbours_by_hand" = some none)
    (z0 : PySem.W.nsIn K mainGlobals "isinstance" = some none) (z1 : PySem.W.nsIn K mainGlobals "int" = some none) (z2 : PySem.W.nsIn K mainGlobals "bool" = some none) (z3 : PySem.W.nsIn K mainGlobals "str" = some none) (z4 : PySem.W.nsIn K mainGlobals "tuple" = some none) (z5 : PySem.W.nsIn K mainGlobals "list" = some none) (z6 : PySem.W.nsIn K mainGlobals "dict" = some none) (z7 : PySem.W.nsIn K mainGlobals "len" = some none) (z8 : PySem.W.nsIn K mainGlobals "all" = some none) (z9 : PySem.W.nsIn K mainGlobals "sorted" = some none) (z10 : PySem.W.nsIn K mainGlobals "max" = some none) (z11 : PySem.W.nsIn K mainGlobals "range" = some none) (z12 : PySem.W.nsIn K mainGlobals "any" = some none) (z13 : PySem.W.nsIn K mainGlobals "enumerate" = some none) (zV : PySem.W.nsIn K mainGlobals "ValueError" = some none)
    (eE : PySem.W.nsIn K mainGlobals "EvenError" = some (some (.ref CE))) (eN : PySem.W.nsIn K mainGlobals "NoWeb" = some (some (.ref CN))) (xN : PySem.W.excIn K CN [.type "ValueError", .type "Exception", .type "BaseException", .type "object"] "ValueError.__new__" = true) (eH : PySem.W.nsIn K mainGlobals "NoHand" = some (some (.ref CH))) (xH : PySem.W.excIn K CH [.type "ValueError", .type "Exception", .type "BaseException", .type "object"] "ValueError.__new__" = true)
    (y0 : PySem.W.nsIn K mainGlobals "NoFraction" = some (some (.ref o0))) (y1 : PySem.W.nsIn K mainGlobals "NoGoods" = some (some (.ref o1))) (y2 : PySem.W.nsIn K mainGlobals "NoMoment" = some (some (.ref o2))) (y3 : PySem.W.nsIn K mainGlobals "NoMost" = some (some (.ref o3))) (y4 : PySem.W.nsIn K mainGlobals "NoMove" = some (some (.ref o4))) (y5 : PySem.W.nsIn K mainGlobals "NoPiece" = some (some (.ref o5))) (y6 : PySem.W.nsIn K mainGlobals "NoRow" = some (some (.ref o6))) (y7 : PySem.W.nsIn K mainGlobals "NoRule" = some (some (.ref o7))) (y8 : PySem.W.nsIn K mainGlobals "NoStand" = some (some (.ref o8))) (y9 : PySem.W.nsIn K mainGlobals "NotLetBy" = some (some (.ref o9))) (y10 : PySem.W.nsIn K mainGlobals "NoText" = some (some (.ref o10))) (y11 : PySem.W.nsIn K mainGlobals "NoWeight" = some (some (.ref o11))) (y12 : PySem.W.nsIn K mainGlobals "NoYard" = some (some (.ref o12)))
    (rn : wrd1 K CE CN CH (pick13 o0 o1 o2 o3 o4 o5 o6 o7 o8 o9 o10 o11 o12) CN true false = true) (rh : wrd1 K CE CN CH (pick13 o0 o1 o2 o3 o4 o5 o6 o7 o8 o9 o10 o11 o12) CH false true = true) :
    ∃ fd : FuncData, (∀ (s : Shared) (v : Value), BindsTo s fd ⟨[v], []⟩ [("_law_script", v)]) /\ (∀ T' ∈ [T], isCodeTable h T') /\ ∀ base : Heap, K.In base -> base.Ns mainGlobals mg -> (∀ T' ∈ [T], base.BuiltinsAt mg T') -> FnOk l.prog w K mg base CX0 9 fa fd ["_law_script"] (spLaw K T) := by
  have e := hfa.symm.trans (PySem.W.mg_of X G al)
  cases e
  have B : Bi mg := ⟨PySem.W.mg_none_of X G z0, PySem.W.mg_none_of X G z1, PySem.W.mg_none_of X G z2, PySem.W.mg_none_of X G z3, PySem.W.mg_none_of X G z4, PySem.W.mg_none_of X G z5, PySem.W.mg_none_of X G z6, PySem.W.mg_none_of X G z7, PySem.W.mg_none_of X G z8, PySem.W.mg_none_of X G z9, PySem.W.mg_none_of X G z10, PySem.W.mg_none_of X G z11, PySem.W.mg_none_of X G z12, PySem.W.mg_none_of X G z13⟩
  have TW : Txt K mg CW := ⟨⟨wpg, whd, wpo, wsa⟩, nS, nP, nN⟩
  have RN : Ref K mg "NoWeb" CN := ⟨PySem.W.mg_of X G eN, xN⟩
  have RH : Ref K mg "NoHand" CH := ⟨PySem.W.mg_of X G eH, xH⟩
  have R : Wd K mg CE CN CH (pick13 o0 o1 o2 o3 o4 o5 o6 o7 o8 o9 o10 o11 o12) := ⟨PySem.W.mg_of X G eE, RN, RH, PySem.W.mg_of X G y0, PySem.W.mg_of X G y1, PySem.W.mg_of X G y2, PySem.W.mg_of X G y3, PySem.W.mg_of X G y4, PySem.W.mg_of X G y5, PySem.W.mg_of X G y6, PySem.W.mg_of X G y7, PySem.W.mg_of X G y8, PySem.W.mg_of X G y9, PySem.W.mg_of X G y10, PySem.W.mg_of X G y11, PySem.W.mg_of X G y12, rn, rh⟩
  refine ⟨PySem.W.fnOf "law" "law" (defArgs sLaw) (defBody sLaw) (defScope sLaw) .none kVl dcl pml anl (.ref c) ctl, fun s v => .of_eq rfl, fun T' hT' => ?_, fun base KB _ hbm => ?_⟩
  · obtain rfl : T' = T := by simpa using hT'
    obtain ⟨o, vs', file, tf, flags, tg, inF, text, tt, h1, h2, h3, h4, _⟩ := PySem.W.codeHd_of_K X ch
    exact ⟨c, o, vs', h1, h2, h3, h4⟩
  have cIsW : Cal l.prog w K mg base 1 "is_whole" ["thing"] (spIsW K) := cal f0 (fun _ _ F => ok_isW F B) (fun _ _ _ _ _ _ us hl => match us, hl with | [_], _ => rfl)
  have cWhA : Cal l.prog w K mg base 2 "is_whole_within" ["thing", "least", "most"] (spWholeA K) := cal f1 (fun _ _ F => ok_wholeA F cIsW) (fun _ _ _ _ _ _ us hl => match us, hl with | [_, _, _], _ => rfl)
  have cNmA : Cal l.prog w K mg base 1 "is_name" ["thing"] (spNameA K) := cal f2 (fun _ _ F => ok_nameA F B (PySem.W.mg_of X G c8)) (fun _ _ _ _ _ _ us hl => match us, hl with | [_], _ => rfl)
  have cWh := cWhA.imp (sp' := spWhole) fun _ _ _ _ h => whole_of h
  have cNm := cNmA.imp (sp' := spName) fun _ _ _ _ h => name_of h
  have cLsr : Cal l.prog w K mg base 1 "lesser_first" ["one", "other"] spLesser := cal f3 (fun _ _ F => ok_lesser F) (fun _ _ _ _ _ _ us hl => match us, hl with | [_, _], _ => rfl)
  have cPair : Cal l.prog w K mg base 2 "is_pair_of_names" ["thing"] (spPairA K) := cal f4 (fun _ _ F => ok_pairA F B cNmA) (fun _ _ _ _ _ _ us hl => match us, hl with | [_], _ => rfl)
  have cSoA : Cal l.prog w K mg base 3 "sorted_ties" ["ties"] (spSortedA K) := cal f5 (fun _ _ F => ok_sortedA F B cPair cLsr) (fun _ _ _ _ _ _ us hl => match us, hl with | [_], _ => rfl)
  have cSo := cSoA.imp (sp' := spSorted K) fun _ _ _ _ h => .inl h
  have cHd : Cal l.prog w K mg base 3 "is_hand_with_strength" ["thing"] spHand := cal f6 (fun _ _ F => ok_hand F B cNm cWh (PySem.W.mg_of X G c10)) (fun _ _ _ _ _ _ us hl => match us, hl with | [_], _ => rfl)
  have cHdA : Cal l.prog w K mg base 3 "is_hand_with_strength" ["thing"] (spHandA K) := cal f6 (fun _ _ F => ok_handA F B cNmA cWhA (PySem.W.mg_of X G c10)) (fun _ _ _ _ _ _ us hl => match us, hl with | [_], _ => rfl)
  have cStr : Cal l.prog w K mg base 4 "checked_strengths" ["hands"] (spStr K) := cal f7 (fun _ _ F => ok_str F B cHd (PySem.W.mg_of X G c9)) (fun _ _ _ _ _ _ us hl => match us, hl with | [_], _ => rfl)
  have gStr : CalG l.prog w K mg base 4 "checked_strengths" ["hands"] (spStrG K CN) := calG f7 (fun _ _ F => (ok_str F B cHd (PySem.W.mg_of X G c9)).up.or (ok_strN F B RN cHdA (PySem.W.mg_of X G c9)).toX2) (fun _ _ _ _ _ _ us hl => match us, hl with | [_], _ => rfl)
  have cTies : Cal l.prog w K mg base 4 "checked_ties" ["ties", "strengths"] (spTies K) := cal f8 (fun _ _ F => ok_ties F B cSo) (fun _ _ _ _ _ _ us hl => match us, hl with | [_, _], _ => rfl)
  have gTies : CalG l.prog w K mg base 4 "checked_ties" ["ties", "strengths"] (spTiesG K CN) := calG f8 (fun _ _ F => (ok_tiesN F B RN cSoA).toX2) (fun _ _ _ _ _ _ us hl => match us, hl with | [_, _], _ => rfl)
  have cNear : Cal l.prog w K mg base 2 "neighbours_of_all" ["names", "ties"] (spNear K) := cal f9 (fun _ _ F => ok_near F cLsr) (fun _ _ _ _ _ _ us hl => match us, hl with | [_, _], _ => rfl)
  have cWeb : CalC l.prog w K mg base CW 5 "Web" ["self", "hands", "ties"] (spInit K CW) := calC m0 (PySem.W.mg_of X G aW) wmk wkc (fun _ _ F => ok_init F TW B cStr cTies cNear) (fun _ _ _ _ _ _ us hl => match us, hl with | [_, _, _], _ => rfl)
  have gWeb : CalCG l.prog w K mg base CW 5 "Web" ["self", "hands", "ties"] (spInitN K CW CN) := calCG m0 (PySem.W.mg_of X G aW) wmk wkc (fun _ _ F => ok_initN F gStr gTies) (fun _ _ _ _ _ _ us hl => match us, hl with | [_, _, _], _ => rfl)
  have mHas : CalM l.prog w K mg base CW 1 "has_hand" ["self", "thing"] (spHas K CW) := calM m1 (fun _ _ F => ok_has F TW B) (fun _ _ _ _ _ _ us hl => match us, hl with | [_, _], _ => rfl)
  have mHasA : CalM l.prog w K mg base CW 1 "has_hand" ["self", "thing"] (spHasA K CW) := calM m1 (fun _ _ F => ok_hasA F TW B) (fun _ _ _ _ _ _ us hl => match us, hl with | [_, _], _ => rfl)
  have mHands : CalM l.prog w K mg base CW 1 "hands" ["self"] (spHands K CW) := calM m2 (fun _ _ F => ok_hands F TW B) (fun _ _ _ _ _ _ us hl => match us, hl with | [_], _ => rfl)
  have mStr : CalM l.prog w K mg base CW 2 "strength" ["self", "hand"] (spStrength K CW) := calM m3 (fun _ _ F => ok_strength F TW mHas) (fun _ _ _ _ _ _ us hl => match us, hl with | [_, _], _ => rfl)
  have gSt : CalMG l.prog w K mg base CW 2 "strength" ["self", "hand"] (spAskG K CW CH) := calMG m3 (fun _ _ F => (ok_strengthN F TW RH mHasA).toX2) (fun _ _ _ _ _ _ us hl => match us, hl with | [_, _], _ => rfl)
  have gNe : CalMG l.prog w K mg base CW 2 "neighbours" ["self", "hand"] (spAskG K CW CH) := calMG m4 (fun _ _ F => (ok_neighN F TW RH mHasA).toX2) (fun _ _ _ _ _ _ us hl => match us, hl with | [_, _], _ => rfl)
  have mTi : CalM l.prog w K mg base CW 2 "are_tied" ["self", "one", "other"] (spTi K CW) := calM m5 (fun _ _ F => (ok_tied F TW mHas).or (ok_tiedN F TW mHasA)) (fun _ _ _ _ _ _ us hl => match us, hl with | [_, _, _], _ => rfl)
  have cDig : Cal l.prog w K mg base 1 "_law_digit" ["_law_state", "_law_base"] spDigit := cal f10 (fun _ _ F => ok_digit F B) (fun _ _ _ _ _ _ us hl => match us, hl with | [_, _], _ => rfl)
  have cLN : Cal l.prog w K mg base 2 "_law_name" ["_law_state"] spLName := cal f11 (fun _ _ F => ok_lname F B cDig) (fun _ _ _ _ _ _ us hl => match us, hl with | [_], _ => rfl)
  have cLH : Cal l.prog w K mg base 3 "_law_hands" ["_law_state", "_law_most"] (spLHands K) := cal f12 (fun _ _ F => ok_lhands F B cDig cLN) (fun _ _ _ _ _ _ us hl => match us, hl with | [_, _], _ => rfl)
  have cLT : Cal l.prog w K mg base 2 "_law_ties" ["_law_state", "_law_hands_here"] (spLTies K) := cal f13 (fun _ _ F => ok_lties F B cDig) (fun _ _ _ _ _ _ us hl => match us, hl with | [_, _], _ => rfl)
  have cON : Cal l.prog w K mg base 2 "_law_odd_name" ["_law_state", "_law_name_here"] spOddN := cal f15 (fun _ _ F => ok_oddN F B cDig) (fun _ _ _ _ _ _ us hl => match us, hl with | [_, _], _ => rfl)
  have cOH : Cal l.prog w K mg base 3 "_law_odd_hand" ["_law_state", "_law_hand"] (spOddH K) := cal f16 (fun _ _ F => ok_oddH F B cDig cON) (fun _ _ _ _ _ _ us hl => match us, hl with | [_, _], _ => rfl)
  have cOT : Cal l.prog w K mg base 3 "_law_odd_tie" ["_law_state", "_law_hands_here"] (spOddT K) := cal f17 (fun _ _ F => ok_oddT F B cDig cON) (fun _ _ _ _ _ _ us hl => match us, hl with | [_, _], _ => rfl)
  have cPut : Cal l.prog w K mg base 2 "_law_put" ["_law_state", "_law_things", "_law_thing"] spPut := cal f18 (fun _ _ F => ok_put F B cDig) (fun _ _ _ _ _ _ us hl => match us, hl with | [_, _, _], _ => rfl)
  have cBad : Cal l.prog w K mg base 4 "_law_bad" ["_law_state", "_law_hands_here", "_law_ties_here"] (spBad K) := cal f19 (fun _ _ F => ok_bad F B cDig cPut cOH cOT) (fun _ _ _ _ _ _ us hl => match us, hl with | [_, _, _], _ => rfl)
  have cW1 : Cal l.prog w K mg base 8 "_law_word" ["_law_ask"] (spWord CN CH lq (lamA lam1) (lamB lam1) (lamS lam1) fv1 (spL1 K CN)) := cal f14 (fun _ _ F => ok_word F B (PySem.W.mg_none_of X G zV) R mono1 (ok_lam1 gWeb)) (fun _ _ _ _ _ _ us hl => match us, hl with | [_], _ => rfl)
  have cW2 : Cal l.prog w K mg base 4 "_law_word" ["_law_ask"] (spWord CN CH lq (lamA lam2) (lamB lam2) (lamS lam2) fv2 (spL2 K CW CH)) := cal f14 (fun _ _ F => ok_word F B (PySem.W.mg_none_of X G zV) R mono2 (ok_lam2 TW gSt)) (fun _ _ _ _ _ _ us hl => match us, hl with | [_], _ => rfl)
  have cW3 : Cal l.prog w K mg base 4 "_law_word" ["_law_ask"] (spWord CN CH lq (lamA lam3) (lamB lam3) (lamS lam3) fv2 (spL2 K CW CH)) := cal f14 (fun _ _ F => ok_word F B (PySem.W.mg_none_of X G zV) R mono2 (ok_lam3 TW gNe)) (fun _ _ _ _ _ _ us hl => match us, hl with | [_], _ => rfl)
  exact ok_law ll cl (PySem.W.codeHd_of_K KB ch) (hbm T (by simp)) B TW cDig cLH cLT cBad cON cWeb mHands mStr mTi cW1 cW2 cW3
theorem walk {l : PySem.W.OpenLaw} {q : Program} {loose : List Str} {XP : (Str -> Option Value) -> Heap -> Prop} {d : DefRec} {K : Params -> PySem.W.Frag} {as : List Addr} {T : Addr} {eas : ∀ P : Params, as = (K P).map (·.1)} (hn : l.most = some 63) (hdf : d.params.defaults = []) (hts : ([T].all fun T => !as.contains T) = true)
    (F : ∀ (w : World) (mg : Str -> Option Value) (fa : Addr) (h : Heap), (K w.params).In h -> h.Ns mainGlobals mg -> mg d.name = some (.ref fa) ->
      ∃ fd : FuncData, (∀ (s : Shared) (u : Value), BindsTo s fd ⟨[u], []⟩ [("_law_script", u)]) /\ (∀ T' ∈ [T], isCodeTable h T') /\ ∀ base : Heap, (K w.params).In base -> base.Ns mainGlobals mg -> (∀ T' ∈ [T], base.BuiltinsAt mg T') -> FnOk l.prog w (K w.params) mg base CX0 9 fa fd ["_law_script"] (spLaw (K w.params) T)) :
    PySem.W.WalkO q loose XP (PySem.W.kmHook K as eas [T]).says l.row.toRowW d [] (fun f vs => PySem.call f vs) :=
  L2.walk_ofT (n := 63) (k := 9) (x := "_law_script") (CX := fun _ => CX0) (sp := fun w => spLaw (K w.params) T) hn (by decide) hdf ⟨rfl, by decide, by decide⟩ hts F (fun _ _ a ns hl hT hS => ⟨a, ns, rfl, hT T (by simp), hS, hl, fun _ => rfl⟩) fun _ _ _ _ _ z => z
end Ev
set_option Elab.async false
set_option linter.all false
namespace PySem.W.Fast
def tw10108667828884447872 : Unit := ()
def tw1192556836728323233 : Unit := ()
def tw9344088147045287618 : Unit := ()
def tw5743637593866980130 : Unit := ()
def tw10358614981589946915 : Unit := ()
def tw16403564947084510979 : Unit := ()
def tw16430204861830754245 : Unit := ()
def tw6006135252991141030 : Unit := ()
def tw590752587961043207 : Unit := ()
def tw14421169900619563049 : Unit := ()
def tw7469170083507740777 : Unit := ()
def tw12828520634492914698 : Unit := ()
def tw5605171405467237546 : Unit := ()
def tw1233769934349651658 : Unit := ()
def tw5424747011889377258 : Unit := ()
def tw16612964068535973515 : Unit := ()
def tw15244169910621368908 : Unit := ()
def tw5443615878779839309 : Unit := ()
def tw9928122714532257967 : Unit := ()
def tw13744554237034545647 : Unit := ()
def tw1076674130429841650 : Unit := ()
def tw10686991089538853842 : Unit := ()
def tw7578096407486244115 : Unit := ()
def tw15704602745854958387 : Unit := ()
def tw15007225266964196820 : Unit := ()
def tw15516131601958843252 : Unit := ()
def tw6233859952976619605 : Unit := ()
def tw7943653580775947093 : Unit := ()
def tw13473944302105593110 : Unit := ()
def tw1139299429965388502 : Unit := ()
def tw14556834454869407702 : Unit := ()
def tw2547698358488553367 : Unit := ()
def tw4774763304851435000 : Unit := ()
def tw9410411798166966777 : Unit := ()
def tw167410894572678266 : Unit := ()
def tw9809282812462403675 : Unit := ()
def tw338633500432187773 : Unit := ()
def tw15938109149930287677 : Unit := ()
def tw13859036144533760350 : Unit := ()
def tw5028512510632812062 : Unit := ()
def tw7178630639850267231 : Unit := ()
def tw10346400999088256735 : Unit := ()
def tw13030759970822932415 : Unit := ()
end PySem.W.Fast
open PySem PySem.W PyProof.Rows
set_option maxRecDepth 100000 in
set_option maxHeartbeats 0 in
theorem PySem.Challenge.cw_evenpieces_k03_what_is_no_web_holds : PySem.Challenge.rw_evenpieces_k03_what_is_no_web.Holds := by
  w_on; o_law; k_head; (case hw => w_witness2)
  k_fill
  refine Ev.walk (l := PySem.Challenge.rw_evenpieces_k03_what_is_no_web) rfl rfl (by rfl) ?F
  case F =>
    intro w mg fa h KX G hmg
    refine' Ev.all_mk KX G hmg (Ev.fd_mk KX G ?f0a ?f0l ?f0c ?f0k) (Ev.fd_mk KX G ?f1a ?f1l ?f1c ?f1k) (Ev.fd_mk KX G ?f2a ?f2l ?f2c ?f2k) (Ev.fd_mk KX G ?f3a ?f3l ?f3c ?f3k) (Ev.fd_mk KX G ?f4a ?f4l ?f4c ?f4k) (Ev.fd_mk KX G ?f5a ?f5l ?f5c ?f5k) (Ev.fd_mk KX G ?f6a ?f6l ?f6c ?f6k) (Ev.fd_mk KX G ?f7a ?f7l ?f7c ?f7k) (Ev.fd_mk KX G ?f8a ?f8l ?f8c ?f8k) (Ev.fd_mk KX G ?f9a ?f9l ?f9c ?f9k) (Ev.fd_mk KX G ?f10a ?f10l ?f10c ?f10k) (Ev.fd_mk KX G ?f11a ?f11l ?f11c ?f11k) (Ev.fd_mk KX G ?f12a ?f12l ?f12c ?f12k) (Ev.fd_mk KX G ?f13a ?f13l ?f13c ?f13k) (Ev.fd_mk KX G ?f14a ?f14l ?f14c ?f14k) (Ev.fd_mk KX G ?f15a ?f15l ?f15c ?f15k) (Ev.fd_mk KX G ?f16a ?f16l ?f16c ?f16k) (Ev.fd_mk KX G ?f17a ?f17l ?f17c ?f17k) (Ev.fd_mk KX G ?f18a ?f18l ?f18c ?f18k) (Ev.fd_mk KX G ?f19a ?f19l ?f19c ?f19k) (Ev.md_mk ?m0a ?m0i ?m0l ?m0c ?m0k) (Ev.md_mk ?m1a ?m1i ?m1l ?m1c ?m1k) (Ev.md_mk ?m2a ?m2i ?m2l ?m2c ?m2k) (Ev.md_mk ?m3a ?m3i ?m3l ?m3c ?m3k) (Ev.md_mk ?m4a ?m4i ?m4l ?m4c ?m4k) (Ev.md_mk ?m5a ?m5i ?m5l ?m5c ?m5k) ?al ?ll ?cl ?ch ?aW ?c8 ?c9 ?c10 ?wpg ?whd ?wpo ?wsa ?wmk ?wkc ?nS ?nP ?nN ?z0 ?z1 ?z2 ?z3 ?z4 ?z5 ?z6 ?z7 ?z8 ?z9 ?z10 ?z11 ?z12 ?z13 ?zV ?eE ?eN ?xN ?eH ?xH ?y0 ?y1 ?y2 ?y3 ?y4 ?y5 ?y6 ?y7 ?y8 ?y9 ?y10 ?y11 ?y12 ?rn ?rh
    (case aW => k_is); (case eE => k_is); (case eN => k_is); (case eH => k_is); (case y0 => k_is); (case y1 => k_is); (case y2 => k_is); (case y3 => k_is); (case y4 => k_is); (case y5 => k_is); (case y6 => k_is); (case y7 => k_is); (case y8 => k_is); (case y9 => k_is); (case y10 => k_is); (case y11 => k_is); (case y12 => k_is)
    (case f0a => k_is); (case f0l => k_is); (case f0c => k_is); (case f0k => k_is)
    (case f1a => k_is); (case f1l => k_is); (case f1c => k_is); (case f1k => k_is)
    (case f2a => k_is); (case f2l => k_is); (case f2c => k_is); (case f2k => k_is)
    (case f3a => k_is); (case f3l => k_is); (case f3c => k_is); (case f3k => k_is)
    (case f4a => k_is); (case f4l => k_is); (case f4c => k_is); (case f4k => k_is)
    (case f5a => k_is); (case f5l => k_is); (case f5c => k_is); (case f5k => k_is)
    (case f6a => k_is); (case f6l => k_is); (case f6c => k_is); (case f6k => k_is)
    (case f7a => k_is); (case f7l => k_is); (case f7c => k_is); (case f7k => k_is)
    (case f8a => k_is); (case f8l => k_is); (case f8c => k_is); (case f8k => k_is)
    (case f9a => k_is); (case f9l => k_is); (case f9c => k_is); (case f9k => k_is)
    (case f10a => k_is); (case f10l => k_is); (case f10c => k_is); (case f10k => k_is)
    (case f11a => k_is); (case f11l => k_is); (case f11c => k_is); (case f11k => k_is)
    (case f12a => k_is); (case f12l => k_is); (case f12c => k_is); (case f12k => k_is)
    (case f13a => k_is); (case f13l => k_is); (case f13c => k_is); (case f13k => k_is)
    (case f14a => k_is); (case f14l => k_is); (case f14c => k_is); (case f14k => k_is)
    (case f15a => k_is); (case f15l => k_is); (case f15c => k_is); (case f15k => k_is)
    (case f16a => k_is); (case f16l => k_is); (case f16c => k_is); (case f16k => k_is)
    (case f17a => k_is); (case f17l => k_is); (case f17c => k_is); (case f17k => k_is)
    (case f18a => k_is); (case f18l => k_is); (case f18c => k_is); (case f18k => k_is)
    (case f19a => k_is); (case f19l => k_is); (case f19c => k_is); (case f19k => k_is)
    (case m0a => k_is); (case m0i => k_is); (case m0l => k_is); (case m0c => k_is); (case m0k => k_is)
    (case m1a => k_is); (case m1i => k_is); (case m1l => k_is); (case m1c => k_is); (case m1k => k_is)
    (case m2a => k_is); (case m2i => k_is); (case m2l => k_is); (case m2c => k_is); (case m2k => k_is)
    (case m3a => k_is); (case m3i => k_is); (case m3l => k_is); (case m3c => k_is); (case m3k => k_is)
    (case m4a => k_is); (case m4i => k_is); (case m4l => k_is); (case m4c => k_is); (case m4k => k_is)
    (case m5a => k_is); (case m5i => k_is); (case m5l => k_is); (case m5c => k_is); (case m5k => k_is)
    (case al => k_is); (case ll => k_is); (case cl => k_is); (case ch => kernel_rfl); (case c8 => k_is); (case c9 => k_is); (case c10 => k_is); (case wpg => k_is); (case whd => k_is); (case wpo => k_is); (case wsa => k_is); (case wmk => k_is); (case wkc => k_is); (case nS => k_is); (case nP => k_is); (case nN => k_is); (case z0 => k_is); (case z1 => k_is); (case z2 => k_is); (case z3 => k_is); (case z4 => k_is); (case z5 => k_is); (case z6 => k_is); (case z7 => k_is); (case z8 => k_is); (case z9 => k_is); (case z10 => k_is); (case z11 => k_is); (case z12 => k_is); (case z13 => k_is); (case zV => k_is); (case xN => k_exc); (case xH => k_exc); (case rn => kernel_rfl); (case rh => kernel_rfl)

/- Maps from ints, to whatever is read by one value: what stands in one, by a function; its size; what a look, a store and a range do. Conditions: the numbers fit an int. -/
import Derived.Test.YtaddomgjjemglaaDoorL14Ol
import Derived.Maps.RangeWalk
import Derived.Maps.OwnOps
import Derived.Maps.OwnSet
import Derived.Lib.SlKeysI
namespace Go.Proofs.YtaddomgjjemglaaDoor.L14
open Go.ChangeShapes Go.WideShapes Go.ChangeAt Go.RowKit Go.Maps
set_option linter.unusedVariables false

def In64 (x : Int) : Prop := (Lit.int .i64 x).wf = true
theorem keyI : Keyed Tryd.prog 3 := int_keyed Tryd.underlying3
theorem keyL (x : Int) : WideAt.IsKeyLit (.int .i64 x) := trivial
/-- A kind of element. -/
structure El (β : Type) where
  mt : TypeId
  et : TypeId
  R : Value → Option (DataW Unit × List MemPlace)
  val : β → Value
  dat : β → DataW Unit
  zero : Value
structure El.Ok {β : Type} (E : El β) : Prop where
  ht : Tryd.prog.underlying E.mt = some (.map 3 E.et)
  enc : ∀ b, E.R (E.val b) = some (E.dat b, [])
  inv : ∀ v y, E.R v = some y → ∃ b, v = E.val b ∧ y = (E.dat b, [])
  inj : ∀ b b', E.dat b = E.dat b' → b = b'
  z : ∀ w, (zeroValue E.et).run Tryd.prog w = .ok E.zero w
/-- A bool. -/
def eB : El Bool := ⟨38, 4, fun | .bool x => some (.lit (.bool x), []) | _ => none, .bool, fun x => .lit (.bool x), .bool false⟩
theorem eB_ok : eB.Ok := by
  refine ⟨Tryd.underlying38, fun _ => rfl, fun v y h => ?_, fun a b h => ?_, fun w => by kernel_rfl⟩
  · unfold eB at h
    simp only at h
    split at h
    · injection h with h
      exact ⟨_, rfl, h.symm⟩
    · cases h
  · unfold eB at h
    simpa using h
section
variable {β : Type} {E : El β} {w w' : World} {m n : Nat} {f : Int → Option β} {C : Nat → Prop}
/-- The datum says just what f says. -/
def Says (E : El β) (D : DataW Unit) (f : Int → Option β) : Prop := ∀ x : Int, (∀ b, f x = some b → has D (.int .i64 x) = true ∧ ∀ z, D.atKey (.int .i64 x) z = E.dat b) ∧ (f x = none → has D (.int .i64 x) = false)
/-- Block m is a map of n entries that leads each x with f x = some b to b, and no other anywhere. -/
def Mg (E : El β) (w : World) (m n : Nat) (f : Int → Option β) : Prop := ∃ D : DataW Unit, w.ownsMap Tryd.prog 3 E.R m (size D) D ∧ Says E D f ∧ size D = n
theorem owns_size {H : Type} {R : Value → Option (DataW H × List MemPlace)} {n : Nat} {D : DataW H} (h : w.ownsMap Tryd.prog 3 R m n D) : w.ownsMap Tryd.prog 3 R m (size D) D := by
  obtain ⟨es, clock, hb, F, hs, rfl⟩ := h
  refine ⟨es, clock, hb, F, ?_, rfl⟩
  simp [Maps.size, length_sorted]
theorem owns_chg {H : Type} {R : Value → Option (DataW H × List MemPlace)} {n : Nat} {D : DataW H} (h : w.ownsMap Tryd.prog 3 R m n D) (c : Chg C w w') (hb : ¬ C m) : w'.ownsMap Tryd.prog 3 R m n D := by
  have hlt := h.lt
  obtain ⟨es, clock, e1, r⟩ := h
  exact ⟨es, clock, (c.block m hlt hb).trans e1, r⟩
theorem Mg.made (E : El β) (w : World) : Mg E (w.alloc (.map #[] 0)) w.heap.size 0 fun _ => none :=
  ⟨.map [], owns_size (World.ownsMap_made _ _ _ _), fun x => ⟨fun b h => (by cases h), fun _ => rfl⟩, rfl⟩
theorem Mg.lt (h : Mg E w m n f) : m < w.heap.size := by obtain ⟨D, h1, _⟩ := h; exact h1.lt
theorem Mg.chg (h : Mg E w m n f) (c : Chg C w w') (hb : ¬ C m) : Mg E w' m n f := by
  obtain ⟨D, h1, h2⟩ := h
  exact ⟨D, owns_chg h1 c hb, h2⟩
theorem Mg.grow (h : Mg E w m n f) (c : Grow w w') : Mg E w' m n f := h.chg c id
theorem Mg.map_ (h : Mg E w m n f) : ∃ x y, w.heap[m]? = some (.map x y) := by
  obtain ⟨D, ⟨es, clock, e1, r⟩, _⟩ := h
  exact ⟨es, clock, e1⟩
theorem Mg.ne {g : Nat} {t : TypeId} {cs : List Value} (h : Mg E w m n f) (k : Blk w g t cs) : g ≠ m := by
  rintro rfl
  obtain ⟨x, y, e⟩ := h.map_
  unfold Blk at k
  rw [e] at k
  cases k
def lookV (E : El β) (ok : Bool) : Option β → Value
  | some b => if ok then .tuple #[E.val b, .bool true] else E.val b
  | none => if ok then .tuple #[E.zero, .bool false] else E.zero
theorem Mg.look (k : E.Ok) (h : Mg E w m n f) {x : Int} (hx : In64 x) (ok : Bool) :
    (Instr.lookup E.mt (.map (some m)) (.int .i64 x) ok).run Tryd.prog w = .ok (lookV E ok (f x)) w := by
  obtain ⟨D, ho, hk, _⟩ := h
  have hkey := keyOf_int_mk Tryd.underlying3 hx
  obtain ⟨es, clock, hb, F, hs, rfl⟩ := ho
  rcases Maps.fit_look (w := w) (t := E.mt) ok keyI k.ht (k.z w) hb F hkey with ⟨hrun, _, hat⟩ | ⟨e0, y, _, _, hrun, hRv, hat, _⟩
  · rw [hrun]
    cases hf : f x with
    | none => rfl
    | some b =>
      have h1 := ((hk x).1 b hf).1
      rw [has_false_of_atKey hat] at h1
      cases h1
  · rw [hrun]
    obtain ⟨b', hv, hy⟩ := k.inv _ _ hRv
    cases hf : f x with
    | none =>
      have h1 := (hk x).2 hf
      rw [has_true_of_atKey hat] at h1
      cases h1
    | some b =>
      have h1 := ((hk x).1 b hf).2 (.agg [])
      rw [hat, hy] at h1
      rw [k.inj b' b h1] at hv
      rw [hv]
      rfl
theorem Says.put {D : DataW Unit} (hk : Says E D f) (ht : IsMap D) (x : Int) (b : β) : Says E (D.put (.int .i64 x) (E.dat b)) fun y => if y = x then some b else f y := by
  intro y
  by_cases hy : y = x
  · subst hy
    simp only [if_pos]
    refine ⟨fun b' hb => ?_, fun h => by cases h⟩
    injection hb with hb
    subst hb
    exact ⟨has_put_same ht (keyL _) _, fun z => atKey_put_same ht (keyL _) _ z⟩
  · have hne : (Lit.int .i64 y) ≠ .int .i64 x := fun e => hy (by injection e)
    simp only [if_neg hy]
    rw [has_put_other hne]
    exact ⟨fun b' hb => ⟨((hk y).1 b' hb).1, fun z => by rw [atKey_put_other hne]; exact ((hk y).1 b' hb).2 z⟩, (hk y).2⟩
theorem keys_size (D : DataW Unit) : (intKeys D).length = size D := by cases D <;> simp [intKeys, size]
theorem owns_perm {D : DataW Unit} (h1 : w.ownsMap Tryd.prog 3 E.R m (size D) D) (h2 : Says E D f) {ids : List Int} (hid : ∀ x, f x ≠ none ↔ x ∈ ids) (hn : ids.Nodup) : ids.Perm (intKeys D) := by
  obtain ⟨es, hD, hpw, _⟩ := h1.entries keyI
  obtain ⟨es', hD', hko⟩ := h1.keysOf
  obtain rfl : es = es' := by rw [hD] at hD'; simpa using hD'
  subst hD
  refine perm_intKeys hpw (fun p hp => by obtain ⟨v, hv⟩ := hko p hp; obtain ⟨x, _, hx, _⟩ := Maps.keyOf_i64 Tryd.underlying3 hv; exact ⟨x, hx⟩) hn fun x => ?_
  rw [← hid x]
  constructor
  · intro hx
    cases hf : f x with
    | none => exact absurd hf hx
    | some b => exact ((h2 x).1 b hf).1
  · intro hx hf
    rw [(h2 x).2 hf] at hx
    cases hx
/-- So many are in. -/
theorem Mg.size_eq (h : Mg E w m n f) {ids : List Int} (hid : ∀ x, f x ≠ none ↔ x ∈ ids) (hn : ids.Nodup) : n = ids.length := by
  obtain ⟨D, h1, h2, h3⟩ := h
  rw [← h3, ← keys_size, ← (owns_perm h1 h2 hid hn).length_eq]
theorem Mg.put (k : E.Ok) (h : Mg E w m n f) (hn : n < maxLen) {x : Int} (hx : In64 x) (b : β) :
    ∃ w', (Instr.mapUpdate E.mt (.map (some m)) (.int .i64 x) (E.val b)).run Tryd.prog w = .ok () w' ∧ Mg E w' m (if (f x).isSome then n else n + 1) (fun y => if y = x then some b else f y) ∧ Chg (· = m) w w' := by
  obtain ⟨D, ho, hk, hs⟩ := h
  obtain ⟨w', hrun, ho', hg⟩ := ho.update keyI k.ht (by omega) (keyOf_int_mk Tryd.underlying3 hx) (k.enc b)
  refine ⟨w', hrun, ⟨_, owns_size ho', hk.put ho.isMap x b, ?_⟩, hg.os, hg.tape, hg.output, hg.size, fun i hi hne => hg.block i hi (fun e => hne (by injection e))⟩
  rw [size_put (ho.tidy keyI), hs]
  cases hf : f x with
  | none => rw [(hk x).2 hf]; rfl
  | some b => rw [((hk x).1 b hf).1]; rfl
theorem Mg.len (k : E.Ok) (h : Mg E w m n f) (ty : TypeId) : (Builtin.len_ #[E.mt] ty #[.map (some m)]).run Tryd.prog w = .ok (.int .i64 n) w := by
  obtain ⟨D, ho, _, hs⟩ := h
  rw [ho.len k.ht ty, hs]
/-- A range over the map in block m is under way, its iterator is block r; left: who is still to come. -/
def Rg (E : El β) (w : World) (m r : Nat) (f : Int → Option β) (left : Int → Bool) (cnt : Nat) : Prop :=
  ∃ (D : DataW Unit) (n : Nat) (lf : Lit → Bool), w.ranges Tryd.prog 3 E.R m r n D lf cnt ∧ Says E D f ∧ ∀ x : Int, lf (.int .i64 x) = left x
variable {r : Nat} {left : Int → Bool} {cnt : Nat}
theorem Rg.owns (h : Rg E w m r f left cnt) : ∃ n, Mg E w m n f := by
  obtain ⟨D, n, lf, h1, h2, h3⟩ := h
  exact ⟨_, D, owns_size h1.owns, h2, rfl⟩
theorem Rg.left_eq (h : Rg E w m r f left cnt) : w.rangeLeft m r = cnt := by
  obtain ⟨D, n, lf, h1, h2, h3⟩ := h
  exact h1.left_eq
theorem Rg.ne (h : Rg E w m r f left cnt) : r ≠ m := by
  obtain ⟨D, n, lf, h1, h2, h3⟩ := h
  exact h1.ne
theorem Rg.lt (h : Rg E w m r f left cnt) : r < w.heap.size := by
  obtain ⟨D, n, lf, h1, h2, h3⟩ := h
  exact h1.lt
theorem Rg.chg (h : Rg E w m r f left cnt) (c : Chg C w w') (hm : ¬ C m) (hr : ¬ C r) : Rg E w' m r f left cnt := by
  obtain ⟨n0, hm0⟩ := h.owns
  have l1 := hm0.lt
  have l2 := h.lt
  obtain ⟨D, n, lf, ⟨es, clock, since, seen, c0, hb, F, hs, hD, hr', rest⟩, h2, h3⟩ := h
  exact ⟨D, n, lf, ⟨es, clock, since, seen, c0, (c.block m l1 hm).trans hb, F, hs, hD, (c.block r l2 hr).trans hr', rest⟩, h2, h3⟩
theorem Rg.grow (h : Rg E w m r f left cnt) (c : Grow w w') : Rg E w' m r f left cnt := h.chg c id id
theorem strikes (y x : Int) : (Lit.int .i64 y).sameKey (.int .i64 x) = decide (y = x) := by
  by_cases e : y = x
  · subst e
    rw [WideAt.sameKey_self (keyL _)]
    simp
  · rw [sameKey_ne (fun h => e (by injection h))]
    simp [e]
variable {ops : Array Oper} {rest : List Oper} {o : Oper} {a : Act} {Q : Exit → Act → World → Prop}
/-- 'range m'. -/
theorem rg_range (k : E.Ok) (hg : o.guard = none) (mo : Operand) (hop : o.op = Op.range E.mt mo) (hm : a.eval mo = .map (some m)) (h : Mg E w m n f)
    (hK : ∀ w' cnt, Rg E w' m w.heap.size f (fun x => (f x).isSome) cnt → Grow w w' → w'.heap.size = w.heap.size + 1 → wpList Tryd.prog ops Q rest (a.put o.dst (.pointer (some ⟨w.heap.size, 0, none⟩))) w') :
    wpList Tryd.prog ops Q (o :: rest) a w := by
  obtain ⟨D, ho, hs, _⟩ := h
  refine wpList_range_own w hg mo _ hop _ _ keyI k.ht E.R m (size D) D hm ho fun w' hr hgr hsz => ?_
  refine hK w' _ ⟨D, _, _, hr, hs, fun x => ?_⟩ ⟨hgr.os, hgr.tape, hgr.output, hgr.size, fun i hi _ => hgr.block i hi (by simp)⟩ hsz
  cases hf : f x with
  | none => rw [(hs x).2 hf]; simp [hf]
  | some b => rw [((hs x).1 b hf).1]; simp [hf]
set_option maxRecDepth 100000 in
/-- The step. -/
theorem rg_next (k : E.Ok) (hg : o.guard = none) (it : Operand) (hop : o.op = Op.next it false) (hit : a.eval it = .pointer (some ⟨r, 0, none⟩)) (h : Rg E w m r f left cnt)
    (hDone : (∀ x, left x = false) → wpList Tryd.prog ops Q rest (a.put o.dst (.tuple #[.bool false])) w)
    (hMore : ∀ (x : Int) (b : β) (w' : World) (cnt' : Nat), In64 x → left x = true → f x = some b → Rg E w' m r f (fun y => left y && !decide (y = x)) cnt' → cnt' < cnt → Chg (· = r) w w' → w'.heap.size = w.heap.size →
      (Instr.entry (.pointer (some ⟨r, 0, none⟩))).run Tryd.prog w' = .ok (.tuple #[.int .i64 x, E.val b]) w' → wpList Tryd.prog ops Q rest (a.put o.dst (.tuple #[.bool true, .int .i64 x, E.val b])) w') :
    wpList Tryd.prog ops Q (o :: rest) a w := by
  obtain ⟨D, n, lf, h1, h2, h3⟩ := h
  refine wpList_next_ranges w hg it hop _ keyI E.R (Value.int .i64) E.val (fun key kl hk => ?_) (fun v y hv => ?_) m r n D lf cnt hit h1 (fun _ hl => hDone fun x => by rw [← h3, hl]) ?_
  · obtain ⟨x, e, _⟩ := Maps.keyOf_int_inv Tryd.underlying3 hk
    exact ⟨x, e⟩
  · obtain ⟨b, e, _⟩ := k.inv _ _ hv
    exact ⟨b, e⟩
  · intro x b kl y w' cnt' hk hl hR hat hr hlt hgr hsz hen
    obtain ⟨x', e, rfl, hx⟩ := Maps.keyOf_int_inv Tryd.underlying3 hk
    injection e with _ e
    subst e
    have hy : y = (E.dat b, []) := by rw [k.enc] at hR; injection hR with hR; exact hR.symm
    subst hy
    refine hMore x b w' cnt' hx (by rw [← h3]; exact hl) ?_ ⟨D, n, _, hr, h2, fun z => by rw [strikes, h3]⟩ hlt ⟨hgr.os, hgr.tape, hgr.output, hgr.size, fun i hi hne => hgr.block i hi (fun e => hne (by injection e))⟩ hsz hen
    cases hf : f x with
    | none =>
      have h4 := (h2 x).2 hf
      rw [has_true_of_atKey hat] at h4
      cases h4
    | some b2 =>
      have h4 := ((h2 x).1 b2 hf).2 (.agg [])
      rw [hat] at h4
      rw [k.inj _ _ h4]
end
end Go.Proofs.YtaddomgjjemglaaDoor.L14

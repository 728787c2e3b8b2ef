/- Maps from identifiers to nodes: what stands in one, by a function; what a look, a store, a delete and a range do; sets of numbers as maps to nothing. Conditions: the numbers fit an int. -/
import Derived.Test.YtjofdamobnemcaaGrow
import Derived.Maps.RangeWalk
import Derived.Maps.OwnOps
import Derived.Maps.OwnSet
import Derived.Lib.SlKeysI
namespace Go.Proofs.Ytjofdamobnemcaa.L9
open Go.ChangeShapes Go.WideShapes Go.ChangeAt Go.RowKit Go.Maps
set_option linter.unusedVariables false

theorem keyI : Keyed Try.prog 3 := int_keyed Try.underlying3
theorem zeroP (w : World) : (zeroValue 81).run Try.prog w = .ok (.pointer none) w := by kernel_rfl
theorem zeroU (w : World) : (zeroValue 63).run Try.prog w = .ok (.agg #[]) w := by kernel_rfl
/-- An element that points to a block reads as the block's number. -/
def ptrE : Value → Option (DataW Unit × List MemPlace)
  | .pointer (some ⟨b, 0, none⟩) => some (.lit (.int .i64 b), [])
  | _ => none
theorem ptrE_mk (b : Nat) : ptrE (.pointer (some ⟨b, 0, none⟩)) = some (.lit (.int .i64 b), []) := rfl
theorem ptrE_inv {v : Value} {y : DataW Unit × List MemPlace} (h : ptrE v = some y) : ∃ b : Nat, v = .pointer (some ⟨b, 0, none⟩) ∧ y = (.lit (.int .i64 b), []) := by
  unfold ptrE at h
  split at h
  · rename_i b
    injection h with h
    exact ⟨b, rfl, h.symm⟩
  · cases h
/-- The datum says just what f says. -/
def Says (D : DataW Unit) (f : Int → Option Nat) : Prop := ∀ x : Int, (∀ b, f x = some b → has D (.int .i64 x) = true ∧ ∀ z, D.atKey (.int .i64 x) z = .lit (.int .i64 b)) ∧ (f x = none → has D (.int .i64 x) = false)
/-- Block m is a map that leads each x with f x = some b to block b, and no other. -/
def Mn (w : World) (m : Nat) (f : Int → Option Nat) : Prop := ∃ D : DataW Unit, w.ownsMap Try.prog 3 ptrE m (size D) D ∧ Says D f
abbrev pt (o : Option Nat) : Value := .pointer (o.map fun b => ⟨b, 0, none⟩)
section
variable {w w' : World} {m : Nat} {f : Int → Option Nat} {C : Nat → Prop} {H : Type} {R : Value → Option (DataW H × List MemPlace)}
theorem owns_size {n : Nat} {D : DataW H} (h : w.ownsMap Try.prog 3 R m n D) : w.ownsMap Try.prog 3 R m (size D) D := by
  obtain ⟨es, clock, hb, F, hs, rfl⟩ := h
  refine ⟨es, clock, hb, F, ?_, rfl⟩
  simp [Maps.size, length_sorted]
theorem owns_chg {n : Nat} {D : DataW H} (h : w.ownsMap Try.prog 3 R m n D) (c : Chg C w w') (hb : ¬ C m) : w'.ownsMap Try.prog 3 R m n D := by
  have hlt := h.lt
  obtain ⟨es, clock, e1, r⟩ := h
  exact ⟨es, clock, (c.block m hlt hb).trans e1, r⟩
theorem Mn.made (w : World) : Mn (w.alloc (.map #[] 0)) w.heap.size fun _ => none :=
  ⟨.map [], owns_size (World.ownsMap_made _ _ _ _), fun x => ⟨fun b h => (by cases h), fun _ => rfl⟩⟩
theorem Mn.lt (h : Mn w m f) : m < w.heap.size := by obtain ⟨D, h1, _⟩ := h; exact h1.lt
theorem Mn.chg (h : Mn w m f) (c : Chg C w w') (hb : ¬ C m) : Mn w' m f := by
  obtain ⟨D, h1, h2⟩ := h
  exact ⟨D, owns_chg h1 c hb, h2⟩
theorem Says.look {D : DataW Unit} {n : Nat} (ho : w.ownsMap Try.prog 3 ptrE m n D) (hk : Says D f) {x : Int} (hx : (Lit.int .i64 x).wf = true) :
    (Instr.lookup 76 (.map (some m)) (.int .i64 x) false).run Try.prog w = .ok (pt (f x)) w := by
  have hkey := keyOf_int_mk Try.underlying3 hx
  obtain ⟨es, clock, hb, F, hs, rfl⟩ := ho
  rcases Maps.fit_look (w := w) (t := 76) false keyI Try.underlying76 (zeroP w) hb F hkey with ⟨hrun, _, hat⟩ | ⟨e0, y, _, _, hrun, hRv, hat, _⟩
  · rw [hrun]
    cases hf : f x with
    | none => rfl
    | some b =>
      have h1 := ((hk x).1 b hf).2 (.agg [])
      rw [hat] at h1
      cases h1
  · rw [hrun]
    obtain ⟨b', hv, hy⟩ := ptrE_inv hRv
    cases hf : f x with
    | none =>
      have h1 := atKey_of_not_has ((hk x).2 hf) (.agg [])
      rw [hat, hy] at h1
      exact absurd h1 (by simp)
    | some b =>
      have h1 := ((hk x).1 b hf).2 (.agg [])
      rw [hat, hy] at h1
      have h2 : b' = b := by
        simp at h1
        exact Int.ofNat.inj h1
      rw [h2] at hv
      simp [hv, pt]
theorem Mn.look (h : Mn w m f) {x : Int} (hx : (Lit.int .i64 x).wf = true) :
    (Instr.lookup 76 (.map (some m)) (.int .i64 x) false).run Try.prog w = .ok (pt (f x)) w := by
  obtain ⟨D, ho, hk⟩ := h
  exact hk.look ho hx
theorem keyL (x : Int) : WideAt.IsKeyLit (.int .i64 x) := trivial
theorem Says.put {D : DataW Unit} (hk : Says D f) (ht : IsMap D) (x : Int) (b : Nat) : Says (D.put (.int .i64 x) (.lit (.int .i64 b))) fun y => if y = x then some b else f y := by
  intro y
  by_cases hy : y = x
  · subst hy
    simp only [if_pos]
    refine ⟨fun b' hb => ?_, fun h => by cases h⟩
    injection hb with hb
    subst hb
    exact ⟨has_put_same ht (keyL _) _, fun z => atKey_put_same ht (keyL _) _ z⟩
  · have hne : (Lit.int .i64 y) ≠ .int .i64 x := fun e => hy (by injection e)
    simp only [if_neg hy]
    rw [has_put_other hne]
    exact ⟨fun b' hb => ⟨((hk y).1 b' hb).1, fun z => by rw [atKey_put_other hne]; exact ((hk y).1 b' hb).2 z⟩, (hk y).2⟩
theorem Says.del {D : DataW Unit} (hk : Says D f) (x : Int) : Says (D.del (.int .i64 x)) fun y => if y = x then none else f y := by
  intro y
  by_cases hy : y = x
  · subst hy
    simp only [if_pos]
    exact ⟨fun b' hb => (by cases hb), fun _ => has_del_same⟩
  · have hne : (Lit.int .i64 y) ≠ .int .i64 x := fun e => hy (by injection e)
    simp only [if_neg hy]
    rw [has_del_other hne]
    exact ⟨fun b' hb => ⟨((hk y).1 b' hb).1, fun z => by rw [atKey_del_other hne]; exact ((hk y).1 b' hb).2 z⟩, (hk y).2⟩
theorem Mn.size_lt (h : Mn w m f) {ids : List Int} (hid : ∀ x, f x ≠ none ↔ x ∈ ids) (hn : ids.Nodup) {D : DataW Unit} (ho : w.ownsMap Try.prog 3 ptrE m (size D) D) (hk : Says D f) : ids.Perm (intKeys D) := by
  obtain ⟨es, hD, hpw, _⟩ := ho.entries keyI
  obtain ⟨es', hD', hko⟩ := ho.keysOf
  obtain rfl : es = es' := by rw [hD] at hD'; simpa using hD'
  subst hD
  refine perm_intKeys hpw (fun p hp => by obtain ⟨v, hv⟩ := hko p hp; obtain ⟨x, _, hx, _⟩ := Maps.keyOf_i64 Try.underlying3 hv; exact ⟨x, hx⟩) hn fun x => ?_
  rw [← hid x]
  constructor
  · intro hx
    cases hf : f x with
    | none => exact absurd hf hx
    | some b => exact ((hk x).1 b hf).1
  · intro hx hf
    rw [(hk x).2 hf] at hx
    cases hx
theorem keys_size (D : DataW Unit) : (intKeys D).length = size D := by cases D <;> simp [intKeys, size]
theorem Mn.put (h : Mn w m f) {ids : List Int} (hid : ∀ x, f x ≠ none ↔ x ∈ ids) (hn : ids.Nodup) (hl : ids.length < maxLen) {x : Int} (hx : (Lit.int .i64 x).wf = true) (b : Nat) :
    ∃ w', (Instr.mapUpdate 76 (.map (some m)) (.int .i64 x) (.pointer (some ⟨b, 0, none⟩))).run Try.prog w = .ok () w' ∧ Mn w' m (fun y => if y = x then some b else f y) ∧ Chg (· = m) w w' := by
  obtain ⟨D, ho, hk⟩ := h
  have hp := Mn.size_lt ⟨D, ho, hk⟩ hid hn ho hk
  have hsz : size D < maxLen := by rw [← keys_size, ← hp.length_eq]; exact hl
  obtain ⟨w', hrun, ho', hg⟩ := ho.update keyI Try.underlying76 hsz (keyOf_int_mk Try.underlying3 hx) (ptrE_mk b)
  exact ⟨w', hrun, ⟨_, owns_size ho', hk.put ho.isMap x b⟩, hg.os, hg.tape, hg.output, hg.size, fun i hi hne => hg.block i hi (fun e => hne (by injection e))⟩
end

/-- Sets of numbers. -/
def SaysU (D : DataW Unit) (p : Int → Bool) : Prop := ∀ x : Int, has D (.int .i64 x) = p x
def Su (w : World) (m n : Nat) (p : Int → Bool) : Prop := ∃ D : DataW Unit, w.ownsMap Try.prog 3 unitElem m n D ∧ SaysU D p
section
variable {w w' : World} {m n : Nat} {p : Int → Bool} {C : Nat → Prop}
theorem Su.made (w : World) : Su (w.alloc (.map #[] 0)) w.heap.size 0 fun _ => false := ⟨_, World.ownsMap_made _ _ _ _, fun x => rfl⟩
theorem Su.lt (h : Su w m n p) : m < w.heap.size := by obtain ⟨D, h1, _⟩ := h; exact h1.lt
theorem Su.chg (h : Su w m n p) (c : Chg C w w') (hb : ¬ C m) : Su w' m n p := by
  obtain ⟨D, h1, h2⟩ := h
  exact ⟨D, owns_chg h1 c hb, h2⟩
theorem Su.look (h : Su w m n p) {x : Int} (hx : (Lit.int .i64 x).wf = true) :
    (Instr.lookup 62 (.map (some m)) (.int .i64 x) true).run Try.prog w = .ok (.tuple #[.agg #[], .bool (p x)]) w := by
  have hkey := keyOf_int_mk Try.underlying3 hx
  obtain ⟨D, ⟨es, clock, hb, F, hs, rfl⟩, hk⟩ := h
  rcases Maps.fit_look (w := w) (t := 62) true keyI Try.underlying62 (zeroU w) hb F hkey with ⟨hrun, _, hat⟩ | ⟨e0, y, _, _, hrun, hRv, hat, _⟩
  · rw [hrun, ← hk x, has_false_of_atKey hat]
    rfl
  · rw [hrun, ← hk x, has_true_of_atKey hat, (unitElem_inv hRv).1]
    rfl
theorem Su.put (h : Su w m n p) {x : Int} (hx : (Lit.int .i64 x).wf = true) (hn : n < maxLen) :
    ∃ w', (Instr.mapUpdate 62 (.map (some m)) (.int .i64 x) (.agg #[])).run Try.prog w = .ok () w' ∧ Su w' m (n + 1) (fun y => decide (y = x) || p y) ∧ Chg (· = m) w w' := by
  obtain ⟨D, ho, hk⟩ := h
  obtain ⟨w', hrun, ho', hg⟩ := ho.update keyI Try.underlying62 hn (keyOf_int_mk Try.underlying3 hx) unitElem_mk
  refine ⟨w', hrun, ⟨_, ho', fun y => ?_⟩, hg.os, hg.tape, hg.output, hg.size, fun i hi hne => hg.block i hi (fun e => hne (by injection e))⟩
  by_cases hy : y = x
  · subst hy
    rw [has_put_same ho.isMap (keyL _)]
    simp
  · rw [has_put_other (fun e => hy (by injection e)), hk y]
    simp [hy]
end
end Go.Proofs.Ytjofdamobnemcaa.L9

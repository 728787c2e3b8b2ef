/- What QueueMany does to a set, as lists. Conditions: none; nothing here speaks of the program. -/
import Derived.Test.YtgaoodjlcjmomaaL12Awake
namespace Go.Proofs.Ytgaoodjlcjmomaa.L12
open Go.ChangeShapes Go.WideShapes Go.ChangeAt Go.RowKit
set_option linter.unusedVariables false
theorem u8_bd {a : Int} (h : (Lit.int .u8 a).wf = true) : ∃ n : Nat, a = n ∧ n < 256 := by
  simp [Lit.wf, IntKind.min, IntKind.max, IntKind.signed, IntKind.bits] at h
  exact ⟨a.toNat, by omega, by omega⟩
theorem at_q {i : Nat} (h : i < 4) : isQ ((i : Int) + 1) = true ∧ pl ((i : Int) + 1) = i := by
  refine ⟨?_, by unfold pl; omega⟩
  unfold isQ
  rw [decide_eq_true (by omega), decide_eq_true (by omega)]
  rfl
theorem w64 {x : Int} (h : -9223372036854775808 ≤ x ∧ x ≤ 9223372036854775807) : IntKind.i64.wrap x = x := IntWalk.i64_in _ h
def mE (n : Nat) : List Int := (List.range n).map fun j : Nat => 3 * (j : Int) + 1
theorem mE_len (n : Nat) : (mE n).length = n := by simp [mE]
theorem mE_next (n : Nat) : mE (n + 1) = mE n ++ [3 * (n : Int) + 1] := by simp [mE, List.range_succ]
theorem mE_mem {n : Nat} {x : Int} : x ∈ mE n ↔ ∃ j : Nat, j < n ∧ x = 3 * (j : Int) + 1 := by
  unfold mE
  rw [List.mem_map]
  constructor
  · rintro ⟨j, hj, rfl⟩; exact ⟨j, List.mem_range.1 hj, rfl⟩
  · rintro ⟨j, hj, rfl⟩; exact ⟨j, List.mem_range.2 hj, rfl⟩
theorem mE_drop {n i : Nat} (h : i < n) : (mE n).drop i = (3 * (i : Int) + 1) :: (mE n).drop (i + 1) := by
  have hl : i < (mE n).length := by rw [mE_len]; exact h
  rw [List.drop_eq_getElem_cons hl]
  simp [mE]
theorem upd_upd {α : Type} (f : Nat → α) (i : Nat) (x y : α) : upd (upd f i x) i y = upd f i y := by
  funext j
  unfold upd
  split <;> rfl
theorem upd_self {α : Type} (f : Nat → α) (i : Nat) : upd f i (f i) = f := by
  funext j
  unfold upd
  split
  · rename_i h; rw [h]
  · rfl
/-- The next one is put. -/
theorem many_put {X : Nat} (hX : X < 4) (i : Nat) : puB (mE i) ((X : Int) + 1) (3 * (i : Int) + 1) = true ∧ puX ((X : Int) + 1) = 0 ∧ puQ (upd noQ X (mE i)) (mE i) ((X : Int) + 1) (3 * (i : Int) + 1) = upd noQ X (mE (i + 1)) ∧ puE (mE i) ((X : Int) + 1) (3 * (i : Int) + 1) = mE (i + 1) := by
  obtain ⟨h1, h2⟩ := at_q hX
  have hb : puB (mE i) ((X : Int) + 1) (3 * (i : Int) + 1) = true := by
    unfold puB
    rw [h1, decide_eq_false (fun h => by obtain ⟨j, hj, e⟩ := mE_mem.1 h; omega)]
    rfl
  refine ⟨hb, by unfold puX; rw [h1]; rfl, ?_, ?_⟩
  · unfold puQ
    rw [hb, if_pos rfl, h2, upd_at, upd_upd, mE_next]
  · unfold puE
    rw [hb, if_pos rfl, mE_next]
theorem many_len {X : Nat} (hX : X < 4) (i : Nat) : lnV (upd noQ X (mE i)) ((X : Int) + 1) = (i : Int) := by
  obtain ⟨h1, h2⟩ := at_q hX
  unfold lnV
  rw [h1, if_pos rfl, h2, upd_at, mE_len]
theorem many_few (X i : Nat) : Few (upd noQ X (mE i)) (mE i) i := by
  refine ⟨by rw [mE_len]; exact Nat.le_refl _, fun j _ => ?_⟩
  by_cases e : j = X
  · rw [e, upd_at, mE_len]; exact Nat.le_refl _
  · rw [upd_ne _ _ e]; exact Nat.zero_le _
/-- One is polled. -/
theorem many_poll {X n i : Nat} (hX : X < 4) (hi : i < n) : poV (upd noQ X ((mE n).drop i)) ((X : Int) + 1) = 3 * (i : Int) + 1 ∧ poX (upd noQ X ((mE n).drop i)) ((X : Int) + 1) = 0 ∧ poQ (upd noQ X ((mE n).drop i)) ((X : Int) + 1) = upd noQ X ((mE n).drop (i + 1)) := by
  obtain ⟨h1, h2⟩ := at_q hX
  refine ⟨?_, ?_, ?_⟩
  · unfold poV
    rw [h1, if_pos rfl, h2, upd_at, mE_drop hi]
    rfl
  · unfold poX
    rw [h1, if_pos rfl, h2, upd_at, mE_drop hi, if_neg (by simp)]
  · unfold poQ
    rw [h1, if_pos rfl, h2, upd_at, upd_upd, mE_drop hi]
    rfl
theorem many_again {Y n i : Nat} (hY : Y < 4) (hi : i < n) (Q : Nat → List Int) : puB (mE n) ((Y : Int) + 1) (3 * (i : Int) + 1) = false ∧ puX ((Y : Int) + 1) = 0 ∧ puQ Q (mE n) ((Y : Int) + 1) (3 * (i : Int) + 1) = Q ∧ puE (mE n) ((Y : Int) + 1) (3 * (i : Int) + 1) = mE n := by
  obtain ⟨h1, h2⟩ := at_q hY
  have hb : puB (mE n) ((Y : Int) + 1) (3 * (i : Int) + 1) = false := by
    unfold puB
    rw [h1, decide_eq_true (mE_mem.2 ⟨i, hi, rfl⟩)]
    rfl
  refine ⟨hb, by unfold puX; rw [h1]; rfl, ?_, ?_⟩
  · unfold puQ
    rw [hb]
    rfl
  · unfold puE
    rw [hb]
    rfl
theorem many_few2 (X n i : Nat) : Few (upd noQ X ((mE n).drop i)) (mE n) n := by
  refine ⟨by rw [mE_len]; exact Nat.le_refl _, fun j _ => ?_⟩
  by_cases e : j = X
  · rw [e, upd_at, List.length_drop, mE_len]; omega
  · rw [upd_ne _ _ e]; exact Nat.zero_le _
theorem many_end {X n : Nat} (hX : X < 4) : upd noQ X ((mE n).drop n) = noQ := by
  rw [List.drop_eq_nil_of_le (by rw [mE_len]; exact Nat.le_refl _)]
  exact upd_self noQ X
theorem cat_no : ∀ k, cat noQ k = []
  | 0 => rfl
  | k + 1 => by simp [cat, cat_no k]
end Go.Proofs.Ytgaoodjlcjmomaa.L12

/- What stands in the words while references and numbers of one object are laid. Conditions: none; nothing here speaks of the program. -/
import Derived.Test.YtgknndbahdjghaaL6Seg
namespace Go.Proofs.Ytgknndbahdjghaa.L6
open Go.ChangeShapes Go.WideShapes Go.ChangeAt Go.RowKit
open Go.Proofs.Ytgknndbahdjghaa.L1 (Sl Ar ptr exB)
open Go.Proofs.Ytgknndbahdjghaa.L4 (hdV riB wd wdV wdX ofB ofC ofA ofF ofM ofN ofD ofV ofX set6)
open Go.Proofs.Ytgknndbahdjghaa.L5 (Cl clV rtB Tb clAt shX shR shD woV c0 IsCls newX)
set_option linter.unusedVariables false

section
variable {w w' : World} {p tp : Option Addr} {g : Nat} {xs ys : List Int} {cs : List Cl}
/-- Of an object at 1 the first k references and the first m numbers are laid; all else is as in ys. -/
def Fl (ys : List Int) (R D : Nat) (rs ds : List Int) (k m : Nat) (xs : List Int) : Prop :=
  xs.length = 200 ∧ ∀ j, xs.getD j 0 = if 3 ≤ j ∧ j < 3 + R then (if j - 3 < k then rs.getD (j - 3) 0 else 0) else if 3 + R ≤ j ∧ j < 3 + R + D then (if j - (3 + R) < m then ds.getD (j - (3 + R)) 0 else 0) else ys.getD j 0
variable {R D k m : Nat} {rs ds : List Int}
theorem Fl.start (hl : ys.length = 200) (h : ∀ j, 3 ≤ j → j < 3 + R + D → ys.getD j 0 = 0) : Fl ys R D rs ds 0 0 ys := by
  refine ⟨hl, fun j => ?_⟩
  by_cases h1 : 3 ≤ j ∧ j < 3 + R
  · rw [if_pos h1, if_neg (by omega)]; exact h j h1.1 (by omega)
  · rw [if_neg h1]
    by_cases h2 : 3 + R ≤ j ∧ j < 3 + R + D
    · rw [if_pos h2, if_neg (by omega)]; exact h j (by omega) h2.2
    · rw [if_neg h2]
theorem Fl.ref (h : Fl ys R D rs ds k m xs) (hk : k < R) (hR : 3 + R + D ≤ 200) (u : Int) (hu : rs.getD k 0 = u) : Fl ys R D rs ds (k + 1) m (xs.set (3 + k) u) := by
  refine ⟨by rw [List.length_set]; exact h.1, fun j => ?_⟩
  rw [getD_set _ _ _ _ (by rw [h.1]; omega)]
  by_cases e : j = 3 + k
  · subst e
    rw [if_pos rfl, if_pos (by omega), if_pos (by omega), show 3 + k - 3 = k by omega, hu]
  · rw [if_neg e, h.2 j]
    by_cases h1 : 3 ≤ j ∧ j < 3 + R
    · rw [if_pos h1, if_pos h1]
      by_cases h3 : j - 3 < k
      · rw [if_pos h3, if_pos (by omega)]
      · rw [if_neg h3, if_neg (by omega)]
    · rw [if_neg h1, if_neg h1]
theorem Fl.refOut (h : Fl ys R D rs ds k m xs) (hk : R ≤ k) : Fl ys R D rs ds (k + 1) m xs := by
  refine ⟨h.1, fun j => ?_⟩
  rw [h.2 j]
  by_cases h1 : 3 ≤ j ∧ j < 3 + R
  · rw [if_pos h1, if_pos h1, if_pos (by omega), if_pos (by omega)]
  · rw [if_neg h1, if_neg h1]
theorem Fl.num (h : Fl ys R D rs ds k m xs) (hm : m < D) (hR : 3 + R + D ≤ 200) (u : Int) (hu : ds.getD m 0 = u) : Fl ys R D rs ds k (m + 1) (xs.set (3 + R + m) u) := by
  refine ⟨by rw [List.length_set]; exact h.1, fun j => ?_⟩
  rw [getD_set _ _ _ _ (by rw [h.1]; omega)]
  by_cases e : j = 3 + R + m
  · subst e
    rw [if_pos rfl, if_neg (by omega), if_pos (by omega), if_pos (by omega), show 3 + R + m - (3 + R) = m by omega, hu]
  · rw [if_neg e, h.2 j]
    by_cases h1 : 3 ≤ j ∧ j < 3 + R
    · rw [if_pos h1, if_pos h1]
    · rw [if_neg h1, if_neg h1]
      by_cases h2 : 3 + R ≤ j ∧ j < 3 + R + D
      · rw [if_pos h2, if_pos h2]
        by_cases h3 : j - (3 + R) < m
        · rw [if_pos h3, if_pos (by omega)]
        · rw [if_neg h3, if_neg (by omega)]
      · rw [if_neg h2, if_neg h2]
theorem Fl.numOut (h : Fl ys R D rs ds k m xs) (hm : D ≤ m) : Fl ys R D rs ds k (m + 1) xs := by
  refine ⟨h.1, fun j => ?_⟩
  rw [h.2 j]
  by_cases h1 : 3 ≤ j ∧ j < 3 + R
  · rw [if_pos h1, if_pos h1]
  · rw [if_neg h1, if_neg h1]
    by_cases h2 : 3 + R ≤ j ∧ j < 3 + R + D
    · rw [if_pos h2, if_pos h2, if_pos (by omega), if_pos (by omega)]
    · rw [if_neg h2, if_neg h2]
theorem Fl.far (h : Fl ys R D rs ds k m xs) (j : Nat) (hj : j < 3 ∨ 3 + R + D ≤ j) : xs.getD j 0 = ys.getD j 0 := by
  rw [h.2 j, if_neg (by omega), if_neg (by omega)]
theorem Fl.ob {i : Nat} {c : Cl} {l : Int} (h : Fl ys R D rs ds k m xs) (ho : IsOb ys cs 1 i c l) (hl : ys.length = 200) : IsOb xs cs 1 i c l :=
  ho.same (h.1.trans hl.symm) (h.far 1 (by omega)) (h.far 2 (by omega))
theorem Fl.atRef (h : Fl ys R D rs ds k m xs) {j : Nat} (hj : j < R) : xs.getD (3 + j) 0 = if j < k then rs.getD j 0 else 0 := by
  rw [h.2, if_pos (by omega), show 3 + j - 3 = j by omega]
theorem Fl.atNum (h : Fl ys R D rs ds k m xs) {j : Nat} (hj : j < D) : xs.getD (3 + R + j) 0 = if j < m then ds.getD j 0 else 0 := by
  rw [h.2, if_neg (by omega), if_pos (by omega), show 3 + R + j - (3 + R) = j by omega]
end
end Go.Proofs.Ytgknndbahdjghaa.L6

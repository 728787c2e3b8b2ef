/- The answers of a table of classes as numbers. Conditions: none; nothing here speaks of the program. -/
import Derived.Test.YtjofdamobnemcaaL5Tb
namespace Go.Proofs.Ytjofdamobnemcaa.L5
open Go.ChangeShapes Go.WideShapes Go.ChangeAt Go.RowKit
set_option linter.unusedVariables false

/-- The class of a number; what Shape, Words and Holds answer of it. -/
def clAt (cs : List Cl) (n : Int) : Option Cl := if 1 ≤ n then cs[(n - 1).toNat]? else none
def shX (o : Option Cl) (l : Int) : Int := match o with
  | none => 4
  | some c => if l < 0 ∨ (0 < l ∧ c.k ≠ 2) then 1 else if 30 < l then 8 else 0
def shR (o : Option Cl) (l : Int) : Int := match o with
  | none => 0
  | some c => if shX (some c) l = 0 then c.r + l else 0
def shD (o : Option Cl) (l : Int) : Int := match o with
  | none => 0
  | some c => if shX (some c) l = 0 then c.d else 0
def woV (o : Option Cl) (l : Int) : Int := if shX o l = 0 then 2 + shR o l + shD o l else 0
def hoB (o : Option Cl) (f : Int) : Bool := match o with
  | none => false
  | some c => decide (0 ≤ f) && (decide (0 < f) || !isRf c.k)
theorem clAt_none {cs : List Cl} {n : Int} (h : clAt cs n = none) : n < 1 ∨ (cs.length : Int) < n := by
  unfold clAt at h
  split at h
  · rw [List.getElem?_eq_none_iff] at h; omega
  · omega
theorem clAt_some {cs : List Cl} {n : Int} {c : Cl} (h : clAt cs n = some c) : ∃ k : Nat, n = k + 1 ∧ k < cs.length ∧ cs[k]? = some c := by
  unfold clAt at h
  split at h
  · exact ⟨(n - 1).toNat, by omega, (List.getElem?_eq_some_iff.1 h).1, h⟩
  · cases h
theorem clAt_at {cs : List Cl} {k : Nat} {c : Cl} (h : cs[k]? = some c) : clAt cs ((k : Int) + 1) = some c := by
  have e : ((k : Int) + 1 - 1).toNat = k := by omega
  unfold clAt
  rw [if_pos (by omega), e, h]
theorem clAt_out {cs : List Cl} {n : Int} (h : n < 1 ∨ (cs.length : Int) < n) : clAt cs n = none := by
  unfold clAt
  split
  · rw [List.getElem?_eq_none_iff]; omega
  · rfl
/-- What is so of a class that can be. -/
theorem rt_bd {K R D : Int} {f : Bool} (h : rtB K R D f = true) : 0 ≤ R ∧ R ≤ 30 ∧ 0 ≤ D ∧ D ≤ 30 ∧ R + D ≤ 30 ∧ (K = 2 → R = 0 ∧ D = 0) ∧ (K = 1 ∨ K = 2 ∨ K = 3 ∨ K = 4 ∨ K = 5) := by
  unfold rtB fitB at h
  by_cases h3 : isRf K = true
  · rw [if_pos h3] at h
    simp at h
    have h3' : K = 3 ∨ K = 4 ∨ K = 5 := by simpa [isRf] using h3
    omega
  · rw [if_neg h3] at h
    by_cases h1 : K = 1
    · rw [if_pos h1] at h; simp at h; omega
    · rw [if_neg h1] at h
      by_cases h2 : K = 2
      · rw [if_pos h2] at h; simp at h; omega
      · rw [if_neg h2] at h; simp at h
theorem all_rt {cs : List Cl} (h : cs.all Cl.rt = true) {k : Nat} {c : Cl} (hc : cs[k]? = some c) : rtB c.k c.r c.d c.f = true :=
  List.all_eq_true.1 h c (List.mem_of_getElem? hc)
theorem clAt_rt {cs : List Cl} (h : cs.all Cl.rt = true) {n : Int} {c : Cl} (hc : clAt cs n = some c) : rtB c.k c.r c.d c.f = true := by
  obtain ⟨k, _, _, hk⟩ := clAt_some hc
  exact all_rt h hk
theorem new_zero {cs : List Cl} (h : newX cs = 0) : cs.all Cl.rt = true ∧ cs.length < 64 := by
  unfold newX at h
  split at h
  · split at h
    · exact ⟨‹_›, ‹_›⟩
    · exact absurd h (by decide)
  · exact absurd h (by decide)
/-- How great the answers are. -/
theorem sh_bd {o : Option Cl} (h : ∀ c, o = some c → rtB c.k c.r c.d c.f = true) (l : Int) : 0 ≤ shR o l ∧ shR o l ≤ 30 ∧ 0 ≤ shD o l ∧ shD o l ≤ 30 ∧ shR o l + shD o l ≤ 30 := by
  cases o with
  | none => simp [shR, shD]
  | some c =>
    have := rt_bd (h c rfl)
    simp only [shR, shD]
    by_cases hX : shX (some c) l = 0
    · rw [if_pos hX, if_pos hX]
      simp only [shX] at hX
      split at hX
      · omega
      · split at hX <;> omega
    · rw [if_neg hX, if_neg hX]; omega
end Go.Proofs.Ytjofdamobnemcaa.L5

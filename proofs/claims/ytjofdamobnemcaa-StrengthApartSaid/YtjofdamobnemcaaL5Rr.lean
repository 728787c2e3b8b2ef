/- What the document's answer says of a class: can it be. Conditions: none. -/
import Derived.Test.YtjofdamobnemcaaL5Cl
namespace Go.Proofs.Ytjofdamobnemcaa.L5
open Go.ChangeShapes Go.WideShapes Go.ChangeAt Go.RowKit
set_option linter.unusedVariables false

set_option maxHeartbeats 1000000 in
theorem rright_any (K R D : Int) (f : Bool) (w : World) :
    Calls Try.prog 28 #[clV K R D f] w fun e w' => e = .returned (.bool (rtB K R D f)) ∧ Grow w w' := by
  by_cases hR : 0 ≤ R
  rotate_left
  · have HE := hide (show rtB K R D f = false by simp [rtB, hR])
    have h' : decide (R < 0) = true := by simp; omega
    go_enter Try.func28, Try.ntmps28
    go_wp2
    go_ret
    exact ⟨ret_bool HE.out.symm, Grow.box _ _⟩
  have h0 : decide (R < 0) = false := by simp; omega
  by_cases hD : 0 ≤ D
  rotate_left
  · have HE := hide (show rtB K R D f = false by simp [rtB, hD])
    have h' : decide (D < 0) = true := by simp; omega
    go_enter Try.func28, Try.ntmps28
    go_wp2
    go_ret
    exact ⟨ret_bool HE.out.symm, Grow.box _ _⟩
  have h1 : decide (D < 0) = false := by simp; omega
  by_cases hR2 : R ≤ 32
  rotate_left
  · have HE := hide (show rtB K R D f = false by
      have e1 : fitB R D = false := by simp [fitB]; omega
      have e2 : R ≠ 0 := by omega
      simp [rtB, e1, e2])
    have h' : decide (32 < R) = true := by simp; omega
    go_enter Try.func28, Try.ntmps28
    go_wp2
    go_ret
    exact ⟨ret_bool HE.out.symm, Grow.box _ _⟩
  have h2 : decide (32 < R) = false := by simp; omega
  by_cases hD2 : D ≤ 32
  rotate_left
  · have HE := hide (show rtB K R D f = false by
      have e1 : fitB R D = false := by simp [fitB]; omega
      have e2 : D ≠ 0 := by omega
      simp [rtB, e1, e2])
    have h' : decide (32 < D) = true := by simp; omega
    go_enter Try.func28, Try.ntmps28
    go_wp2
    go_ret
    exact ⟨ret_bool HE.out.symm, Grow.box _ _⟩
  have h3 : decide (32 < D) = false := by simp; omega
  have HF := hide (show fitB R D = decide (2 + R + D ≤ 32) by simp only [fitB, decide_eq_decide]; omega)
  by_cases k1 : K = 1
  · have HE := hide (show rtB K R D f = decide (2 + R + D ≤ 32) by rw [← HF.out]; simp [rtB, hR, hD, k1, isRf])
    go_enter Try.func28, Try.ntmps28
    go_wp2
    go_ret
    exact ⟨ret_bool HE.out.symm, Grow.box _ _⟩
  by_cases k2 : K = 2
  · by_cases r0 : R = 0
    · by_cases d0 : D = 0
      · have HE := hide (show rtB K R D f = true by simp [rtB, r0, d0, k2, isRf])
        subst r0 d0 k2
        go_enter Try.func28, Try.ntmps28
        go_wp2
        go_ret
        exact ⟨ret_bool HE.out.symm, Grow.box _ _⟩
      · have HE := hide (show rtB K R D f = false by simp [rtB, r0, d0, k2, isRf])
        subst r0 k2
        have d0' : (D == 0) = false := by simpa using d0
        go_enter Try.func28, Try.ntmps28
        go_wp2
        go_ret
        exact ⟨ret_bool HE.out.symm, Grow.box _ _⟩
    · have HE := hide (show rtB K R D f = false by simp [rtB, r0, k2, isRf])
      subst k2
      have r0' : (R == 0) = false := by simpa using r0
      go_enter Try.func28, Try.ntmps28
      go_wp2
      go_ret
      exact ⟨ret_bool HE.out.symm, Grow.box _ _⟩
  by_cases hI : isRf K = true
  · by_cases r1 : 1 ≤ R
    · by_cases d2 : 2 ≤ D
      · have HE := hide (show rtB K R D f = (decide (2 + R + D ≤ 32) && !f) by rw [← HF.out]; simp [rtB, hR, hD, r1, d2, hI])
        have hI' : K = 3 ∨ K = 4 ∨ K = 5 := by simpa [isRf] using hI
        clear hI k1 k2
        rcases hI' with rfl | rfl | rfl
        · skip
          cases hF2 : decide (2 + R + D ≤ 32)
          · try rw [hF2, Bool.false_and] at HE
            go_enter Try.func28, Try.ntmps28
            go_wp2
            go_ret
            exact ⟨ret_bool HE.out.symm, Grow.box _ _⟩
          · try rw [hF2, Bool.true_and] at HE
            go_enter Try.func28, Try.ntmps28
            go_wp2
            go_ret
            exact ⟨ret_bool HE.out.symm, Grow.box _ _⟩
        · skip
          cases hF2 : decide (2 + R + D ≤ 32)
          · try rw [hF2, Bool.false_and] at HE
            go_enter Try.func28, Try.ntmps28
            go_wp2
            go_ret
            exact ⟨ret_bool HE.out.symm, Grow.box _ _⟩
          · try rw [hF2, Bool.true_and] at HE
            go_enter Try.func28, Try.ntmps28
            go_wp2
            go_ret
            exact ⟨ret_bool HE.out.symm, Grow.box _ _⟩
        · skip
          cases hF2 : decide (2 + R + D ≤ 32)
          · try rw [hF2, Bool.false_and] at HE
            go_enter Try.func28, Try.ntmps28
            go_wp2
            go_ret
            exact ⟨ret_bool HE.out.symm, Grow.box _ _⟩
          · try rw [hF2, Bool.true_and] at HE
            go_enter Try.func28, Try.ntmps28
            go_wp2
            go_ret
            exact ⟨ret_bool HE.out.symm, Grow.box _ _⟩
      · have HE := hide (show rtB K R D f = false by simp [rtB, d2, hI])
        have d2' : decide (2 ≤ D) = false := by simpa using d2
        have hI' : K = 3 ∨ K = 4 ∨ K = 5 := by simpa [isRf] using hI
        clear hI k1 k2
        rcases hI' with rfl | rfl | rfl
        · skip
          cases hF2 : decide (2 + R + D ≤ 32)
          · try rw [hF2, Bool.false_and] at HE
            go_enter Try.func28, Try.ntmps28
            go_wp2
            go_ret
            exact ⟨ret_bool HE.out.symm, Grow.box _ _⟩
          · try rw [hF2, Bool.true_and] at HE
            go_enter Try.func28, Try.ntmps28
            go_wp2
            go_ret
            exact ⟨ret_bool HE.out.symm, Grow.box _ _⟩
        · skip
          cases hF2 : decide (2 + R + D ≤ 32)
          · try rw [hF2, Bool.false_and] at HE
            go_enter Try.func28, Try.ntmps28
            go_wp2
            go_ret
            exact ⟨ret_bool HE.out.symm, Grow.box _ _⟩
          · try rw [hF2, Bool.true_and] at HE
            go_enter Try.func28, Try.ntmps28
            go_wp2
            go_ret
            exact ⟨ret_bool HE.out.symm, Grow.box _ _⟩
        · skip
          cases hF2 : decide (2 + R + D ≤ 32)
          · try rw [hF2, Bool.false_and] at HE
            go_enter Try.func28, Try.ntmps28
            go_wp2
            go_ret
            exact ⟨ret_bool HE.out.symm, Grow.box _ _⟩
          · try rw [hF2, Bool.true_and] at HE
            go_enter Try.func28, Try.ntmps28
            go_wp2
            go_ret
            exact ⟨ret_bool HE.out.symm, Grow.box _ _⟩
    · have HE := hide (show rtB K R D f = false by simp [rtB, r1, hI])
      have r1' : decide (1 ≤ R) = false := by simpa using r1
      have hI' : K = 3 ∨ K = 4 ∨ K = 5 := by simpa [isRf] using hI
      clear hI k1 k2
      rcases hI' with rfl | rfl | rfl
      · skip
        cases hF2 : decide (2 + R + D ≤ 32)
        · try rw [hF2, Bool.false_and] at HE
          go_enter Try.func28, Try.ntmps28
          go_wp2
          go_ret
          exact ⟨ret_bool HE.out.symm, Grow.box _ _⟩
        · try rw [hF2, Bool.true_and] at HE
          go_enter Try.func28, Try.ntmps28
          go_wp2
          go_ret
          exact ⟨ret_bool HE.out.symm, Grow.box _ _⟩
      · skip
        cases hF2 : decide (2 + R + D ≤ 32)
        · try rw [hF2, Bool.false_and] at HE
          go_enter Try.func28, Try.ntmps28
          go_wp2
          go_ret
          exact ⟨ret_bool HE.out.symm, Grow.box _ _⟩
        · try rw [hF2, Bool.true_and] at HE
          go_enter Try.func28, Try.ntmps28
          go_wp2
          go_ret
          exact ⟨ret_bool HE.out.symm, Grow.box _ _⟩
      · skip
        cases hF2 : decide (2 + R + D ≤ 32)
        · try rw [hF2, Bool.false_and] at HE
          go_enter Try.func28, Try.ntmps28
          go_wp2
          go_ret
          exact ⟨ret_bool HE.out.symm, Grow.box _ _⟩
        · try rw [hF2, Bool.true_and] at HE
          go_enter Try.func28, Try.ntmps28
          go_wp2
          go_ret
          exact ⟨ret_bool HE.out.symm, Grow.box _ _⟩
  · have HE := hide (show rtB K R D f = false by simp [rtB, k1, k2, hI])
    have k3 : ¬ K = 3 := by rintro rfl; exact hI (by decide)
    have k4 : ¬ K = 4 := by rintro rfl; exact hI (by decide)
    have k5 : ¬ K = 5 := by rintro rfl; exact hI (by decide)
    go_enter Try.func28, Try.ntmps28
    go_wp2
    go_ret
    exact ⟨ret_bool HE.out.symm, Grow.box _ _⟩
theorem rright_is {K R D : Int} {f b : Bool} (w : World) (h : rtB K R D f = b) :
    Calls Try.prog 28 #[clV K R D f] w fun e w' => e = .returned (.bool b) ∧ Grow w w' := by
  have h' := rright_any K R D f w
  rwa [h] at h'
end Go.Proofs.Ytjofdamobnemcaa.L5

/- What the calls of package head, and of package gleaningref04, answer; they change nothing but make new memory. Conditions: the numbers given fit their kinds. -/
import Derived.Test.YtgknndbahdjghaaL4Hd
import Derived.Handy
import Derived.Deep.RegionHeld3
namespace Go.Proofs.Ytgknndbahdjghaa.L4
open Go.ChangeShapes Go.WideShapes Go.ChangeAt Go.RowKit
set_option linter.unusedVariables false

set_option maxHeartbeats 400000 in
theorem within_any (n m : Int) (w : World) :
    Calls Try.prog 56 #[.int .i64 n, .int .i64 m] w fun e w' => e = .returned (.bool (inB n m)) ∧ w = w' := by
  by_cases h1 : 0 ≤ n
  · by_cases h2 : n ≤ m
    · have HE := hide (show inB n m = true by simp [inB]; omega)
      go_enter Try.func56, Try.ntmps56
      go_wp2
      go_ret
      exact ⟨ret_bool HE.out.symm, rfl⟩
    · have HE := hide (show inB n m = false by simp [inB]; omega)
      have h2' : decide (n ≤ m) = false := by simpa using h2
      go_enter Try.func56, Try.ntmps56
      go_wp2
      go_ret
      exact ⟨ret_bool HE.out.symm, rfl⟩
  · have HE := hide (show inB n m = false by simp [inB]; omega)
    have h1' : decide (0 ≤ n) = false := by simpa using h1
    go_enter Try.func56, Try.ntmps56
    go_wp2
    go_ret
    exact ⟨ret_bool HE.out.symm, rfl⟩

set_option maxHeartbeats 1000000 in
theorem right_any (C A F : Int) (m f d : Bool) (w : World) :
    Calls Try.prog 46 #[hdV C A F m f d] w fun e w' => e = .returned (.bool (riB C A F f d)) ∧ Grow w w' := by
  cases h1 : inB C 63
  · have HE := hide (show riB C A F f d = false by simp [riB, h1])
    go_enter Try.func46, Try.ntmps46
    go_wp2_with (go_at_call 56; refine (within_any _ _ _).mono ?_; rintro e w' ⟨rfl, rfl⟩)
    go_ret
    exact ⟨ret_bool HE.out.symm, Grow.box _ _⟩
  · cases h2 : inB A 7
    · have HE := hide (show riB C A F f d = false by simp [riB, h2])
      go_enter Try.func46, Try.ntmps46
      go_wp2_with (go_at_call 56; refine (within_any _ _ _).mono ?_; rintro e w' ⟨rfl, rfl⟩)
      go_ret
      exact ⟨ret_bool HE.out.symm, Grow.box _ _⟩
    · cases h3 : inB F 4095
      · have HE := hide (show riB C A F f d = false by simp [riB, h3])
        go_enter Try.func46, Try.ntmps46
        go_wp2_with (go_at_call 56; refine (within_any _ _ _).mono ?_; rintro e w' ⟨rfl, rfl⟩)
        go_ret
        exact ⟨ret_bool HE.out.symm, Grow.box _ _⟩
      · cases f
        · have HE := hide (show riB C A F false d = true by simp [riB, h1, h2, h3])
          go_enter Try.func46, Try.ntmps46
          go_wp2_with (go_at_call 56; refine (within_any _ _ _).mono ?_; rintro e w' ⟨rfl, rfl⟩)
          go_ret
          exact ⟨ret_bool HE.out.symm, Grow.box _ _⟩
        · cases d
          · have HE := hide (show riB C A F true false = true by simp [riB, h1, h2, h3])
            go_enter Try.func46, Try.ntmps46
            go_wp2_with (go_at_call 56; refine (within_any _ _ _).mono ?_; rintro e w' ⟨rfl, rfl⟩)
            go_ret
            exact ⟨ret_bool HE.out.symm, Grow.box _ _⟩
          · have HE := hide (show riB C A F true true = false by simp [riB])
            go_enter Try.func46, Try.ntmps46
            go_wp2_with (go_at_call 56; refine (within_any _ _ _).mono ?_; rintro e w' ⟨rfl, rfl⟩)
            go_ret
            exact ⟨ret_bool HE.out.symm, Grow.box _ _⟩

end Go.Proofs.Ytgknndbahdjghaa.L4

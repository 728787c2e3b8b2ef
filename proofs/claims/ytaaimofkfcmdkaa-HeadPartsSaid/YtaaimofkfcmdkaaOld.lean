/- What Older answers, and that the program is awake. Conditions: the age given is from 0 to 7. -/
import Derived.Test.YtaaimofkfcmdkaaWord
import Derived.Test.YtaaimofkfcmdkaaOf
import Derived.Test.YtaaimofkfcmdkaaOpen
namespace Go.Proofs.Ytaaimofkfcmdkaa
open Go.ChangeShapes Go.WideShapes Go.ChangeAt Go.RowKit
set_option linter.unusedVariables false

def olA (A : Int) : Int := if A ≤ 6 then A + 1 else 7
set_option maxHeartbeats 1000000 in
theorem older_in (C A F : Int) (m f d : Bool) (w : World) (b0 : 0 ≤ A) (b1 : A ≤ 7) :
    Calls Try.prog 16 #[hdV C A F m f d] w fun e w' => e = .returned (hdV C (olA A) F m f d) ∧ Grow w w' := by
  have hB : (if A ≤ 6 then A else 6) = olA A - 1 := by unfold olA; split <;> omega
  have kmin : ∀ (ts : Array TypeId) (t : TypeId) (W : World), (Builtin.min_ ts t #[.int .i64 A, .int .i64 6]).run Try.prog W = .ok (.int .i64 (olA A - 1)) W := by
    intro ts t W
    rw [run_min_int2]; congr 2; split <;> omega
  have hl : 0 ≤ olA A ∧ olA A ≤ 7 := by unfold olA; split <;> omega
  generalize olA A = B at *
  obtain ⟨l1, l2⟩ := hl
  clear hB b0 b1
  go_enter Try.func16, Try.ntmps16
  go_wp2
  refine bodyPost_ret (v := hdV C B F m f d) (by simp [results, Try.results16, go_sem]) rfl ⟨rfl, (Grow.box _ _).alloc _⟩

theorem word_2179 (w : World) : Calls Try.prog 10 #[hdV 3 2 0 false true false] w fun e w' => e = .returned (.tuple #[.int .i64 2179, .int .i64 0]) ∧ Grow w w' := by
  have h := word_any 3 2 0 false true false w
  simpa only [show wdV 3 2 0 false true false = 2179 by decide, show wdX 3 2 0 true false = 0 by decide] using h
theorem of_2179 (w : World) : Calls Try.prog 14 #[.int .i64 2179] w fun e w' => e = .returned (.tuple #[hdV 3 2 0 false true false, .int .i64 0]) ∧ Grow w w' := by
  have h := of_any 2179 w
  simpa only [ofV, show ofX 2179 = 0 by decide, show ofC 2179 = 3 by decide, show ofA 2179 = 2 by decide, show ofF 2179 = 0 by decide, show ofM 2179 = false by decide, show ofN 2179 = true by decide, show ofD 2179 = false by decide] using h
set_option maxHeartbeats 1000000 in
theorem awake_any (w : World) :
    Calls Try.prog 9 #[] w fun e w' => e = .returned (.bool true) ∧ Grow w w' := by
  go_enter Try.func9, Try.ntmps9
  go_wp2_with fail
  refine (word_2179 _).mono ?_
  rintro e w1 ⟨rfl, c1⟩
  go_wp2_with fail
  refine (of_2179 _).mono ?_
  rintro e w2 ⟨rfl, c2⟩
  go_wp2
  go_ret
  exact ⟨rfl, (c1.trans c2).alloc _⟩
section
variable {C A F : Int} {m f d b : Bool}
theorem word_yes (w : World) (hr : riB C A F f d = true) : Calls Try.prog 10 #[hdV C A F m f d] w fun e w' => e = .returned (.tuple #[.int .i64 (wd C A F m f d), .int .i64 0]) ∧ Grow w w' := by
  have h := word_any C A F m f d w
  simpa only [show wdV C A F m f d = wd C A F m f d by simp [wdV, hr], show wdX C A F f d = 0 by simp [wdX, hr]] using h
theorem word_no (w : World) (hr : riB C A F f d = false) : Calls Try.prog 10 #[hdV C A F m f d] w fun e w' => e = .returned (.tuple #[.int .i64 0, .int .i64 1]) ∧ Grow w w' := by
  have h := word_any C A F m f d w
  simpa only [show wdV C A F m f d = 0 by simp [wdV, hr], show wdX C A F f d = 1 by simp [wdX, hr]] using h
theorem right_is (w : World) (hr : riB C A F f d = b) : Calls Try.prog 12 #[hdV C A F m f d] w fun e w' => e = .returned (.bool b) ∧ Grow w w' := by
  have h := right_any C A F m f d w
  rwa [hr] at h
theorem rright_is (w : World) (hr : riB C A F f d = b) : Calls Try.prog 11 #[hdV C A F m f d] w fun e w' => e = .returned (.bool b) ∧ Grow w w' := by
  have h := rright_any C A F m f d w
  rwa [hr] at h
theorem rword_yes (w : World) (hr : riB C A F f d = true) : Calls Try.prog 13 #[hdV C A F m f d] w fun e w' => e = .returned (.int .i64 (wd C A F m f d)) ∧ Grow w w' := by
  obtain ⟨b1, b2, b3, b4, b5, b6, _⟩ := ri_true hr
  exact rword_in C A F m f d w b1 b2 b3 b4 b5 b6
end
theorem fits_head {cs : List Value} (h : fits [some .i64, some .i64, some .i64, none, none, none] cs) :
    ∃ (C A F : Int) (m f d : Bool), cs = [.int .i64 C, .int .i64 A, .int .i64 F, .bool m, .bool f, .bool d] ∧ (Lit.int .i64 C).wf = true ∧ (Lit.int .i64 A).wf = true ∧ (Lit.int .i64 F).wf = true := by
  obtain ⟨C, c1, rfl, hC, h1⟩ := fits_int h
  obtain ⟨A, c2, rfl, hA, h2⟩ := fits_int h1
  obtain ⟨F, c3, rfl, hF, h3⟩ := fits_int h2
  obtain ⟨m, c4, rfl, h4⟩ := fits_bool h3
  obtain ⟨f, c5, rfl, h5⟩ := fits_bool h4
  obtain ⟨d, c6, rfl, h6⟩ := fits_bool h5
  obtain rfl := fits_nil h6
  exact ⟨C, A, F, m, f, d, rfl, hC, hA, hF⟩
end Go.Proofs.Ytaaimofkfcmdkaa

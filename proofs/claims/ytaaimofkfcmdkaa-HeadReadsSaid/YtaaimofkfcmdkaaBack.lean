/- A head that can be and its word tell each other. Conditions: none. -/
import Derived.Test.YtaaimofkfcmdkaaOld
namespace Go.Proofs.Ytaaimofkfcmdkaa
open Go.ChangeShapes Go.WideShapes Go.ChangeAt Go.RowKit
set_option linter.unusedVariables false

theorem b2i_bit (n k : Int) : b2i k (bitB n k) = if n / k % 2 = 1 then k else 0 := by simp [b2i, bitB]
theorem wd_of {n : Int} (h : ofB n = true) : wd (n % 64) (n / 64 % 16) (n / 8192) (bitB n 1024) (bitB n 2048) (bitB n 4096) = n := by
  obtain ⟨b1, b2, b3, b4, b5, b6, _⟩ := ri_true h
  unfold wd
  rw [b2i_bit, b2i_bit, b2i_bit]
  split <;> split <;> split <;> omega
theorem wd_parts {C A F : Int} {m f d : Bool} (hr : riB C A F f d = true) : wd C A F m f d % 64 = C ∧ wd C A F m f d / 64 % 16 = A ∧ wd C A F m f d / 8192 = F ∧ bitB (wd C A F m f d) 1024 = m ∧ bitB (wd C A F m f d) 2048 = f ∧ bitB (wd C A F m f d) 4096 = d := by
  obtain ⟨b1, b2, b3, b4, b5, b6, _⟩ := ri_true hr
  have e1 : b2i 1024 m = if m = true then 1024 else 0 := rfl
  have e2 : b2i 2048 f = if f = true then 2048 else 0 := rfl
  have e3 : b2i 4096 d = if d = true then 4096 else 0 := rfl
  unfold wd
  rw [e1, e2, e3]
  refine ⟨?_, ?_, ?_, ?_, ?_, ?_⟩
  · split <;> split <;> split <;> omega
  · split <;> split <;> split <;> omega
  · split <;> split <;> split <;> omega
  · cases m <;> simp only [bitB, Bool.false_eq_true, if_false, if_true, decide_eq_true_eq, decide_eq_false_iff_not] <;> split <;> split <;> omega
  · cases f <;> simp only [bitB, Bool.false_eq_true, if_false, if_true, decide_eq_true_eq, decide_eq_false_iff_not] <;> split <;> split <;> omega
  · cases d <;> simp only [bitB, Bool.false_eq_true, if_false, if_true, decide_eq_true_eq, decide_eq_false_iff_not] <;> split <;> split <;> omega
theorem ofB_wd {C A F : Int} {m f d : Bool} (hr : riB C A F f d = true) : ofB (wd C A F m f d) = true := by
  obtain ⟨e1, e2, e3, e4, e5, e6⟩ := wd_parts (m := m) hr
  unfold ofB
  rw [e1, e2, e3, e5, e6]
  exact hr
theorem ofV_wd {C A F : Int} {m f d : Bool} (hr : riB C A F f d = true) : ofV (wd C A F m f d) = hdV C A F m f d ∧ ofX (wd C A F m f d) = 0 := by
  obtain ⟨e1, e2, e3, e4, e5, e6⟩ := wd_parts (m := m) hr
  have h := of_yes (ofB_wd (m := m) hr)
  rw [h.2, e1, e2, e3, e4, e5, e6]
  exact ⟨rfl, h.1⟩
theorem word_ex {n : Int} (h : ofB n = true) : ∃ (C A F : Int) (m f d : Bool), n = wd C A F m f d ∧ riB C A F f d = true :=
  ⟨_, _, _, _, _, _, (wd_of h).symm, h⟩
theorem wd_inj {C A F C' A' F' : Int} {m f d m' f' d' : Bool} (hr : riB C A F f d = true) (hr' : riB C' A' F' f' d' = true) (h : wd C A F m f d = wd C' A' F' m' f' d') : C = C' ∧ A = A' ∧ F = F' ∧ m = m' ∧ f = f' ∧ d = d' := by
  obtain ⟨e1, e2, e3, e4, e5, e6⟩ := wd_parts (m := m) hr
  obtain ⟨g1, g2, g3, g4, g5, g6⟩ := wd_parts (m := m') hr'
  rw [h] at e1 e2 e3 e4 e5 e6
  exact ⟨e1.symm.trans g1, e2.symm.trans g2, e3.symm.trans g3, e4.symm.trans g4, e5.symm.trans g5, e6.symm.trans g6⟩
theorem wd_lt {C A F : Int} {m f d : Bool} (hr : riB C A F f d = true) : 0 ≤ wd C A F m f d ∧ wd C A F m f d < 33554432 := by
  obtain ⟨b1, b2, b3, b4, b5, b6, _⟩ := ri_true hr
  have m1 := b2i_bd 1024 (by decide) m
  have m2 := b2i_bd 2048 (by decide) f
  have m3 := b2i_bd 4096 (by decide) d
  unfold wd
  omega

section
variable {C A F : Int} {m f d : Bool}
theorem of_word (w : World) (hr : riB C A F f d = true) : Calls Try.prog 14 #[.int .i64 (wd C A F m f d)] w fun e w' => e = .returned (.tuple #[hdV C A F m f d, .int .i64 0]) ∧ Grow w w' := by
  have h := of_any (wd C A F m f d) w
  rwa [(ofV_wd hr).1, (ofV_wd hr).2] at h
theorem rof_word (w : World) (hr : riB C A F f d = true) : Calls Try.prog 15 #[.int .i64 (wd C A F m f d)] w fun e w' => e = .returned (.tuple #[hdV C A F m f d, .int .i64 0]) ∧ Grow w w' := by
  have h := rof_any (wd C A F m f d) w
  rwa [(ofV_wd hr).1, (ofV_wd hr).2] at h
theorem of_not {n : Int} (w : World) (hr : ofB n = false) : Calls Try.prog 14 #[.int .i64 n] w fun e w' => e = .returned (.tuple #[hdV 0 0 0 false false false, .int .i64 12]) ∧ Grow w w' := by
  have h := of_any n w
  rwa [(of_no hr).1, (of_no hr).2] at h
theorem rof_not {n : Int} (w : World) (hr : ofB n = false) : Calls Try.prog 15 #[.int .i64 n] w fun e w' => e = .returned (.tuple #[hdV 0 0 0 false false false, .int .i64 12]) ∧ Grow w w' := by
  have h := rof_any n w
  rwa [(of_no hr).1, (of_no hr).2] at h
theorem word_0 (w : World) : Calls Try.prog 10 #[hdV 0 0 0 false false false] w fun e w' => e = .returned (.tuple #[.int .i64 0, .int .i64 0]) ∧ Grow w w' := by
  have h := word_yes (C := 0) (A := 0) (F := 0) (m := false) (f := false) (d := false) w (by decide)
  simpa only [show wd 0 0 0 false false false = 0 by decide] using h
end
theorem sameH (C A F C' A' F' : Int) (m f d m' f' d' : Bool) (W : World) :
    (Op.equalIn 10000 25 (.agg #[.int .i64 C, .int .i64 A, .int .i64 F, .bool m, .bool f, .bool d]) (.agg #[.int .i64 C', .int .i64 A', .int .i64 F', .bool m', .bool f', .bool d'])).run Try.prog W = .ok (decide (C = C' ∧ A = A' ∧ F = F' ∧ m = m' ∧ f = f' ∧ d = d')) W := by
  go_simp
  by_cases h1 : C = C' <;> by_cases h2 : A = A' <;> by_cases h3 : F = F' <;> cases m <;> cases m' <;> cases f <;> cases f' <;> cases d <;> cases d' <;> simp [h1, h2, h3, go_sem]
theorem sameR (C A F C' A' F' : Int) (m f d m' f' d' : Bool) (W : World) :
    (Op.equalIn 10000 23 (.agg #[.int .i64 C, .int .i64 A, .int .i64 F, .bool m, .bool f, .bool d]) (.agg #[.int .i64 C', .int .i64 A', .int .i64 F', .bool m', .bool f', .bool d'])).run Try.prog W = .ok (decide (C = C' ∧ A = A' ∧ F = F' ∧ m = m' ∧ f = f' ∧ d = d')) W := by
  go_simp
  by_cases h1 : C = C' <;> by_cases h2 : A = A' <;> by_cases h3 : F = F' <;> cases m <;> cases m' <;> cases f <;> cases f' <;> cases d <;> cases d' <;> simp [h1, h2, h3, go_sem]
end Go.Proofs.Ytaaimofkfcmdkaa

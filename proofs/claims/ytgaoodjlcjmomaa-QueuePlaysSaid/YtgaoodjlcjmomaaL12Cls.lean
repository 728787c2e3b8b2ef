/- The functions that the laws pass to Rename. Conditions: sums that fit an int; at most 4000000 things. -/
import Derived.Test.YtgaoodjlcjmomaaL12Ops
namespace Go.Proofs.Ytgaoodjlcjmomaa.L12
open Go.ChangeShapes Go.WideShapes Go.ChangeAt Go.RowKit
set_option linter.unusedVariables false
section
variable {w W : World} {b b2 n c : Nat} {a : Option Addr} {R : List Int} {x m : Int}
theorem cls_add (hb : W.cell? ⟨b, 0, none⟩ = some (.int .i64 m)) (h : -9223372036854775808 ≤ x + m ∧ x + m ≤ 9223372036854775807) :
    Calls Try.prog 17 #[.int .i64 x, ptr b] W fun e w' => e = .returned (.int .i64 (x + m)) ∧ W = w' := by
  have h1 := w64 h
  clear h
  go_enter Try.func17, Try.ntmps17
  go_wp2
  go_ret
  exact ⟨rfl, rfl⟩
theorem cls_up (hb : W.cell? ⟨b, 0, none⟩ = some (.int .i64 m)) (h0 : 0 ≤ m ∧ m ≤ 100000) (h : -1000000 ≤ x ∧ x ≤ 1000000000) :
    Calls Try.prog 25 #[.int .i64 x, ptr b] W fun e w' => e = .returned (.int .i64 (x + 1000 * m)) ∧ W = w' := by
  have h1 : IntKind.i64.wrap (1000 * m) = 1000 * m := w64 (by omega)
  have h2 : IntKind.i64.wrap (x + 1000 * m) = x + 1000 * m := w64 (by omega)
  clear h h0
  go_enter Try.func25, Try.ntmps25
  go_wp2
  go_ret
  exact ⟨rfl, rfl⟩
theorem cls_down (hb : W.cell? ⟨b, 0, none⟩ = some (.int .i64 m)) (h0 : 0 ≤ m ∧ m ≤ 100000) (h : -1000000 ≤ x ∧ x ≤ 1000000000) :
    Calls Try.prog 26 #[.int .i64 x, ptr b] W fun e w' => e = .returned (.int .i64 (x - 1000 * m + 500)) ∧ W = w' := by
  have h1 : IntKind.i64.wrap (1000 * m) = 1000 * m := w64 (by omega)
  have h2 : IntKind.i64.wrap (x - 1000 * m) = x - 1000 * m := w64 (by omega)
  have h3 : IntKind.i64.wrap (x - 1000 * m + 500) = x - 1000 * m + 500 := w64 (by omega)
  clear h h0
  go_enter Try.func26, Try.ntmps26
  go_wp2
  go_ret
  exact ⟨rfl, rfl⟩
theorem cls_five (h : -1000000 ≤ x ∧ x ≤ 1000000000) (W : World) :
    Calls Try.prog 27 #[.int .i64 x] W fun e w' => e = .returned (.int .i64 (x - 500)) ∧ W = w' := by
  have h1 : IntKind.i64.wrap (x - 500) = x - 500 := w64 (by omega)
  clear h
  go_enter Try.func27, Try.ntmps27
  go_wp2
  go_ret
  exact ⟨rfl, rfl⟩
theorem take_in {k : Nat} (hk : k < R.length) (hn : ¬ x ∈ R.take k) (he : ¬ R.getD k 0 = x) : ¬ x ∈ R.take (k + 1) := by
  rw [List.take_add_one, List.getElem?_eq_getElem hk]
  have e2 : R.getD k 0 = R[k] := by rw [List.getD_eq_getElem?_getD, List.getElem?_eq_getElem hk]; rfl
  rw [e2] at he
  simp only [List.mem_append, Option.toList_some, List.mem_singleton]
  rintro (h | h)
  · exact hn h
  · exact he h.symm
theorem getD_in {k : Nat} (hk : k < R.length) : R.getD k 0 ∈ R := by
  rw [List.getD_eq_getElem?_getD, List.getElem?_eq_getElem hk]
  exact List.getElem_mem _
def leftF (R : List Int) (x : Int) : Int := if x ∈ R then x else 0
def keepF (R : List Int) (m x : Int) : Int := if x ∈ R then x else if x < m then 0 else x
set_option maxRecDepth 100000 in
theorem cls_left (hb : W.cell? ⟨b, 0, none⟩ = some (.slice a n c)) (hr : L1.Rd W a n R) (hn : n < 10000000) :
    Calls Try.prog 29 #[.int .i64 x, ptr b] W fun e w' => e = .returned (.int .i64 (leftF R x)) ∧ W = w' := by
  have HR := hide hr
  have HN := hide hn
  clear hr hn
  go_enter Try.func29, Try.ntmps29
  go_wp2_with fail
  go_loopw [7] (fun v wr => ∃ k : Nat, k ≤ n ∧ v = .int .i64 k ∧ (¬ x ∈ R.take k) ∧ W = wr) (fun v _ => n - (Go.RowKit.intOf v).toNat)
  case atStart => exact ⟨0, Nat.zero_le _, rfl, by simp, rfl⟩
  case round =>
    obtain ⟨k, hk, rfl, hno, hw⟩ := hrel
    subst hw
    rcases Nat.eq_or_lt_of_le hk with rfl | hlt
    · have q1 : decide ((k : Int) < k) = false := by simp
      have e := HR.out.1
      rw [← e, List.take_length] at hno
      have HE := hide (show (leftF R x) = 0 from if_neg hno)
      clear hno hk e
      go_wp2
      go_ret
      exact ⟨ret_int HE.out.symm, rfl⟩
    · have q1 : decide ((k : Int) < n) = true := decide_eq_true (by omega)
      have q2 : (k : Int) < n := by omega
      obtain ⟨ad, rfl, hc⟩ := HR.out.at_ hlt
      have hkl : k < R.length := by rw [HR.out.1]; exact hlt
      have hw : IntKind.i64.wrap ((k : Int) + 1) = ((k + 1 : Nat) : Int) := (w64 (by have := HN.out; omega)).trans (by omega)
      by_cases he : R.getD k 0 = x
      · have hin : x ∈ R := he ▸ getD_in hkl
        have HE := hide (show (leftF R x) = x from if_pos hin)
        rw [he] at hc
        clear hno hk hkl he hin
        go_wp2
        go_ret
        exact ⟨ret_int HE.out.symm, rfl⟩
      · have HNO := hide (take_in hkl hno he)
        have q3 : (R.getD k 0 == x) = false := by simpa using he
        have HK := hide hlt
        clear hno hk hkl he hlt
        generalize R.getD k 0 = y at *
        go_wp2
        go_roundw
        case rel => exact ⟨k + 1, HK.out, rfl, HNO.out, by first | rfl | trivial⟩
        case measure => have := HK.out; simp [Go.RowKit.intOf]; omega
set_option maxRecDepth 100000 in
theorem cls_keep (hb : W.cell? ⟨b, 0, none⟩ = some (.slice a n c)) (hm : W.cell? ⟨b2, 2, none⟩ = some (.int .i64 m)) (hr : L1.Rd W a n R) (hn : n < 10000000) :
    Calls Try.prog 20 #[.int .i64 x, ptr b, ptr b2] W fun e w' => e = .returned (.int .i64 (keepF R m x)) ∧ W = w' := by
  have HR := hide hr
  have HN := hide hn
  clear hr hn
  go_enter Try.func20, Try.ntmps20
  go_wp2_with fail
  go_loopw [8] (fun v wr => ∃ k : Nat, k ≤ n ∧ v = .int .i64 k ∧ (¬ x ∈ R.take k) ∧ W = wr) (fun v _ => n - (Go.RowKit.intOf v).toNat)
  case atStart => exact ⟨0, Nat.zero_le _, rfl, by simp, rfl⟩
  case round =>
    obtain ⟨k, hk, rfl, hno, hw⟩ := hrel
    subst hw
    rcases Nat.eq_or_lt_of_le hk with rfl | hlt
    · have q1 : decide ((k : Int) < k) = false := by simp
      have e := HR.out.1
      rw [← e, List.take_length] at hno
      have HE := hide (show (keepF R m x) = (if x < m then 0 else x) from if_neg hno)
      clear hno hk e
      by_cases hlm : x < m
      · rw [if_pos hlm] at HE
        have q5 : decide (x < m) = true := decide_eq_true hlm
        clear hlm
        go_wp2
        go_ret
        exact ⟨ret_int HE.out.symm, rfl⟩
      · rw [if_neg hlm] at HE
        have q5 : decide (x < m) = false := decide_eq_false hlm
        clear hlm
        go_wp2
        go_ret
        exact ⟨ret_int HE.out.symm, rfl⟩
    · have q1 : decide ((k : Int) < n) = true := decide_eq_true (by omega)
      have q2 : (k : Int) < n := by omega
      obtain ⟨ad, rfl, hc⟩ := HR.out.at_ hlt
      have hkl : k < R.length := by rw [HR.out.1]; exact hlt
      have hw : IntKind.i64.wrap ((k : Int) + 1) = ((k + 1 : Nat) : Int) := (w64 (by have := HN.out; omega)).trans (by omega)
      by_cases he : R.getD k 0 = x
      · have hin : x ∈ R := he ▸ getD_in hkl
        have HE := hide (show (keepF R m x) = x from if_pos hin)
        rw [he] at hc
        clear hno hk hkl he hin
        go_wp2
        go_ret
        exact ⟨ret_int HE.out.symm, rfl⟩
      · have HNO := hide (take_in hkl hno he)
        have q3 : (R.getD k 0 == x) = false := by simpa using he
        have HK := hide hlt
        clear hno hk hkl he hlt
        generalize R.getD k 0 = y at *
        go_wp2
        go_roundw
        case rel => exact ⟨k + 1, HK.out, rfl, HNO.out, by first | rfl | trivial⟩
        case measure => have := HK.out; simp [Go.RowKit.intOf]; omega
end
end Go.Proofs.Ytgaoodjlcjmomaa.L12

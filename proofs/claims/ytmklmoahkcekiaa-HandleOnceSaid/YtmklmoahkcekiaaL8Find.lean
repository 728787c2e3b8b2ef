/- Tables of handles: which slot a handle has; what New, Get, Set and Drop answer, and what they do. Conditions: a slot was used at most 1000000 times. -/
import Derived.Test.YtmklmoahkcekiaaL8Tb
import Derived.Lib.SliceRun
namespace Go.Proofs.Ytmklmoahkcekiaa.L8
open Go.ChangeShapes Go.WideShapes Go.ChangeAt Go.RowKit
set_option linter.unusedVariables false

theorem eqn (w : World) (a : Option Addr) (n c n' c' : Nat) : (binOp .eql 57 (.slice a n c) (.slice none n' c')).run Try.prog w = .ok (.bool a.isNone) w := Lib.run_eql_slice_nil w _ _ a n c n' c' Try.underlying57
section
variable {w : World} {p : Nat} {S : Nat → Sl}
theorem find_nil (w : World) (x : Int) : Calls Try.prog 28 #[.pointer none, .int .i64 x] w fun e w' => e = .returned (.pointer none) ∧ Grow w w' := by
  have qn := eqn
  go_enter Try.func28, Try.ntmps28
  go_wp2_with fail
  refine (all_nil _).mono ?_
  rintro e w1 ⟨rfl, rfl⟩
  go_wp2
  go_ret
  exact ⟨rfl, Chg.refl _ _⟩
theorem find_low (h : Tb w p S) (x : Int) (hx : x < 1) : Calls Try.prog 28 #[ptr p, .int .i64 x] w fun e w' => e = .returned (.pointer none) ∧ Grow w w' := by
  have qn := eqn
  go_enter Try.func28, Try.ntmps28
  go_wp2_with fail
  refine (all_any _ p h).mono ?_
  rintro e w1 ⟨rfl, rfl⟩
  have hx1 : decide (x < 1) = true := by simpa using hx
  go_wp2
  go_ret
  exact ⟨rfl, Chg.refl _ _⟩
/-- The place that a handle names. -/
theorem place_of (x i : Nat) (h : (x : Nat) % 64 = i) : IntKind.i64.wrap (((x + 1 : Nat) : Int) - 1) = (x : Int) → (x : Int) % 64 = (i : Int) := by
  intro _
  omega
set_option maxHeartbeats 1000000 in
theorem find_at (h : Tb w p S) (hB : Bd S 1000000) (x : Nat) (hx : x < 9223372036854775807) (hS : (S (x % 64)).t = true ∧ 64 * (S (x % 64)).e + x % 64 + 1 = x + 1) :
    Calls Try.prog 28 #[ptr p, .int .i64 ((x + 1 : Nat) : Int)] w fun e w' => e = .returned (.pointer (some ⟨p, x % 64 * 3, none⟩)) ∧ Grow w w' := by
  have hi : x % 64 < 64 := Nat.mod_lt _ (by omega)
  obtain ⟨i, hxi⟩ : ∃ i, x % 64 = i := ⟨_, rfl⟩
  rw [hxi] at hi hS
  have c0 := h.c0 hi
  have c1 := h.c1 hi
  have c2 := h.c2 hi
  have HA := hide (all_any w p h)
  obtain ⟨⟨se, st, sv⟩, hs⟩ : ∃ s, S i = s := ⟨_, rfl⟩
  have he := hB i hi
  rw [hs] at he hS c0 c1 c2
  have q1 : decide ((((x + 1 : Nat) : Int)) < 1) = false := by simp; omega
  have q2 : IntKind.i64.wrap (((x + 1 : Nat) : Int) - 1) = (x : Int) := by rw [wrap_i64_id _ (by omega)]; omega
  have q3 : (x : Int) % 64 = (i : Int) := by omega
  have HH : Hid (∀ W, Calls Try.prog 27 #[(Sl.mk se st sv).val, .int .i64 (i : Int)] W fun e w' => e = .returned (.int .i64 ((64 * se + i + 1 : Nat) : Int)) ∧ Grow W w') := hide fun W => hd_any W ⟨se, st, sv⟩ i _ hi he rfl
  dsimp only at hS c0 c1 c2
  obtain ⟨y, hy⟩ : ∃ y, 64 * se + i + 1 = y := ⟨_, rfl⟩
  rw [hy] at hS HH
  clear h hB hs he hy
  obtain ⟨rfl, rfl⟩ := hS
  rw [hxi]
  clear hxi
  have qn := eqn
  go_enter Try.func28, Try.ntmps28
  go_wp2_with fail
  refine HA.out.mono ?_
  rintro e w1 ⟨rfl, rfl⟩
  clear HA
  go_wp2_with fail
  refine (HH.out _).mono ?_
  rintro e w1 ⟨rfl, c⟩
  clear HH
  go_wp2
  go_ret
  exact ⟨rfl, c⟩
set_option maxHeartbeats 1000000 in
theorem find_off (h : Tb w p S) (hB : Bd S 1000000) (x : Nat) (hx : x < 9223372036854775807) (hS : (S (x % 64)).t = true → 64 * (S (x % 64)).e + x % 64 + 1 ≠ x + 1) :
    Calls Try.prog 28 #[ptr p, .int .i64 ((x + 1 : Nat) : Int)] w fun e w' => e = .returned (.pointer none) ∧ Grow w w' := by
  have hi : x % 64 < 64 := Nat.mod_lt _ (by omega)
  obtain ⟨i, hxi⟩ : ∃ i, x % 64 = i := ⟨_, rfl⟩
  rw [hxi] at hi hS
  have c0 := h.c0 hi
  have c1 := h.c1 hi
  have c2 := h.c2 hi
  have HA := hide (all_any w p h)
  obtain ⟨⟨se, st, sv⟩, hs⟩ : ∃ s, S i = s := ⟨_, rfl⟩
  have he := hB i hi
  rw [hs] at he hS c0 c1 c2
  have q1 : decide ((((x + 1 : Nat) : Int)) < 1) = false := by simp; omega
  have q2 : IntKind.i64.wrap (((x + 1 : Nat) : Int) - 1) = (x : Int) := by rw [wrap_i64_id _ (by omega)]; omega
  have q3 : (x : Int) % 64 = (i : Int) := by omega
  have HH : Hid (∀ W, Calls Try.prog 27 #[(Sl.mk se st sv).val, .int .i64 (i : Int)] W fun e w' => e = .returned (.int .i64 ((64 * se + i + 1 : Nat) : Int)) ∧ Grow W w') := hide fun W => hd_any W ⟨se, st, sv⟩ i _ hi he rfl
  dsimp only at hS c0 c1 c2
  obtain ⟨y, hy⟩ : ∃ y, 64 * se + i + 1 = y := ⟨_, rfl⟩
  rw [hy] at hS HH
  clear h hB hs he hy
  have qn := eqn
  clear hxi
  cases st with
  | false =>
    clear HH hS
    go_enter Try.func28, Try.ntmps28
    go_wp2_with fail
    refine HA.out.mono ?_
    rintro e w1 ⟨rfl, rfl⟩
    clear HA
    go_wp2
    go_ret
    exact ⟨rfl, Chg.refl _ _⟩
  | true =>
    have hy := hS rfl
    have q4 : ((y : Int) != (x : Int) + 1) = true := by simp; omega
    clear hS hy
    go_enter Try.func28, Try.ntmps28
    go_wp2_with fail
    refine HA.out.mono ?_
    rintro e w1 ⟨rfl, rfl⟩
    clear HA
    go_wp2_with fail
    refine (HH.out _).mono ?_
    rintro e w1 ⟨rfl, c⟩
    clear HH
    go_wp2
    go_ret
    exact ⟨rfl, c⟩
/-- x is the handle of slot i. -/
def Of (S : Nat → Sl) (i : Nat) (x : Int) : Prop := i < 64 ∧ (S i).t = true ∧ x = (hd S i : Nat)
theorem Of.one {S : Nat → Sl} {i j : Nat} {x : Int} (h : Of S i x) (k : Of S j x) : i = j := by
  obtain ⟨h1, _, h3⟩ := h
  obtain ⟨k1, _, k3⟩ := k
  unfold hd at h3 k3
  omega
theorem find_yes (h : Tb w p S) (hB : Bd S 1000000) {x : Int} {i : Nat} (ho : Of S i x) :
    Calls Try.prog 28 #[ptr p, .int .i64 x] w fun e w' => e = .returned (.pointer (some ⟨p, i * 3, none⟩)) ∧ Grow w w' := by
  obtain ⟨hi, ht, rfl⟩ := ho
  have hm : (64 * (S i).e + i) % 64 = i := by omega
  have hb := hB i hi
  have h1 := find_at h hB (64 * (S i).e + i) (by omega) (by rw [hm]; exact ⟨ht, rfl⟩)
  rw [hm] at h1
  exact h1
theorem find_no (h : Tb w p S) (hB : Bd S 1000000) {x : Int} (hx : (Lit.int .i64 x).wf = true) (ho : ∀ i, ¬ Of S i x) :
    Calls Try.prog 28 #[ptr p, .int .i64 x] w fun e w' => e = .returned (.pointer none) ∧ Grow w w' := by
  have hw := bounds_i64 hx
  by_cases hx1 : x < 1
  · exact find_low h x hx1
  · obtain ⟨n, rfl⟩ : ∃ n : Nat, x = ((n + 1 : Nat) : Int) := ⟨(x - 1).toNat, by omega⟩
    refine find_off h hB n (by omega) fun ht he => ho (n % 64) ⟨Nat.mod_lt _ (by omega), ht, ?_⟩
    unfold hd
    omega
end
end Go.Proofs.Ytmklmoahkcekiaa.L8

/- What the leaf functions answer: math/bits.OnesCount64 and TrailingZeros64 (out of their own text), and package bits' own bit. Conditions: the number fits its kind; for TrailingZeros64 its table is as the program's text lays it. -/
import Derived.Test.YtaddomgjjemglaaDoorL3Pop
import Derived.Test.YtaddomgjjemglaaDoorGrow
namespace Go.Proofs.YtaddomgjjemglaaDoor.L3
open Go.ChangeShapes Go.WideShapes Go.ChangeAt Go.RowKit
set_option linter.unusedVariables false

/-- The table of TrailingZeros64 in its variable. -/
def Tab (w : World) : Prop := ∀ j, j < 64 → w.cell? ⟨0, j, none⟩ = some (.int .u8 (Lib.deBruijn64tab.getD j 0 : Nat))
theorem Tab.chg {S : Nat → Prop} {w w' : World} (h : Tab w) (c : Chg S w w') (hs : ¬ S 0) : Tab w' := fun j hj => c.cell (h j hj) hs

theorem u64_and (a b : Nat) (ha : a < 18446744073709551616) (hb : b < 18446744073709551616) : bits .and .u64 (a : Int) (b : Int) = ((a &&& b : Nat) : Int) := bits_and_u64_nat a b ha hb

theorem and_lit (a m : Nat) (M : Int) (hM : M = (m : Int)) (ha : a < 18446744073709551616) (hm : m < 18446744073709551616) : bits .and .u64 (a : Int) M = ((a &&& m : Nat) : Int) := by
  rw [hM]; exact bits_and_u64_nat a m ha hm

theorem wrap_i64_id (x : Int) (h : -9223372036854775808 ≤ x ∧ x ≤ 9223372036854775807) : IntKind.i64.wrap x = x := IntWalk.i64_in _ (by omega)
theorem and_i64_127 (a : Nat) (ha : a < 9223372036854775808) : bits .and .i64 (a : Int) 127 = ((a % 128 : Nat) : Int) := by
  have h1 : (BitVec.ofInt 64 (a : Int)).toNat = a := by
    rw [BitVec.ofInt_natCast, BitVec.toNat_ofNat]; exact Nat.mod_eq_of_lt (by omega)
  show IntKind.i64.wrap ((BitVec.ofInt 64 (a : Int) &&& BitVec.ofInt 64 127).toNat : Int) = _
  rw [BitVec.toNat_and, h1, show (BitVec.ofInt 64 127).toNat = 2 ^ 7 - 1 from rfl, Nat.and_two_pow_sub_one_eq_mod]
  exact wrap_i64_id _ (by omega)
theorem wrap_u64_id (x : Int) (h0 : 0 ≤ x) (h1 : x < 18446744073709551616) : IntKind.u64.wrap x = x := by rw [IntKind.wrap_u64]; omega
theorem wrap_u64_nat (a : Nat) (h1 : a < 18446744073709551616) : IntKind.u64.wrap (a : Int) = (a : Int) := wrap_u64_id _ (by omega) (by omega)

set_option maxHeartbeats 1000000 in
theorem ones_any (x : Nat) (hx : x < 18446744073709551616) (w : World) :
    Calls Tryd.prog 38 #[.int .u64 x] w fun e w' => e = .returned (.int .i64 (cnt x.testBit 64)) ∧ w = w' := by
  have key : ∃ y1 y2 y3 y4 y5 y6 : Nat, y1 < 18446744073709551616 ∧ y2 < 18446744073709551616 ∧ y3 < 18446744073709551616 ∧ y4 < 18446744073709551616 ∧ y5 < 18446744073709551616 ∧ y6 < 9223372036854775807 ∧
      IntKind.u64.wrap (bits .and .u64 ((x : Int) / 2) 6148914691236517205 + bits .and .u64 (x : Int) 6148914691236517205) = (y1 : Int) ∧
      IntKind.u64.wrap (bits .and .u64 ((y1 : Int) / 4) 3689348814741910323 + bits .and .u64 (y1 : Int) 3689348814741910323) = (y2 : Int) ∧
      bits .and .u64 (IntKind.u64.wrap ((y2 : Int) / 16 + (y2 : Int))) 1085102592571150095 = (y3 : Int) ∧
      IntKind.u64.wrap ((y3 : Int) + (y3 : Int) / 256) = (y4 : Int) ∧
      IntKind.u64.wrap ((y4 : Int) + (y4 : Int) / 65536) = (y5 : Int) ∧
      IntKind.u64.wrap ((y5 : Int) + (y5 : Int) / 4294967296) = (y6 : Int) ∧
      y6 % 128 = cnt x.testBit 64 := by
    obtain ⟨y1, h1⟩ : ∃ y, y = st1 (msk 85 8) x := ⟨_, rfl⟩
    obtain ⟨y2, h2⟩ : ∃ y, y = st2 (msk 51 8) y1 := ⟨_, rfl⟩
    obtain ⟨y3, h3⟩ : ∃ y, y = st3 (msk 15 8) y2 := ⟨_, rfl⟩
    obtain ⟨y4, h4⟩ : ∃ y, y = y3 + y3 / 256 := ⟨_, rfl⟩
    obtain ⟨y5, h5⟩ : ∃ y, y = y4 + y4 / 65536 := ⟨_, rfl⟩
    obtain ⟨y6, h6⟩ : ∃ y, y = y5 + y5 / 4294967296 := ⟨_, rfl⟩
    have h3' : y3 = byc x 8 := by rw [h3, h2, h1]; exact (swar 8 x hx).1
    obtain ⟨q, b3, b4, b5, b6⟩ := ones_sum x y3 y4 y5 y6 h3' h4 h5 h6
    have d1 : ((x : Int) / 2) = ((x / 2 : Nat) : Int) := by omega
    have d2 : ((y1 : Int) / 4) = ((y1 / 4 : Nat) : Int) := by omega
    have m1 : msk 85 8 = 6148914691236517205 := by decide
    have m2 : msk 51 8 = 3689348814741910323 := by decide
    have m3 : msk 15 8 = 1085102592571150095 := by decide
    have le (a m : Nat) : a &&& m ≤ m := Nat.and_le_right
    have b1 : y1 < 12297829382473034411 := by
      rw [h1, st1, m1]
      have u1 := le (x / 2) 6148914691236517205
      have u2 := le x 6148914691236517205
      omega
    have b2 : y2 < 7378697629483820647 := by
      rw [h2, st2, m2]
      have u1 := le (y1 / 4) 3689348814741910323
      have u2 := le y1 3689348814741910323
      omega
    refine ⟨y1, y2, y3, y4, y5, y6, by omega, by omega, by omega, by omega, by omega, b6, ?_, ?_, ?_, ?_, ?_, ?_, q⟩
    · rw [d1, and_lit _ 6148914691236517205 6148914691236517205 rfl (by omega) (by decide), and_lit _ 6148914691236517205 6148914691236517205 rfl (by omega) (by decide), wrap_u64_id _ (by omega) (by have u1 := le (x / 2) 6148914691236517205; have u2 := le x 6148914691236517205; omega), h1, st1, m1]
      rfl
    · rw [d2, and_lit _ 3689348814741910323 3689348814741910323 rfl (by omega) (by decide), and_lit _ 3689348814741910323 3689348814741910323 rfl (by omega) (by decide), wrap_u64_id _ (by omega) (by have u1 := le (y1 / 4) 3689348814741910323; have u2 := le y1 3689348814741910323; omega), h2, st2, m2]
      rfl
    · rw [show ((y2 : Int) / 16 + (y2 : Int)) = ((y2 / 16 + y2 : Nat) : Int) by omega, wrap_u64_nat _ (by omega), and_lit _ 1085102592571150095 1085102592571150095 rfl (by omega) (by decide), h3, st3, m3]
    · rw [wrap_u64_id _ (by omega) (by omega)]; omega
    · rw [wrap_u64_id _ (by omega) (by omega)]; omega
    · rw [wrap_u64_id _ (by omega) (by omega)]; omega
  obtain ⟨y1, y2, y3, y4, y5, y6, b1, b2, b3, b4, b5, b6, k1, k2, k3, k4, k5, k6, hq⟩ := key
  have h127 := and_i64_127 y6 (by omega)
  rw [hq] at h127
  clear hq
  go_enter Tryd.func38, Tryd.ntmps38
  go_wp2
  go_ret
  exact ⟨rfl, rfl⟩

theorem pow64 (j : Nat) (h : j < 64) : 2 ^ j < 18446744073709551616 := by
  have : 2 ^ j ≤ 2 ^ 63 := Nat.pow_le_pow_right (by decide) (by omega)
  omega
/-- The bit of a place in its word. -/
theorem bit_any (i : Nat) (h : i < 4096) (w : World) :
    Calls Tryd.prog 34 #[.int .i64 i] w fun e w' => e = .returned (.int .u64 ((2 ^ (i % 64) : Nat) : Int)) ∧ w = w' := by
  have key := hide (wrap_u64_nat _ (pow64 (i % 64) (by omega)))
  go_enter Tryd.func34, Tryd.ntmps34
  go_wp2
  go_ret
  refine ⟨?_, rfl⟩
  have k := key.out
  rw [Int.natCast_pow] at k ⊢
  exact ret_int k

set_option maxHeartbeats 1000000 in
/-- A word that is not 0: the place of its lowest one. -/
theorem tz_any (x : Nat) (hx : x < 18446744073709551616) (hx0 : x ≠ 0) (w : World) (ht : Tab w) :
    Calls Tryd.prog 39 #[.int .u64 x] w fun e w' => e = .returned (.int .i64 (Lib.ctz 64 x : Nat)) ∧ w = w' := by
  obtain ⟨hlow, hk⟩ := Lib.lowest_bit 64 x hx0 hx
  obtain ⟨hi, htab⟩ := Lib.deBruijn64_at _ hk
  have hcell := ht _ hi
  rw [htab] at hcell
  clear ht htab
  generalize Lib.ctz 64 x = k at *
  obtain ⟨low, hl⟩ : ∃ low, low = 2 ^ k := ⟨_, rfl⟩
  rw [← hl] at hlow hi hcell
  clear hl
  obtain ⟨n, hn⟩ : ∃ n, n = 18446744073709551616 - x := ⟨_, rfl⟩
  obtain ⟨d, hd⟩ : ∃ d, d = low * 285870213051353865 % 18446744073709551616 := ⟨_, rfl⟩
  obtain ⟨i, hi'⟩ : ∃ i, i = d / 288230376151711744 := ⟨_, rfl⟩
  rw [← hd, ← hi'] at hi hcell
  have k0 : ((x : Int) == 0) = false := by simp; omega
  have k1 : IntKind.u64.wrap (-(x : Int)) = (n : Int) := by rw [IntKind.wrap_u64]; omega
  have k2 : bits .and .u64 (x : Int) (n : Int) = (low : Int) := by
    rw [bits_and_u64_nat x n hx (by omega), hn]
    exact congrArg _ hlow
  have k3 : IntKind.u64.wrap ((low : Int) * 285870213051353865) = (d : Int) := by rw [IntKind.wrap_u64]; omega
  have k4 : (d : Int) / 288230376151711744 = (i : Int) := by omega
  have k5 : (i : Int) < 64 := by omega
  have k6 : (0 : Int) ≤ (i : Int) := by omega
  clear hlow hn hd hi' hi hx hx0
  go_enter Tryd.func39, Tryd.ntmps39
  go_wp2
  go_ret
  exact ⟨rfl, rfl⟩

/-- The lowest one is set, those below it are not. -/
theorem ctz_spec (x : Nat) (hx : x < 18446744073709551616) (hx0 : x ≠ 0) : Lib.ctz 64 x < 64 ∧ x.testBit (Lib.ctz 64 x) = true ∧ ∀ j, j < Lib.ctz 64 x → x.testBit j = false := by
  obtain ⟨m, hm, hk⟩ := Lib.ctzFrom_spec 64 x (by omega) hx
  have e : Lib.ctz 64 x = Lib.ctzFrom 64 x := by simp [Lib.ctz, hx0]
  rw [e]
  generalize Lib.ctzFrom 64 x = k at *
  rw [Nat.mul_comm] at hm
  refine ⟨hk, ?_, fun j hj => ?_⟩
  · rw [hm, Nat.testBit_mul_two_pow]
    simp
  · rw [hm, Nat.testBit_mul_two_pow]
    simp
    omega
end Go.Proofs.YtaddomgjjemglaaDoor.L3

/- Counting: how many of the first n are set; and the arithmetic by which the ones of a word of 64 bits are counted in parallel. Conditions: none; nothing here speaks of the program. -/
import Derived.Laws.BitsAllLaws
import Derived.Test.YtogfjclmohpjkaaGreatDoorKit
import Derived.Lib.TrailingZeros
import Derived.Test.YtogfjclmohpjkaaGreatDoorGrow
import Derived.StillTailTactics
import Derived.ScopeJumps
import Derived.Laws.ShiftsVarLaws
import Derived.Lib.SliceRun
import Derived.Handy
import Derived.WalkMore
import Derived.Lib.LaidTab
import Derived.LaidMore
namespace Go.Proofs.YtogfjclmohpjkaaGreatDoor.L3

/-- How many i < n have S i. -/
def cnt (S : Nat → Bool) : Nat → Nat
  | 0 => 0
  | n + 1 => cnt S n + if S n then 1 else 0
section
variable {S T : Nat → Bool}
theorem cnt_le (S : Nat → Bool) (n : Nat) : cnt S n ≤ n := by
  induction n with
  | zero => simp [cnt]
  | succ n ih => simp only [cnt]; split <;> omega
theorem cnt_mono (S : Nat → Bool) {a b : Nat} (h : a ≤ b) : cnt S a ≤ cnt S b := by
  induction b with
  | zero => obtain rfl : a = 0 := by omega
            exact Nat.le_refl _
  | succ b ih =>
    rcases Nat.lt_or_ge a (b + 1) with h1 | h1
    · have := ih (by omega); simp only [cnt]; omega
    · obtain rfl : a = b + 1 := by omega
      exact Nat.le_refl _
theorem cnt_congr {n : Nat} (h : ∀ i, i < n → S i = T i) : cnt S n = cnt T n := by
  induction n with
  | zero => rfl
  | succ n ih => simp only [cnt]; rw [ih fun i hi => h i (by omega), h n (by omega)]
theorem cnt_add (S : Nat → Bool) (a b : Nat) : cnt S (a + b) = cnt S a + cnt (fun i => S (a + i)) b := by
  induction b with
  | zero => simp [cnt]
  | succ b ih => rw [← Nat.add_assoc]; simp only [cnt]; rw [ih]; omega
theorem cnt_none {n : Nat} (h : ∀ i, i < n → S i = false) : cnt S n = 0 := by
  induction n with
  | zero => rfl
  | succ n ih => simp only [cnt]; rw [ih fun i hi => h i (by omega), h n (by omega)]; rfl
theorem cnt_upto {a n : Nat} (ha : a ≤ n) (h : ∀ i, a ≤ i → i < n → S i = false) : cnt S n = cnt S a := by
  obtain ⟨b, rfl⟩ : ∃ b, n = a + b := ⟨n - a, by omega⟩
  rw [cnt_add, cnt_none fun i hi => h (a + i) (by omega) (by omega)]
  rfl
/-- One more is set. -/
theorem cnt_on {i n : Nat} (hi : i < n) (h0 : S i = false) (h1 : T i = true) (h : ∀ j, j ≠ i → T j = S j) : cnt T n = cnt S n + 1 := by
  induction n with
  | zero => omega
  | succ n ih =>
    simp only [cnt]
    rcases Nat.lt_or_ge i n with h2 | h2
    · rw [ih h2, h n (by omega)]; omega
    · obtain rfl : i = n := by omega
      rw [h0, h1, cnt_congr (S := T) (T := S) fun j hj => h j (by omega)]; rfl
end

theorem and_cut (a M e f : Nat) (he : e < 256) (hf : f < 256) : (256 * a + e) &&& (256 * M + f) = 256 * (a &&& M) + (e &&& f) := by
  have h1 : ((256 * a + e) &&& (256 * M + f)) / 2 ^ 8 = a &&& M := by
    rw [Nat.and_div_two_pow]
    congr 1 <;> omega
  have h2 : ((256 * a + e) &&& (256 * M + f)) % 2 ^ 8 = e &&& f := by
    rw [Nat.and_mod_two_pow]
    congr 1 <;> omega
  have := Nat.div_add_mod ((256 * a + e) &&& (256 * M + f)) (2 ^ 8)
  rw [h1, h2] at this
  exact this.symm

/-- The masks of n bytes. -/
def msk (b : Nat) : Nat → Nat
  | 0 => 0
  | n + 1 => 256 * msk b n + b
def st1 (M x : Nat) : Nat := ((x / 2) &&& M) + (x &&& M)
def st2 (M x : Nat) : Nat := ((x / 4) &&& M) + (x &&& M)
def st3 (M x : Nat) : Nat := (x / 16 + x) &&& M

theorem st1_byte : ∀ d, d < 256 → ((d / 2) &&& 85) + (d &&& 85) < 256 ∧ (128 + d / 2) &&& 85 = (d / 2) &&& 85 := by decide +kernel
theorem st2_byte : ∀ d, d < 256 → ((d / 4) &&& 51) + (d &&& 51) < 256 ∧ ((64 + d / 4) &&& 51 = (d / 4) &&& 51 ∧ (128 + d / 4) &&& 51 = (d / 4) &&& 51 ∧ (192 + d / 4) &&& 51 = (d / 4) &&& 51) := by decide +kernel
theorem st3_byte : ∀ d, d < 256 → ∀ r, r < 5 → d / 16 < 5 → d % 16 < 5 → (16 * r + d / 16 + d) &&& 15 = (d / 16 + d) &&& 15 := by decide +kernel
theorem pop_byte : ∀ d, d < 256 → (st2 51 (st1 85 d)) / 16 < 5 ∧ (st2 51 (st1 85 d)) % 16 < 5 ∧ st3 15 (st2 51 (st1 85 d)) = cnt d.testBit 8 ∧ st1 85 d < 256 ∧ st2 51 (st1 85 d) < 256 := by decide +kernel

theorem st1_cut (q M d : Nat) (hd : d < 256) : st1 (256 * M + 85) (256 * q + d) = 256 * st1 M q + st1 85 d := by
  have e1 : (256 * q + d) / 2 = 256 * (q / 2) + (128 * (q % 2) + d / 2) := by omega
  unfold st1
  rw [e1, and_cut _ _ _ _ (by omega) (by omega), and_cut _ _ _ _ hd (by omega)]
  have : (128 * (q % 2) + d / 2) &&& 85 = (d / 2) &&& 85 := by
    rcases (by omega : q % 2 = 0 ∨ q % 2 = 1) with h | h <;> rw [h]
    · simp
    · exact (st1_byte d hd).2
  rw [this]
  omega
theorem st2_cut (q M d : Nat) (hd : d < 256) : st2 (256 * M + 51) (256 * q + d) = 256 * st2 M q + st2 51 d := by
  have e1 : (256 * q + d) / 4 = 256 * (q / 4) + (64 * (q % 4) + d / 4) := by omega
  unfold st2
  rw [e1, and_cut _ _ _ _ (by omega) (by omega), and_cut _ _ _ _ hd (by omega)]
  have : (64 * (q % 4) + d / 4) &&& 51 = (d / 4) &&& 51 := by
    rcases (by omega : q % 4 = 0 ∨ q % 4 = 1 ∨ q % 4 = 2 ∨ q % 4 = 3) with h | h | h | h <;> rw [h]
    · simp
    · exact (st2_byte d hd).2.1
    · exact (st2_byte d hd).2.2.1
    · exact (st2_byte d hd).2.2.2
  rw [this]
  omega
theorem st3_cut (q M d : Nat) (hd : d < 256) (hq : q % 16 < 5) (h1 : d / 16 < 5) (h2 : d % 16 < 5) : st3 (256 * M + 15) (256 * q + d) = 256 * st3 M q + st3 15 d := by
  have e1 : (256 * q + d) / 16 + (256 * q + d) = 256 * (q / 16 + q) + (16 * (q % 16) + d / 16 + d) := by omega
  unfold st3
  rw [e1, and_cut _ _ _ _ (by omega) (by omega), st3_byte d hd _ hq h1 h2]

/-- The bytes' counts, a byte each. -/
def byc (x : Nat) : Nat → Nat
  | 0 => 0
  | n + 1 => 256 * byc (x / 256) n + cnt (x % 256).testBit 8

theorem swar (n : Nat) : ∀ x, x < 256 ^ n → st3 (msk 15 n) (st2 (msk 51 n) (st1 (msk 85 n) x)) = byc x n ∧ st2 (msk 51 n) (st1 (msk 85 n) x) % 16 < 5 := by
  induction n with
  | zero =>
    intro x hx
    simp only [Nat.pow_zero] at hx
    obtain rfl : x = 0 := by omega
    decide
  | succ n ih =>
    intro x hx
    have hq : x / 256 < 256 ^ n := by
      rw [Nat.pow_succ] at hx
      exact Nat.div_lt_of_lt_mul (by omega)
    obtain ⟨i1, i2⟩ := ih _ hq
    have hd : x % 256 < 256 := Nat.mod_lt _ (by decide)
    obtain ⟨p1, p2, p3, p4, p5⟩ := pop_byte _ hd
    have e : x = 256 * (x / 256) + x % 256 := by omega
    have a1 : st1 (msk 85 (n + 1)) x = 256 * st1 (msk 85 n) (x / 256) + st1 85 (x % 256) := by
      conv => lhs; rw [e]
      exact st1_cut _ _ _ hd
    have a2 : st2 (msk 51 (n + 1)) (st1 (msk 85 (n + 1)) x) = 256 * st2 (msk 51 n) (st1 (msk 85 n) (x / 256)) + st2 51 (st1 85 (x % 256)) := by
      rw [a1]; exact st2_cut _ _ _ p4
    rw [a2]
    refine ⟨?_, by omega⟩
    have := st3_cut (st2 (msk 51 n) (st1 (msk 85 n) (x / 256))) (msk 15 n) (st2 51 (st1 85 (x % 256))) p5 i2 p1 p2
    rw [show msk 15 (n + 1) = 256 * msk 15 n + 15 from rfl, this, i1, p3]
    rfl

theorem byte_bits (x n j : Nat) (hj : j < 8) : (x / 256 ^ n % 256).testBit j = x.testBit (8 * n + j) := by
  have e : (256 : Nat) ^ n = 2 ^ (8 * n) := by rw [Nat.pow_mul]
  rw [e, show (256 : Nat) = 2 ^ 8 from rfl, Nat.testBit_mod_two_pow, Nat.testBit_div_two_pow]
  simp [hj]
  congr 1
  omega
theorem byte_cnt (x n : Nat) : cnt (fun i => x.testBit (8 * n + i)) 8 = cnt (x / 256 ^ n % 256).testBit 8 :=
  cnt_congr fun i hi => (byte_bits x n i hi).symm

/-- What OnesCount64 reckons: the ones of a word. -/
theorem ones_sum (x : Nat) (y3 y4 y5 y6 : Nat) (h3 : y3 = byc x 8) (h4 : y4 = y3 + y3 / 256) (h5 : y5 = y4 + y4 / 65536) (h6 : y6 = y5 + y5 / 4294967296) :
    y6 % 128 = cnt x.testBit 64 ∧ y3 < 1157442765409226769 ∧ y4 < 2314885530818453537 ∧ y5 < 4629771061636907074 ∧ y6 < 9223372036854775807 := by
  have hc : cnt x.testBit 64 = cnt (x / 256 ^ 0 % 256).testBit 8 + cnt (x / 256 ^ 1 % 256).testBit 8 + cnt (x / 256 ^ 2 % 256).testBit 8 + cnt (x / 256 ^ 3 % 256).testBit 8 + cnt (x / 256 ^ 4 % 256).testBit 8 + cnt (x / 256 ^ 5 % 256).testBit 8 + cnt (x / 256 ^ 6 % 256).testBit 8 + cnt (x / 256 ^ 7 % 256).testBit 8 := by
    simp only [← byte_cnt]
    rw [show (64 : Nat) = 8 * 7 + 8 from rfl, cnt_add, show 8 * 7 = 8 * 6 + 8 from rfl, cnt_add, show 8 * 6 = 8 * 5 + 8 from rfl, cnt_add, show 8 * 5 = 8 * 4 + 8 from rfl, cnt_add, show 8 * 4 = 8 * 3 + 8 from rfl, cnt_add, show 8 * 3 = 8 * 2 + 8 from rfl, cnt_add, show 8 * 2 = 8 * 1 + 8 from rfl, cnt_add, show 8 * 1 = 8 * 0 + 8 from rfl, cnt_add]
    simp [cnt]
  have hb : byc x 8 = cnt (x / 256 ^ 0 % 256).testBit 8 + 256 * (cnt (x / 256 ^ 1 % 256).testBit 8 + 256 * (cnt (x / 256 ^ 2 % 256).testBit 8 + 256 * (cnt (x / 256 ^ 3 % 256).testBit 8 + 256 * (cnt (x / 256 ^ 4 % 256).testBit 8 + 256 * (cnt (x / 256 ^ 5 % 256).testBit 8 + 256 * (cnt (x / 256 ^ 6 % 256).testBit 8 + 256 * (cnt (x / 256 ^ 7 % 256).testBit 8 + 256 * 0))))))) := by
    have g : ∀ a : Nat, x / 256 ^ a / 256 = x / 256 ^ (a + 1) := fun a => by rw [Nat.pow_succ, Nat.div_div_eq_div_mul]
    have g0 : x = x / 256 ^ 0 := by simp
    have h : ∀ a n, byc (x / 256 ^ a) (n + 1) = cnt (x / 256 ^ a % 256).testBit 8 + 256 * byc (x / 256 ^ (a + 1)) n := fun a n => by
      rw [show byc (x / 256 ^ a) (n + 1) = 256 * byc (x / 256 ^ a / 256) n + cnt (x / 256 ^ a % 256).testBit 8 from rfl, g a]
      omega
    conv => lhs; rw [g0]
    rw [h 0 7, h (0 + 1) 6, h (0 + 1 + 1) 5, h (0 + 1 + 1 + 1) 4, h (0 + 1 + 1 + 1 + 1) 3, h (0 + 1 + 1 + 1 + 1 + 1) 2, h (0 + 1 + 1 + 1 + 1 + 1 + 1) 1, h (0 + 1 + 1 + 1 + 1 + 1 + 1 + 1) 0]
    rfl
  rw [hc]
  rw [hb] at h3
  clear hb hc
  generalize e0 : cnt (x / 256 ^ 0 % 256).testBit 8 = c0 at *
  generalize e1 : cnt (x / 256 ^ 1 % 256).testBit 8 = c1 at *
  generalize e2 : cnt (x / 256 ^ 2 % 256).testBit 8 = c2 at *
  generalize e3 : cnt (x / 256 ^ 3 % 256).testBit 8 = c3 at *
  generalize e4 : cnt (x / 256 ^ 4 % 256).testBit 8 = c4 at *
  generalize e5 : cnt (x / 256 ^ 5 % 256).testBit 8 = c5 at *
  generalize e6 : cnt (x / 256 ^ 6 % 256).testBit 8 = c6 at *
  generalize e7 : cnt (x / 256 ^ 7 % 256).testBit 8 = c7 at *
  have b0 : c0 ≤ 8 := e0 ▸ cnt_le _ _
  have b1 : c1 ≤ 8 := e1 ▸ cnt_le _ _
  have b2 : c2 ≤ 8 := e2 ▸ cnt_le _ _
  have b3 : c3 ≤ 8 := e3 ▸ cnt_le _ _
  have b4 : c4 ≤ 8 := e4 ▸ cnt_le _ _
  have b5 : c5 ≤ 8 := e5 ▸ cnt_le _ _
  have b6 : c6 ≤ 8 := e6 ▸ cnt_le _ _
  have b7 : c7 ≤ 8 := e7 ▸ cnt_le _ _
  clear e0 e1 e2 e3 e4 e5 e6 e7
  obtain ⟨m1, rfl⟩ : ∃ m, m = c1 + 256 * (c2 + 256 * (c3 + 256 * (c4 + 256 * (c5 + 256 * (c6 + 256 * (c7 + 256 * 0)))))) := ⟨_, rfl⟩
  have d1 : y3 / 256 = c1 + 256 * (c2 + 256 * (c3 + 256 * (c4 + 256 * (c5 + 256 * (c6 + 256 * c7))))) := by omega
  have f4 : y4 = (c0 + c1) + 256 * ((c1 + c2) + 256 * ((c2 + c3) + 256 * ((c3 + c4) + 256 * ((c4 + c5) + 256 * ((c5 + c6) + 256 * ((c6 + c7) + 256 * c7)))))) := by omega
  have d2 : y4 / 65536 = (c2 + c3) + 256 * ((c3 + c4) + 256 * ((c4 + c5) + 256 * ((c5 + c6) + 256 * ((c6 + c7) + 256 * c7)))) := by omega
  have f5 : y5 = (c0 + c1 + c2 + c3) + 256 * ((c1 + c2 + c3 + c4) + 256 * ((c2 + c3 + c4 + c5) + 256 * ((c3 + c4 + c5 + c6) + 256 * ((c4 + c5 + c6 + c7) + 256 * ((c5 + c6 + c7) + 256 * ((c6 + c7) + 256 * c7)))))) := by omega
  have d3 : y5 / 4294967296 = (c4 + c5 + c6 + c7) + 256 * ((c5 + c6 + c7) + 256 * ((c6 + c7) + 256 * c7)) := by omega
  clear d1 d2
  refine ⟨?_, by omega, by omega, by omega, by omega⟩
  rw [h6, d3, f5]
  clear h6 d3 f5 f4 h5 h4 h3
  omega
end Go.Proofs.YtogfjclmohpjkaaGreatDoor.L3
/- What the leaf functions answer: math/bits.OnesCount64 and TrailingZeros64 (out of their own text), and package bits' own bit. Conditions: the number fits its kind; for TrailingZeros64 its table is as the program's text lays it. -/
namespace Go.Proofs.YtogfjclmohpjkaaGreatDoor.L3
open Go.ChangeShapes Go.WideShapes Go.ChangeAt Go.RowKit
set_option linter.unusedVariables false
set_option maxRecDepth 100000

/-- The table of TrailingZeros64 in its variable. -/
def Tab (w : World) : Prop := ∀ j, j < 64 → w.cell? ⟨0, j, none⟩ = some (.int .u8 (Lib.deBruijn64tab.getD j 0 : Nat))
theorem Tab.chg {S : Nat → Prop} {w w' : World} (h : Tab w) (c : Chg S w w') (hs : ¬ S 0) : Tab w' := fun j hj => c.cell (h j hj) hs

theorem u64_and (a b : Nat) (ha : a < 18446744073709551616) (hb : b < 18446744073709551616) : bits .and .u64 (a : Int) (b : Int) = ((a &&& b : Nat) : Int) := bits_and_u64_nat a b ha hb

theorem and_lit (a m : Nat) (M : Int) (hM : M = (m : Int)) (ha : a < 18446744073709551616) (hm : m < 18446744073709551616) : bits .and .u64 (a : Int) M = ((a &&& m : Nat) : Int) := by
  rw [hM]; exact bits_and_u64_nat a m ha hm

theorem wrap_i64_id (x : Int) (h : -9223372036854775808 ≤ x ∧ x ≤ 9223372036854775807) : IntKind.i64.wrap x = x := IntWalk.i64_in _ (by omega)
theorem and_i64_127 (a : Nat) (ha : a < 9223372036854775808) : bits .and .i64 (a : Int) 127 = ((a % 128 : Nat) : Int) := by
  have h1 : (BitVec.ofInt 64 (a : Int)).toNat = a := by
    rw [BitVec.ofInt_natCast, BitVec.toNat_ofNat]; exact Nat.mod_eq_of_lt (by omega)
  show IntKind.i64.wrap ((BitVec.ofInt 64 (a : Int) &&& BitVec.ofInt 64 127).toNat : Int) = _
  rw [BitVec.toNat_and, h1, show (BitVec.ofInt 64 127).toNat = 2 ^ 7 - 1 from rfl, Nat.and_two_pow_sub_one_eq_mod]
  exact wrap_i64_id _ (by omega)
theorem wrap_u64_id (x : Int) (h0 : 0 ≤ x) (h1 : x < 18446744073709551616) : IntKind.u64.wrap x = x := by rw [IntKind.wrap_u64]; omega
theorem wrap_u64_nat (a : Nat) (h1 : a < 18446744073709551616) : IntKind.u64.wrap (a : Int) = (a : Int) := wrap_u64_id _ (by omega) (by omega)

theorem pow64 (j : Nat) (h : j < 64) : 2 ^ j < 18446744073709551616 := by
  have : 2 ^ j ≤ 2 ^ 63 := Nat.pow_le_pow_right (by decide) (by omega)
  omega
/-- The bit of a place in its word. -/
theorem bit_any (i : Nat) (h : i < 4096) (w : World) :
    Calls Tryz.prog 71 #[.int .i64 i] w fun e w' => e = .returned (.int .u64 ((2 ^ (i % 64) : Nat) : Int)) ∧ w = w' := by
  have key := hide (wrap_u64_nat _ (pow64 (i % 64) (by omega)))
  go_enter Tryz.func71, Tryz.ntmps71
  go_wp2
  go_ret
  refine ⟨?_, rfl⟩
  have k := key.out
  rw [Int.natCast_pow] at k ⊢
  exact ret_int k

set_option maxHeartbeats 1000000 in
/-- A word that is not 0: the place of its lowest one. -/
theorem tz_any (x : Nat) (hx : x < 18446744073709551616) (hx0 : x ≠ 0) (w : World) (ht : Tab w) :
    Calls Tryz.prog 83 #[.int .u64 x] w fun e w' => e = .returned (.int .i64 (Lib.ctz 64 x : Nat)) ∧ w = w' := by
  obtain ⟨hlow, hk⟩ := Lib.lowest_bit 64 x hx0 hx
  obtain ⟨hi, htab⟩ := Lib.deBruijn64_at _ hk
  have hcell := ht _ hi
  rw [htab] at hcell
  clear ht htab
  generalize Lib.ctz 64 x = k at *
  obtain ⟨low, hl⟩ : ∃ low, low = 2 ^ k := ⟨_, rfl⟩
  rw [← hl] at hlow hi hcell
  clear hl
  obtain ⟨n, hn⟩ : ∃ n, n = 18446744073709551616 - x := ⟨_, rfl⟩
  obtain ⟨d, hd⟩ : ∃ d, d = low * 285870213051353865 % 18446744073709551616 := ⟨_, rfl⟩
  obtain ⟨i, hi'⟩ : ∃ i, i = d / 288230376151711744 := ⟨_, rfl⟩
  rw [← hd, ← hi'] at hi hcell
  have k0 : ((x : Int) == 0) = false := by simp; omega
  have k1 : IntKind.u64.wrap (-(x : Int)) = (n : Int) := by rw [IntKind.wrap_u64]; omega
  have k2 : bits .and .u64 (x : Int) (n : Int) = (low : Int) := by
    rw [bits_and_u64_nat x n hx (by omega), hn]
    exact congrArg _ hlow
  have k3 : IntKind.u64.wrap ((low : Int) * 285870213051353865) = (d : Int) := by rw [IntKind.wrap_u64]; omega
  have k4 : (d : Int) / 288230376151711744 = (i : Int) := by omega
  have k5 : (i : Int) < 64 := by omega
  have k6 : (0 : Int) ≤ (i : Int) := by omega
  clear hlow hn hd hi' hi hx hx0
  go_enter Tryz.func83, Tryz.ntmps83
  go_wp2
  go_ret
  exact ⟨rfl, rfl⟩

/-- The lowest one is set, those below it are not. -/
theorem ctz_spec (x : Nat) (hx : x < 18446744073709551616) (hx0 : x ≠ 0) : Lib.ctz 64 x < 64 ∧ x.testBit (Lib.ctz 64 x) = true ∧ ∀ j, j < Lib.ctz 64 x → x.testBit j = false := by
  obtain ⟨m, hm, hk⟩ := Lib.ctzFrom_spec 64 x (by omega) hx
  have e : Lib.ctz 64 x = Lib.ctzFrom 64 x := by simp [Lib.ctz, hx0]
  rw [e]
  generalize Lib.ctzFrom 64 x = k at *
  rw [Nat.mul_comm] at hm
  refine ⟨hk, ?_, fun j hj => ?_⟩
  · rw [hm, Nat.testBit_mul_two_pow]
    simp
  · rw [hm, Nat.testBit_mul_two_pow]
    simp
    omega
end Go.Proofs.YtogfjclmohpjkaaGreatDoor.L3
/- What each call of package bits that only reads answers, of a map whose words are known (a nil one among them). Conditions: the numbers given fit their kinds; a map has at most 4096 places. -/
namespace Go.Proofs.YtogfjclmohpjkaaGreatDoor.L3
open Go.ChangeShapes Go.WideShapes Go.ChangeAt Go.RowKit
set_option linter.unusedVariables false
set_option maxRecDepth 100000

abbrev ptr (p : Nat) : Value := .pointer (some ⟨p, 0, none⟩)
/-- The words as cells. -/
def u64s (ws : List Nat) : List Value := ws.map fun x => .int .u64 (x : Nat)
theorem u64s_length (ws : List Nat) : (u64s ws).length = ws.length := by simp [u64s]
theorem u64s_get (ws : List Nat) (k : Nat) (h : k < ws.length) : (u64s ws)[k]? = some (.int .u64 (ws.getD k 0 : Nat)) := by
  simp [u64s, h]
theorem u64s_set (ws : List Nat) (k x : Nat) : (u64s ws).set k (.int .u64 (x : Nat)) = u64s (ws.set k x) := by simp [u64s, List.map_set]

/-- Is a place set? -/
def hs (ws : List Nat) (i : Nat) : Bool := (ws.getD (i / 64) 0).testBit (i % 64)
/-- So many words for n places, none set beyond them. -/
structure Rep (n : Nat) (ws : List Nat) : Prop where
  most : n ≤ 4096
  len : ws.length = (n + 63) / 64
  word : ∀ k, ws.getD k 0 < 18446744073709551616
  tail : ∀ i, hs ws i = true → i < n

/-- The value pv leads to a map of n places with these words, which lie in a row at A; nil leads to none. -/
structure Mv (w : World) (pv : Value) (A : Option Addr) (n : Nat) (ws : List Nat) : Prop where
  rep : Rep n ws
  head : (pv = .pointer none ∧ A = none ∧ n = 0 ∧ ws = []) ∨ ∃ b, pv = ptr b ∧ w.cell? ⟨b, 0, none⟩ = some (.int .i64 n) ∧ w.cell? ⟨b, 1, none⟩ = some (.slice A ws.length ws.length)
  cell : ∀ k, k < ws.length → ∃ g, A = some ⟨g, 0, none⟩ ∧ w.cell? ⟨g, k, none⟩ = some (.int .u64 (ws.getD k 0 : Nat))
theorem Mv.grow {w w' : World} {pv : Value} {A : Option Addr} {n : Nat} {ws : List Nat} (h : Mv w pv A n ws) (c : Grow w w') : Mv w' pv A n ws :=
  ⟨h.rep, h.head.imp id fun ⟨b, e, c0, c1⟩ => ⟨b, e, c.cell c0, c.cell c1⟩, fun k hk => by obtain ⟨g, e, hc⟩ := h.cell k hk; exact ⟨g, e, c.cell hc⟩⟩
theorem Mv.lenle {w : World} {pv : Value} {A : Option Addr} {n : Nat} {ws : List Nat} (h : Mv w pv A n ws) : ws.length ≤ 64 := by have := h.rep.most; have := h.rep.len; omega

section
variable (pv : Value) (A : Option Addr) (n : Nat) (ws : List Nat) (w : World)

theorem len_any (h : Mv w pv A n ws) : Calls Tryz.prog 97 #[pv] w fun e w' => e = .returned (.int .i64 n) ∧ w = w' := by
  rcases h.head with ⟨rfl, rfl, rfl, rfl⟩ | ⟨b, rfl, c0, c1⟩
  · clear h
    go_enter Tryz.func97, Tryz.ntmps97
    go_wp2
    go_ret
    exact ⟨rfl, rfl⟩
  · clear h
    go_enter Tryz.func97, Tryz.ntmps97
    go_wp2
    go_ret
    exact ⟨rfl, rfl⟩

theorem all_any (h : Mv w pv A n ws) : Calls Tryz.prog 70 #[pv] w fun e w' => e = .returned (.slice A ws.length ws.length) ∧ w = w' := by
  rcases h.head with ⟨rfl, rfl, rfl, rfl⟩ | ⟨b, rfl, c0, c1⟩
  · clear h
    go_enter Tryz.func70, Tryz.ntmps70
    go_wp2
    go_ret
    exact ⟨rfl, rfl⟩
  · clear h
    go_enter Tryz.func70, Tryz.ntmps70
    go_wp2
    go_ret
    exact ⟨rfl, rfl⟩

/-- Is a place there? -/
def exB (n : Nat) (i : Int) : Bool := decide (0 ≤ i ∧ i < n)
theorem exB_nat {n : Nat} {i : Int} (h : exB n i = true) : ∃ a : Nat, i = a ∧ a < n := by
  simp [exB] at h
  obtain ⟨a, rfl⟩ := Int.eq_ofNat_of_zero_le h.1
  exact ⟨a, rfl, by omega⟩

theorem exists_any (i : Int) (h : Mv w pv A n ws) : Calls Tryz.prog 68 #[pv, .int .i64 i] w fun e w' => e = .returned (.bool (exB n i)) ∧ w = w' := by
  have H := hide h
  clear h
  by_cases ha : 0 ≤ i
  · go_enter Tryz.func68, Tryz.ntmps68
    go_wp2_with fail
    refine (len_any _ A n ws _ H.out).mono ?_
    rintro e w' ⟨rfl, rfl⟩
    go_wp2
    go_ret
    exact ⟨ret_bool (by simp [exB, ha]), rfl⟩
  · have e : exB n i = false := by simp [exB]; omega
    have E := hide e
    clear e
    have ha' : decide (0 ≤ i) = false := by simpa using ha
    go_enter Tryz.func68, Tryz.ntmps68
    go_wp2
    go_ret
    exact ⟨ret_bool E.out.symm, rfl⟩

/-- The answer of Has. -/
def hasB (n : Nat) (ws : List Nat) (i : Int) : Bool := exB n i && hs ws i.toNat

theorem has_no (i : Int) (h : Mv w pv A n ws) (hx : exB n i = false) : Calls Tryz.prog 69 #[pv, .int .i64 i] w fun e w' => e = .returned (.bool false) ∧ Grow w w' := by
  have H := hide fun W (c : Grow w W) => exists_any pv A n ws W i (h.grow c)
  rw [hx] at H
  clear h hx
  go_enter Tryz.func69, Tryz.ntmps69
  go_wp2_with fail
  refine wp_region_grow (by kernel_rfl) (by kernel_rfl) ?_
  repeat (
    with_reducible refine wpQuiet_step ?_
    intro K hK
    first
      | ((with_reducible refine quiet_offT rfl ?_ (hK _ ?_)); focus (refine ⟨_, rfl, ?_⟩; with_reducible rfl))
      | ((with_reducible refine quiet_offF rfl ?_ (hK _ ?_)); focus (refine ⟨_, rfl, ?_⟩; with_reducible rfl))
      | ((with_reducible refine quiet_offN rfl ?_ (hK _ ?_)); focus (exact rfl))
      | ((first | with_reducible refine quiet_free rfl ?_ | ((with_reducible refine quiet_on rfl ?_ ?_); focus (refine ⟨_, rfl, ?_⟩; with_reducible rfl)))
         apply Exists.intro
         refine ⟨fun Wq hW => ?_, hK _ ?_⟩
         focus (go_simp; first | done | with_reducible rfl | (go_at_call 68; (first | with_reducible exact grown_call hW (H.out _ hW) | with_reducible exact grown_same hW (H.out _ hW)))))
    clear hK K
    simp only [Act.put, List.setIfInBounds_toArray, List.set_cons_zero, List.set_cons_succ])
  with_reducible refine wpQuiet_nil ?_
  intro w' c
  go_wp2
  go_ret
  exact ⟨rfl, c⟩

/-- A place's word: what the walk writes for it. -/
theorem word_of {n k : Nat} {ws : List Nat} (h : Rep n ws) (hk : k < n) : ∃ q : Nat, k / 64 = q ∧ q < ws.length ∧ IntKind.i64.wrap ((k : Int) / 64) = (q : Int) ∧ (0 : Int) ≤ (q : Int) ∧ (q : Int) < (ws.length : Int) := by
  have hm := h.most
  have hl := h.len
  exact ⟨k / 64, rfl, by omega, by rw [wrap_i64_id _ (by omega)]; omega, by omega, by omega⟩
theorem and_bit (x j : Nat) (hx : x < 18446744073709551616) (hj : j < 64) : ∃ y : Nat, bits .and .u64 ((x : Nat) : Int) ((2 ^ j : Nat) : Int) = y ∧ ((y : Int) != 0) = x.testBit j := by
  refine ⟨_, bits_and_u64_nat _ _ hx (pow64 _ hj), ?_⟩
  have hb : (x &&& 2 ^ j).testBit j = x.testBit j := by simp [Nat.testBit_and]
  cases h : x.testBit j with
  | true =>
    rw [h] at hb
    have : x &&& 2 ^ j ≠ 0 := by intro e; rw [e] at hb; simp at hb
    simp; omega
  | false =>
    have : x &&& 2 ^ j = 0 := by
      apply Nat.eq_of_testBit_eq
      intro i
      rw [Nat.testBit_and, Nat.testBit_two_pow]
      by_cases e : j = i
      · subst e; simp [h]
      · simp [e]
    rw [this]; rfl

theorem has_at (k : Nat) (h : Mv w pv A n ws) (hk : k < n) : Calls Tryz.prog 69 #[pv, .int .i64 k] w fun e w' => e = .returned (.bool (hs ws k)) ∧ Grow w w' := by
  have hm := h.rep.most
  have hx : exB n k = true := by simp [exB]; omega
  obtain ⟨q, hq, hql, hqw, hq0, hq1⟩ := word_of h.rep hk
  obtain ⟨g, rfl, hc⟩ := h.cell q hql
  have H := hide fun W (c : Grow w W) => exists_any pv (some ⟨g, 0, none⟩) n ws W k (h.grow c)
  have H2 := hide fun W (c : Grow w W) => all_any pv (some ⟨g, 0, none⟩) n ws W (h.grow c)
  have H3 := hide fun W => bit_any k (by omega) W
  obtain ⟨y, hy, hy2⟩ := and_bit (ws.getD q 0) (k % 64) (h.rep.word _) (by omega)
  have HE := hide (show ((y : Int) != 0) = hs ws k by rw [hy2, ← hq]; rfl)
  rw [hx] at H
  clear h hx hy2 hq
  generalize ws.getD q 0 = x at *
  generalize 2 ^ (k % 64) = b at *
  go_enter Tryz.func69, Tryz.ntmps69
  go_wp2_with fail
  refine wp_region_grow (by kernel_rfl) (by kernel_rfl) ?_
  repeat (
    with_reducible refine wpQuiet_step ?_
    intro K hK
    first
      | ((with_reducible refine quiet_offT rfl ?_ (hK _ ?_)); focus (refine ⟨_, rfl, ?_⟩; with_reducible rfl))
      | ((with_reducible refine quiet_offF rfl ?_ (hK _ ?_)); focus (refine ⟨_, rfl, ?_⟩; with_reducible rfl))
      | ((with_reducible refine quiet_offN rfl ?_ (hK _ ?_)); focus (exact rfl))
      | ((first | with_reducible refine quiet_free rfl ?_ | ((with_reducible refine quiet_on rfl ?_ ?_); focus (refine ⟨_, rfl, ?_⟩; with_reducible rfl)))
         apply Exists.intro
         refine ⟨fun Wq hW => ?_, hK _ ?_⟩
         focus (have q0 := Grow.cell hW hc; go_simp; first | done | with_reducible rfl | (go_at_call 68; (first | with_reducible exact grown_call hW (H.out _ hW) | with_reducible exact grown_same hW (H.out _ hW))) | (go_at_call 70; (first | with_reducible exact grown_call hW (H2.out _ hW) | with_reducible exact grown_same hW (H2.out _ hW))) | (go_at_call 71; (first | with_reducible exact grown_call hW (H3.out _) | with_reducible exact grown_same hW (H3.out _)))))
    clear hK K
    simp only [Act.put, List.setIfInBounds_toArray, List.set_cons_zero, List.set_cons_succ])
  with_reducible refine wpQuiet_nil ?_
  intro w' c
  go_wp2
  go_ret
  exact ⟨ret_bool HE.out, c⟩

theorem has_any (i : Int) (h : Mv w pv A n ws) : Calls Tryz.prog 69 #[pv, .int .i64 i] w fun e w' => e = .returned (.bool (hasB n ws i)) ∧ Grow w w' := by
  cases hx : exB n i with
  | false => exact (has_no pv A n ws w i h hx).mono fun _ _ ⟨he, hg⟩ => ⟨by rw [he]; simp [hasB, hx], hg⟩
  | true =>
    obtain ⟨k, rfl, hk⟩ := exB_nat hx
    exact (has_at pv A n ws w k h hk).mono fun _ _ ⟨he, hg⟩ => ⟨by rw [he]; simp [hasB, hx], hg⟩

/-- A number brought into 0 to n. -/
def cl (n : Nat) (i : Int) : Nat := (min (max i 0) n).toNat

theorem hs_at (ws : List Nat) (q j : Nat) (hj : j < 64) : hs ws (64 * q + j) = (ws.getD q 0).testBit j := by
  unfold hs
  rw [show (64 * q + j) / 64 = q by omega, show (64 * q + j) % 64 = j by omega]
theorem cnt_word (ws : List Nat) (q r : Nat) (hr : r ≤ 64) : cnt (hs ws) (64 * q + r) = cnt (hs ws) (64 * q) + cnt (ws.getD q 0).testBit r := by
  rw [cnt_add]
  congr 1
  exact cnt_congr fun j hj => hs_at ws q j (by omega)
theorem cnt_low (x r : Nat) (hr : r ≤ 64) : cnt (x % 2 ^ r).testBit 64 = cnt x.testBit r := by
  rw [cnt_upto hr fun i h1 h2 => by rw [Nat.testBit_mod_two_pow]; simp; omega]
  exact cnt_congr fun i hi => by rw [Nat.testBit_mod_two_pow]; simp [hi]

theorem sum_cast {a b c : Nat} (h : c = a + b) : Value.int .i64 ((a : Int) + (b : Int)) = .int .i64 ((c : Nat) : Int) := by rw [h, Int.natCast_add]
theorem below_facts {n a : Nat} {ws : List Nat} (h : Rep n ws) (ha : a ≤ n) : ∃ q r : Nat, a = 64 * q + r ∧ r < 64 ∧ q ≤ ws.length ∧ (q : Int) ≤ (ws.length : Int) ∧ (0 < r → q < ws.length) ∧ IntKind.i64.wrap ((a : Int) / 64) = (q : Int) ∧ (a : Int) % 64 = (r : Int) ∧ (0 : Int) ≤ (q : Int) := by
  have hm := h.most
  have hl := h.len
  exact ⟨a / 64, a % 64, by omega, by omega, by omega, by omega, by omega, by rw [wrap_i64_id _ (by omega)]; omega, by omega, by omega⟩

/-- The answer of Between. -/
def btw (S : Nat → Bool) (n : Nat) (a b : Int) : Nat := cnt S (cl n b) - cnt S (cl n a)

end
end Go.Proofs.YtogfjclmohpjkaaGreatDoor.L3
/- What New, Set, Clear and Wipe of package bits do to a map whose places are known. Conditions: the numbers given fit their kinds; a map has at most 4096 places. -/
namespace Go.Proofs.YtogfjclmohpjkaaGreatDoor.L3
open Go.ChangeShapes Go.WideShapes Go.ChangeAt Go.RowKit
set_option linter.unusedVariables false
set_option maxRecDepth 100000

/-- The map in block p has n places; the words ws, which lie in block g. -/
def Mp (w : World) (p g n : Nat) (ws : List Nat) : Prop :=
  Blk w p 142 [.int .i64 n, .slice (some ⟨g, 0, none⟩) ws.length ws.length] ∧ Blk w g 131 (u64s ws) ∧ Rep n ws
theorem Mp.mv {w : World} {p g n : Nat} {ws : List Nat} (h : Mp w p g n ws) : Mv w (ptr p) (some ⟨g, 0, none⟩) n ws :=
  ⟨h.2.2, .inr ⟨p, rfl, h.1.cell 0, h.1.cell 1⟩, fun k hk => ⟨g, rfl, by rw [h.2.1.cell]; exact u64s_get ws k hk⟩⟩
theorem Mp.ne {w : World} {p g n : Nat} {ws : List Nat} (h : Mp w p g n ws) : p ≠ g := h.1.ne_ h.2.1 (by decide)
theorem Mp.chg {S : Nat → Prop} {w w' : World} {p g n : Nat} {ws : List Nat} (h : Mp w p g n ws) (k : Chg S w w') (hp : ¬ S p) (hg : ¬ S g) : Mp w' p g n ws := ⟨h.1.chg k hp, h.2.1.chg k hg, h.2.2⟩
theorem still_same {P : Program} {f : FuncId} {args : Array Value} {w : World} {v : Value} (h : Calls P f args w fun e w' => e = .returned v ∧ w = w') : Calls P f args w fun e w' => e = .returned v ∧ w' = w :=
  h.mono fun _ _ ⟨he, hw⟩ => ⟨he, hw.symm⟩

/-- S, but at i it is b. -/
def upd (S : Nat → Bool) (i : Nat) (b : Bool) : Nat → Bool := fun j => if j = i then b else S j
/-- The words with one replaced: what is set. -/
theorem hs_set (ws : List Nat) (q x i : Nat) (hq : q < ws.length) : hs (ws.set q x) i = if i / 64 = q then x.testBit (i % 64) else hs ws i := by
  unfold hs
  by_cases h : i / 64 = q
  · rw [if_pos h, h]; simp [List.getD_eq_getElem?_getD, hq]
  · rw [if_neg h]; simp [List.getD_eq_getElem?_getD, List.getElem?_set_ne (Ne.symm h)]
theorem set_upd (ws : List Nat) (k x : Nat) (b : Bool) (hq : k / 64 < ws.length) (hx : ∀ j, j < 64 → x.testBit j = if j = k % 64 then b else (ws.getD (k / 64) 0).testBit j) : hs (ws.set (k / 64) x) = upd (hs ws) k b := by
  funext i
  rw [hs_set _ _ _ _ hq]
  unfold upd
  by_cases h : i / 64 = k / 64
  · rw [if_pos h, hx _ (by omega)]
    by_cases h2 : i = k
    · subst h2; simp
    · rw [if_neg (by omega), if_neg h2]
      unfold hs
      rw [h]
  · rw [if_neg h, if_neg (by rintro rfl; exact h rfl)]
theorem Rep.set {n : Nat} {ws : List Nat} (h : Rep n ws) {k x : Nat} {b : Bool} (hk : k < n) (hx : x < 18446744073709551616) (hu : hs (ws.set (k / 64) x) = upd (hs ws) k b) : Rep n (ws.set (k / 64) x) := by
  refine ⟨h.most, by rw [List.length_set]; exact h.len, fun j => ?_, fun i hi => ?_⟩
  · by_cases e : j = k / 64
    · subst e
      by_cases hl : k / 64 < ws.length
      · simp [List.getD_eq_getElem?_getD, hl]; exact hx
      · simp [List.getD_eq_getElem?_getD, Nat.not_lt.1 hl]
    · have := h.word j
      simpa [List.getD_eq_getElem?_getD, List.getElem?_set_ne (Ne.symm e)] using this
  · rw [hu] at hi
    unfold upd at hi
    by_cases e : i = k
    · omega
    · rw [if_neg e] at hi; exact h.tail i hi

theorem Mp.stored {w : World} {p g n : Nat} {ws : List Nat} (h : Mp w p g n ws) {q y : Nat} (hr : Rep n (ws.set q y)) : Mp (w.setCell ⟨g, q, none⟩ (.int .u64 (y : Nat))) p g n (ws.set q y) :=
  ⟨by rw [List.length_set]; exact h.1.far h.ne _, by rw [← u64s_set]; exact h.2.1.set_ q _, hr⟩

/-- Cells set one behind the other. -/
def spl (cs : List Value) (o : Nat) : List Value → List Value
  | [] => cs
  | v :: r => spl (cs.set o v) (o + 1) r
theorem spl_get : ∀ (vs : List Value) (cs : List Value) (o i : Nat), o + vs.length ≤ cs.length → (spl cs o vs)[i]? = if o ≤ i ∧ i < o + vs.length then vs[i - o]? else cs[i]?
  | [], cs, o, i, _ => by rw [if_neg (by simp)]; rfl
  | v :: r, cs, o, i, h => by
    simp only [List.length_cons] at h
    rw [spl, spl_get r _ _ i (by simp; omega), List.getElem?_set]
    simp only [List.length_cons]
    by_cases h1 : o = i
    · subst h1
      rw [if_neg (by omega), if_pos rfl, if_pos (by omega), if_pos (by omega)]
      simp
    · by_cases h2 : o ≤ i ∧ i < o + (r.length + 1)
      · rw [if_pos (by omega), if_pos h2, show i - o = (i - (o + 1)) + 1 by omega]; rfl
      · rw [if_neg (by omega), if_neg h2, if_neg h1]
theorem spl_all (cs : List Value) (z : Value) : spl cs 0 (List.replicate cs.length z) = List.replicate cs.length z := by
  apply List.ext_getElem?
  intro i
  rw [spl_get _ _ _ _ (by simp)]
  by_cases h : i < cs.length
  · rw [if_pos (by simp; omega)]; rfl
  · rw [if_neg (by simp; omega), List.getElem?_eq_none (by omega), List.getElem?_eq_none (by simp; omega)]
theorem _root_.Go.Proofs.YtogfjclmohpjkaaGreatDoor.Blk.cells {g : Nat} {t : TypeId} : ∀ (vs : List Value) (o : Nat) (w : World) (cs : List Value), Blk w g t cs → Blk (w.setCells g o vs) g t (spl cs o vs)
  | [], _, _, _, h => h
  | v :: r, o, w, cs, h => Blk.cells r (o + 1) _ _ (h.set_ o v)
theorem _root_.Go.Proofs.YtogfjclmohpjkaaGreatDoor.Blk.cells_far {g g' : Nat} {t : TypeId} {cs : List Value} (hne : g' ≠ g) : ∀ (vs : List Value) (o : Nat) (w : World), Blk w g' t cs → Blk (w.setCells g o vs) g' t cs
  | [], _, _, h => h
  | v :: r, o, w, h => Blk.cells_far hne r (o + 1) _ (h.far (p := ⟨g, o, none⟩) hne v)
theorem chg_cells {g : Nat} {a : World} : ∀ (vs : List Value) (o : Nat) (b : World), Chg (· = g) a b → Chg (· = g) a (b.setCells g o vs)
  | [], _, _, h => h
  | v :: r, o, b, h => chg_cells r (o + 1) _ (h.set1 o v)
theorem hs_zeros (n : Nat) : hs (List.replicate n 0) = fun _ => false := by
  funext i
  unfold hs
  rw [List.getD_eq_getElem?_getD, List.getElem?_replicate]
  split <;> simp
theorem Rep.zeros {n : Nat} (h : n ≤ 4096) : Rep n (List.replicate ((n + 63) / 64) 0) :=
  ⟨h, by simp, fun k => by rw [List.getD_eq_getElem?_getD, List.getElem?_replicate]; split <;> decide, fun i hi => by rw [hs_zeros] at hi; cases hi⟩
theorem u64s_zeros (n : Nat) : u64s (List.replicate n 0) = List.replicate n (.int .u64 0) := by simp [u64s]

theorem Tryz.infoU64 : (Tryz.prog.info? 131).map (fun i => (i.zero, i.size, i.bytes)) = some (some (.int .u64 0), 1, 8) := by kernel_rfl
theorem zeroU64 : ∀ w, (zeroValue 131).run Tryz.prog w = .ok (.int .u64 0) w := fun w => by kernel_rfl
/-- make([]uint64, x). -/
theorem mk_u64s (x : Nat) (h1 : x ≤ 1099511627776) (W : World) :
    (Instr.makeSlice 132 (.int .i64 (x : Int)) (.int .i64 (x : Int))).run Tryz.prog W = .ok (.slice (some ⟨W.heap.size, 0, none⟩) x x) (W.alloc (.cells (u64s (List.replicate x 0)).toArray 131)) := by
  obtain ⟨i, hi, hz, hs, hb⟩ := info_parts Tryz.infoU64
  rw [run_make (P := Tryz.prog) W 132 131 i _ Tryz.underlying132 hi hz .i64 .i64 (x : Int) (x : Int) (by omega) (Int.le_refl _) (by rw [hb]; omega) (by omega)]
  have e : madeCells (Value.int .u64 0).cells ((x : Int).toNat * i.size) = (u64s (List.replicate x 0)).toArray := by
    apply Array.ext'
    rw [hs, Nat.mul_one]
    show (madeCells #[.int .u64 0] x).toList = _
    rw [toList_madeCells_one, u64s_zeros]
  rw [e]
  rfl

section
variable (w : World)

theorem set_no (pv : Value) (A : Option Addr) (n : Nat) (ws : List Nat) (i : Int) (h : Mv w pv A n ws) (hx : exB n i = false) : Calls Tryz.prog 36 #[pv, .int .i64 i] w fun e w' => e = .returned (.bool false) ∧ w = w' := by
  have H := hide (exists_any pv A n ws w i h)
  rw [hx] at H
  clear h hx
  go_enter Tryz.func36, Tryz.ntmps36
  go_wp2_with fail
  refine H.out.mono ?_
  rintro e w' ⟨rfl, rfl⟩
  go_wp2
  go_ret
  exact ⟨rfl, rfl⟩

theorem set_had (pv : Value) (A : Option Addr) (n : Nat) (ws : List Nat) (k : Nat) (h : Mv w pv A n ws) (hk : k < n) (hh : hs ws k = true) : Calls Tryz.prog 36 #[pv, .int .i64 k] w fun e w' => e = .returned (.bool false) ∧ Grow w w' := by
  have H := hide (exists_any pv A n ws w k h)
  have hx : exB n (k : Int) = true := by simp [exB]; omega
  rw [hx] at H
  have H2 := hide (has_at pv A n ws w k h hk)
  rw [hh] at H2
  clear h hx hh
  go_enter Tryz.func36, Tryz.ntmps36
  go_wp2_with fail
  refine H.out.mono ?_
  rintro e w' ⟨rfl, rfl⟩
  go_wp2_with fail
  refine H2.out.mono ?_
  rintro e w' ⟨rfl, c⟩
  go_wp2
  go_ret
  exact ⟨rfl, c⟩

set_option maxHeartbeats 1000000 in
theorem set_new (p g n : Nat) (ws : List Nat) (k : Nat) (h : Mp w p g n ws) (hk : k < n) (hh : hs ws k = false) :
    Calls Tryz.prog 36 #[ptr p, .int .i64 k] w fun e w' => e = .returned (.bool true) ∧ (∃ ws', Mp w' p g n ws' ∧ hs ws' = upd (hs ws) k true) ∧ Chg (· = g) w w' := by
  have hm := h.2.2.most
  have H := hide (exists_any _ _ n ws w k h.mv)
  have hx : exB n (k : Int) = true := by simp [exB]; omega
  rw [hx] at H
  have H2 := hide (has_at _ _ n ws w k h.mv hk)
  rw [hh] at H2
  obtain ⟨q, hq, hql, hqw, hq0, hq1⟩ := word_of h.2.2 hk
  have hxw := h.2.2.word q
  have H3 := hide (bit_any k (by omega))
  have hpw := pow64 (k % 64) (by omega)
  have hor : ∃ y : Nat, bits .or .u64 ((ws.getD q 0 : Nat) : Int) ((2 ^ (k % 64) : Nat) : Int) = (y : Int) ∧ y < 18446744073709551616 ∧ hs (ws.set q y) = upd (hs ws) k true := by
    refine ⟨_, bits_or_u64_nat _ _ hxw hpw, Nat.or_lt_two_pow (n := 64) hxw hpw, ?_⟩
    subst hq
    refine set_upd _ _ _ _ hql fun j hj => ?_
    rw [Nat.testBit_or, Nat.testBit_two_pow]
    by_cases e : j = k % 64
    · simp [e]
    · rw [if_neg e]; simp [Ne.symm e]
  obtain ⟨y, hy, hyl, hyu⟩ := hor
  have HU := hide hyu
  have HR := hide (h.2.2.set (x := y) (b := true) hk hyl (by rw [hq]; exact hyu))
  rw [hq] at HR
  have HM := hide h
  have hxx : ∃ x, x = ws.getD q 0 := ⟨_, rfl⟩
  obtain ⟨x, hxx⟩ := hxx
  rw [← hxx] at hy
  have HX := hide hxx
  generalize 2 ^ (k % 64) = b at *
  clear h hx hh hyu hxx hpw hxw
  go_enter Tryz.func36, Tryz.ntmps36
  go_wp2_with fail
  refine H.out.mono ?_
  rintro e w' ⟨rfl, rfl⟩
  go_wp2_with fail
  refine H2.out.mono ?_
  rintro e w2 ⟨rfl, c2⟩
  have hm2 := HM.out.chg c2 id id
  have hc : w2.cell? ⟨g, q, none⟩ = some (.int .u64 x) := by rw [HX.out, hm2.2.1.cell]; exact u64s_get ws q hql
  have hf := hm2.2.1.frozen q
  have HA := hide fun W (c : Grow w2 W) => all_any _ _ n ws W (hm2.mv.grow c)
  have HM2 := hide hm2
  clear hm2
  go_wp2_with fail
  refine wp_region_still_tail 10 (by kernel_rfl) (by kernel_rfl) ?_
  simp only [List.take_succ_cons, List.take_zero, List.drop_succ_cons, List.drop_zero]
  repeat (
    refine wpStill_step (fun K hK => ?_)
    go_simp
    first
      | (refine hK _ ?_; clear hK K)
      | (refine ⟨_, still_same (HA.out _ ((Chg.refl _ w2).drew)), hK _ ?_⟩; clear hK K)
      | (refine ⟨_, still_same (H3.out _), hK _ ?_⟩; clear hK K))
  refine wpStill_nil ?_
  change wpList _ _ _ _ _ (World.drew _)
  go_wp2
  go_ret
  exact ⟨rfl, ⟨_, HM2.out.stored HR.out, HU.out⟩, (c2.mono (S := (· = g)) (fun _ _ h => h.elim)).set1 q _ |>.drew⟩

/-- Wipe of what has no words. -/
theorem wipe_none (pv : Value) (A : Option Addr) (n : Nat) (h : Mv w pv A n []) : Calls Tryz.prog 56 #[pv] w fun e w' => e = .returned (.tuple #[]) ∧ w = w' := by
  have hcl : ∀ W ty, (Builtin.clear_ #[132] ty #[.slice A 0 0]).run Tryz.prog W = .ok (.tuple #[]) W := fun W ty => by
    cases A <;> simp [Builtin.clear_, run_underlying Tryz.underlying132]
  have H := hide (all_any pv A n [] w h)
  clear h
  go_enter Tryz.func56, Tryz.ntmps56
  go_wp2_with fail
  refine H.out.mono ?_
  rintro e w' ⟨rfl, rfl⟩
  go_wp2
  go_returns
  exact ⟨rfl, rfl⟩

theorem wipe_some (p g n : Nat) (ws : List Nat) (h : Mp w p g n ws) (hl : 0 < ws.length) :
    Calls Tryz.prog 56 #[ptr p] w fun e w' => e = .returned (.tuple #[]) ∧ (∃ ws', Mp w' p g n ws' ∧ hs ws' = fun _ => false) ∧ Chg (· = g) w w' := by
  have hcl := fun ty => Lib.run_clear_slice (P := Tryz.prog) w 132 131 ty (.int .u64 0) Tryz.underlying132 zeroU64 rfl rfl g 0 ws.length ws.length hl (fun j hj => by rw [Nat.zero_add, h.2.1.cell, u64s_get ws j hj]; rfl) (fun j hj => h.2.1.frozen _)
  have HM := hide h
  have H := hide (all_any _ _ n ws w h.mv)
  clear h
  go_enter Tryz.func56, Tryz.ntmps56
  go_wp2_with fail
  refine H.out.mono ?_
  rintro e w' ⟨rfl, rfl⟩
  go_wp2
  go_returns
  refine ⟨rfl, ⟨List.replicate ws.length 0, ⟨?_, ?_, ?_⟩, hs_zeros _⟩, chg_cells _ _ _ (Chg.refl _ _)⟩
  · rw [List.length_replicate]; exact Blk.cells_far HM.out.ne _ _ _ HM.out.1
  · rw [u64s_zeros]
    have := Blk.cells (List.replicate ws.length (.int .u64 0)) 0 w _ HM.out.2.1
    rw [← u64s_length ws, spl_all, u64s_length] at this
    exact this
  · rw [HM.out.2.2.len]; exact Rep.zeros HM.out.2.2.most

theorem wipe_any (p g n : Nat) (ws : List Nat) (h : Mp w p g n ws) :
    Calls Tryz.prog 56 #[ptr p] w fun e w' => e = .returned (.tuple #[]) ∧ (∃ ws', Mp w' p g n ws' ∧ hs ws' = fun _ => false) ∧ Chg (· = g) w w' := by
  by_cases hl : 0 < ws.length
  · exact wipe_some w p g n ws h hl
  · obtain rfl : ws = [] := List.eq_nil_of_length_eq_zero (by omega)
    exact (wipe_none w _ _ n h.mv).mono fun e w' ⟨he, hw⟩ => by subst hw; exact ⟨he, ⟨[], h, hs_zeros 0⟩, Chg.refl _ _⟩

/-- How many places New makes. -/
def clamp (n : Int) : Nat := (min (max n 0) 4096).toNat

theorem new_any (v : Int) : Calls Tryz.prog 46 #[.int .i64 v] w fun e w' => e = .returned (ptr (w.heap.size + 1)) ∧ (∃ ws, Mp w' (w.heap.size + 1) w.heap.size (clamp v) ws ∧ hs ws = fun _ => false) ∧ Grow w w' := by
  obtain ⟨m, hm⟩ : ∃ m : Nat, max v 0 = m := ⟨(max v 0).toNat, by omega⟩
  obtain ⟨n, hn⟩ : ∃ n, clamp v = n := ⟨_, rfl⟩
  have hnle : n ≤ 4096 := by rw [← hn]; unfold clamp; omega
  have hmx : ∀ ts t W, (Builtin.max_ ts t #[.int .i64 v, .int .i64 0]).run Tryz.prog W = .ok (.int .i64 m) W := fun ts t W => by
    rw [run_max_int2]; congr 2; split <;> omega
  have hmn : ∀ ts t W, (Builtin.min_ ts t #[.int .i64 m, .int .i64 4096]).run Tryz.prog W = .ok (.int .i64 n) W := fun ts t W => by
    rw [run_min_int2]; congr 2; unfold clamp at hn; split <;> omega
  rw [hn]
  have hw1 : IntKind.i64.wrap ((n : Int) + 64) = (n : Int) + 64 := wrap_i64_id _ (by omega)
  have hw2 : IntKind.i64.wrap ((n : Int) + 64 - 1) = ((n + 63 : Nat) : Int) := by rw [wrap_i64_id _ (by omega)]; omega
  obtain ⟨l, hl⟩ : ∃ l, (n + 63) / 64 = l := ⟨_, rfl⟩
  have hw3 : IntKind.i64.wrap (((n + 63 : Nat) : Int) / 64) = (l : Int) := by rw [wrap_i64_id _ (by omega)]; omega
  have hmk := mk_u64s l (by omega)
  have HL := hide hl
  have HZ := hide (Rep.zeros hnle)
  clear hm hn hl
  generalize n + 63 = n63 at *
  go_enter Tryz.func46, Tryz.ntmps46
  go_wp2
  go_ret
  have h1 := Blk.new w 131 (u64s (List.replicate l 0))
  have h2 := Blk.new (w.alloc (.cells (u64s (List.replicate l 0)).toArray 131)) 142 [.int .i64 n, .slice (some ⟨w.heap.size, 0, none⟩) l l]
  rw [World.size_alloc] at h2
  refine ⟨rfl, ⟨List.replicate l 0, ⟨?_, h1.alloc _, ?_⟩, hs_zeros _⟩, ((Chg.refl _ _).alloc _).alloc _⟩
  · rw [List.length_replicate]; exact h2
  · rw [← HL.out]; exact HZ.out
end
end Go.Proofs.YtogfjclmohpjkaaGreatDoor.L3
/- What Next of package bits answers, of a map whose words are known. Conditions: the numbers given fit their kinds; the table of TrailingZeros64 is as the program's text lays it. -/
namespace Go.Proofs.YtogfjclmohpjkaaGreatDoor.L3
open Go.ChangeShapes Go.WideShapes Go.ChangeAt Go.RowKit
set_option linter.unusedVariables false
set_option maxRecDepth 100000

/-- The first of f places from i on that is set, or -1. -/
def nxF (S : Nat → Bool) : Nat → Nat → Int
  | 0, _ => -1
  | f + 1, i => if S i then (i : Int) else nxF S f (i + 1)
/-- The answer of Next. -/
def nx (S : Nat → Bool) (n : Nat) (a : Int) : Int := nxF S (n - a.toNat) a.toNat
theorem nxF_some {S : Nat → Bool} (f : Nat) : ∀ i j : Nat, i ≤ j → j < i + f → S j = true → (∀ k, i ≤ k → k < j → S k = false) → nxF S f i = (j : Int) := by
  induction f with
  | zero => intro i j h1 h2; omega
  | succ f ih =>
    intro i j h1 h2 h3 h4
    by_cases e : i = j
    · subst e; simp [nxF, h3]
    · rw [nxF, h4 i (Nat.le_refl _) (by omega)]
      exact ih (i + 1) j (by omega) (by omega) h3 fun k hk hk2 => h4 k (by omega) hk2
theorem nxF_none {S : Nat → Bool} (f : Nat) : ∀ i : Nat, (∀ k, i ≤ k → k < i + f → S k = false) → nxF S f i = -1 := by
  induction f with
  | zero => intro i _; rfl
  | succ f ih =>
    intro i h
    rw [nxF, h i (Nat.le_refl _) (by omega)]
    exact ih (i + 1) fun k hk hk2 => h k (by omega) (by omega)
theorem nx_some {S : Nat → Bool} {n : Nat} {a : Int} (j : Nat) (h1 : a.toNat ≤ j) (h2 : j < n) (h3 : S j = true) (h4 : ∀ k, a.toNat ≤ k → k < j → S k = false) : nx S n a = (j : Int) :=
  nxF_some _ _ j h1 (by omega) h3 h4
theorem nx_none {S : Nat → Bool} {n : Nat} {a : Int} (h : ∀ k, a.toNat ≤ k → k < n → S k = false) : nx S n a = -1 :=
  nxF_none _ _ fun k h1 h2 => h k h1 (by omega)
/-- It is one or the other. -/
theorem nx_cases (S : Nat → Bool) (n : Nat) (a : Int) : (nx S n a = -1 ∧ ∀ k, a.toNat ≤ k → k < n → S k = false) ∨ ∃ j : Nat, nx S n a = (j : Int) ∧ a.toNat ≤ j ∧ j < n ∧ S j = true ∧ ∀ k, a.toNat ≤ k → k < j → S k = false := by
  have key : ∀ f i : Nat, (∀ k, i ≤ k → k < i + f → S k = false) ∨ ∃ j, i ≤ j ∧ j < i + f ∧ S j = true ∧ ∀ k, i ≤ k → k < j → S k = false := by
    intro f
    induction f with
    | zero => intro i; exact .inl fun k h1 h2 => by omega
    | succ f ih =>
      intro i
      cases h : S i with
      | true => exact .inr ⟨i, Nat.le_refl _, by omega, h, fun k h1 h2 => by omega⟩
      | false =>
        rcases ih (i + 1) with h' | ⟨j, h1, h2, h3, h4⟩
        · refine .inl fun k h1 h2 => ?_
          by_cases e : i = k
          · exact e ▸ h
          · exact h' k (by omega) (by omega)
        · refine .inr ⟨j, by omega, by omega, h3, fun k h5 h6 => ?_⟩
          by_cases e : i = k
          · exact e ▸ h
          · exact h4 k (by omega) h6
  rcases key (n - a.toNat) a.toNat with h | ⟨j, h1, h2, h3, h4⟩
  · have h' : ∀ k, a.toNat ≤ k → k < n → S k = false := fun k h1 h2 => h k h1 (by omega)
    exact .inl ⟨nx_none h', h'⟩
  · exact .inr ⟨j, nx_some j h1 (by omega) h3 h4, h1, by omega, h3, h4⟩

section
variable (pv : Value) (A : Option Addr) (n : Nat) (ws : List Nat) (w : World)

theorem max_fact (i : Int) (a : Nat) (h : i.toNat = a) (ts : Array TypeId) (t : TypeId) (W : World) : (Builtin.max_ ts t #[.int .i64 i, .int .i64 0]).run Tryz.prog W = .ok (.int .i64 a) W := by
  rw [run_max_int2]
  congr 2
  split <;> omega

/-- What holds at the label: m is the word's place, x what is left of it. -/
structure At (n : Nat) (ws : List Nat) (a m x : Nat) : Prop where
  inn : m < ws.length
  word : x < 18446744073709551616
  bit : ∀ j, j < 64 → x.testBit j = (hs ws (64 * m + j) && decide (a ≤ 64 * m + j))
  none : ∀ k, a ≤ k → k < 64 * m → hs ws k = false
theorem At.start {n a : Nat} {ws : List Nat} (h : Rep n ws) (ha : a < n) {y : Nat} (hy : y = ws.getD (a / 64) 0 &&& (18446744073709551615 - (2 ^ (a % 64) - 1))) : At n ws a (a / 64) y := by
  have hl := h.len
  refine ⟨by omega, by rw [hy]; exact Nat.lt_of_le_of_lt Nat.and_le_left (h.word _), fun j hj => ?_, fun k h1 h2 => by omega⟩
  have e : 18446744073709551615 - (2 ^ (a % 64) - 1) = 2 ^ 64 - ((2 ^ (a % 64) - 1) + 1) := by have := Nat.two_pow_pos (a % 64); omega
  have hp : 2 ^ (a % 64) - 1 < 2 ^ 64 := by have := pow64 (a % 64) (by omega); omega
  rw [hy, Nat.testBit_and, hs_at ws _ j hj, e, Nat.testBit_two_pow_sub_succ hp, Nat.testBit_two_pow_sub_one]
  congr 1
  simp only [hj, decide_true, Bool.true_and]
  by_cases hc : j < a % 64
  · simp [hc]; omega
  · simp [hc]; omega
theorem At.found {n a m x : Nat} {ws : List Nat} (h : At n ws a m x) (hr : Rep n ws) (hx : x ≠ 0) {i : Int} (hi : i.toNat = a) : nx (hs ws) n i = ((64 * m + Lib.ctz 64 x : Nat) : Int) ∧ Lib.ctz 64 x < 64 := by
  obtain ⟨h1, h2, h3⟩ := ctz_spec x h.word hx
  have hb := h.bit _ h1
  rw [h2] at hb
  have hb' := hb.symm
  rw [Bool.and_eq_true, decide_eq_true_eq] at hb'
  refine ⟨nx_some _ (by omega) (hr.tail _ hb'.1) hb'.1 fun k h4 h5 => ?_, h1⟩
  by_cases hk : k < 64 * m
  · exact h.none k (by omega) hk
  · have := h.bit (k - 64 * m) (by omega)
    rw [h3 _ (by omega), show 64 * m + (k - 64 * m) = k by omega] at this
    have h6 : decide (a ≤ k) = true := by simp; omega
    rw [h6, Bool.and_true] at this
    exact this.symm
theorem At.empty {n a m : Nat} {ws : List Nat} (h : At n ws a m 0) : ∀ k, a ≤ k → k < 64 * (m + 1) → hs ws k = false := by
  intro k h1 h2
  by_cases hk : k < 64 * m
  · exact h.none k h1 hk
  · have := h.bit (k - 64 * m) (by omega)
    rw [Nat.zero_testBit, show 64 * m + (k - 64 * m) = k by omega] at this
    have h6 : decide (a ≤ k) = true := by simp; omega
    rw [h6, Bool.and_true] at this
    exact this.symm
theorem At.step {n a m : Nat} {ws : List Nat} (h : At n ws a m 0) (hr : Rep n ws) (ha : a / 64 ≤ m) (hm : m + 1 < ws.length) : At n ws a (m + 1) (ws.getD (m + 1) 0) :=
  ⟨hm, hr.word _, fun j hj => by rw [hs_at ws _ j hj]; simp; omega, h.empty⟩
theorem At.gone {n a m : Nat} {ws : List Nat} (h : At n ws a m 0) (hr : Rep n ws) (hm : ¬ m + 1 < ws.length) {i : Int} (hi : i.toNat = a) : nx (hs ws) n i = -1 :=
  nx_none fun k h1 h2 => h.empty k (by omega) (by have := hr.len; have := h.inn; omega)
theorem next_out (i : Int) (h : Mv w pv A n ws) (hi : n ≤ i.toNat) : Calls Tryz.prog 48 #[pv, .int .i64 i] w fun e w' => e = .returned (.int .i64 (nx (hs ws) n i)) ∧ Grow w w' := by
  rw [nx_none fun k h1 h2 => by omega]
  obtain ⟨a, ha⟩ : ∃ a, i.toNat = a := ⟨_, rfl⟩
  have hmx := max_fact i a ha
  have hx : exB n (a : Int) = false := by simp [exB]; omega
  have H := hide (exists_any pv A n ws w a h)
  rw [hx] at H
  clear h hi ha hx
  go_enter Tryz.func48, Tryz.ntmps48
  go_wp2_with fail
  go_step3
  go_wp2_with fail
  refine H.out.mono ?_
  rintro e w' ⟨rfl, rfl⟩
  go_wp2
  try rw [Exit.noGoto_ret]
  go_ret
  exact ⟨rfl, Chg.refl _ _⟩


set_option maxHeartbeats 1000000 in
theorem next_in (i : Int) (a : Nat) (ha : i.toNat = a) (h : Mv w pv A n ws) (hi : a < n) (ht : Tab w) : Calls Tryz.prog 48 #[pv, .int .i64 i] w fun e w' => e = .returned (.int .i64 (nx (hs ws) n i)) ∧ Grow w w' := by
  obtain ⟨q, hq, hql, hqw, hq0, hq1⟩ := word_of h.rep hi
  have hm := h.rep.most
  obtain ⟨g, rfl, hc⟩ := h.cell q hql
  have hmx := max_fact i a ha
  have hx : exB n (a : Int) = true := by simp [exB]; omega
  have H1 := hide (exists_any pv _ n ws w a h)
  rw [hx] at H1
  have H := hide h
  have HT := hide ht
  have hl64 := h.lenle
  clear hx h ht
  have hat : ∀ y, y = ws.getD q 0 &&& (18446744073709551615 - (2 ^ (a % 64) - 1)) → At n ws a q y := fun y hy => by subst hq; exact At.start H.out.rep hi hy
  have HAT := hide hat
  clear hat
  obtain ⟨b, hb⟩ : ∃ b, b = a % 64 := ⟨_, rfl⟩
  have hp := pow64 b (by omega)
  have hp1 : 0 < 2 ^ b := Nat.two_pow_pos b
  have hbw : IntKind.u64.wrap (((2 ^ b : Nat) : Int) - 1) = ((2 ^ b - 1 : Nat) : Int) := by rw [wrap_u64_id _ (by omega) (by omega)]; omega
  have hbit := bit_any a (by omega)
  rw [← hb] at hbit HAT
  have HB := hide hbit
  have hx := H.out.rep.word q
  obtain ⟨y, hy, hat⟩ : ∃ y : Nat, bits .andNot .u64 ((ws.getD q 0 : Nat) : Int) ((2 ^ b - 1 : Nat) : Int) = y ∧ At n ws a q y := ⟨_, u64_andNot_nat _ _ hx (by omega), HAT.out _ rfl⟩
  have HAT2 := hide hat
  generalize ws.getD q 0 = x at *
  clear HAT hat
  generalize 2 ^ b - 1 = b1 at *
  generalize 2 ^ b = bb at *
  have HQ := hide hq
  have HAA := hide ha
  clear hbit hp hp1 hq ha hb hx
  go_enter Tryz.func48, Tryz.ntmps48
  go_wp2_with fail
  refine wp_scope_jumps 0 (fun a' w' => Grow w w' ∧ ∃ (m x : Nat), At n ws a m x ∧ q ≤ m ∧ ∃ u8 u9 u10 u11 u12 u13 u14 u15 u16 u17 u18 u19 u20 u21 u22 u23 u24 u25 u26 u27 u28 u29 u30 u31 u32 u33 u34 u35 u36 u37 u38 u39 u40 u41 u42 : Value, a' = { tmps := #[pv, .int .i64 a, undef, undef, .int .i64 0, .slice (some ⟨g, 0, none⟩) ws.length ws.length, .int .i64 m, .int .u64 x, u8, u9, u10, u11, u12, u13, u14, u15, u16, u17, u18, u19, u20, u21, u22, u23, u24, u25, u26, u27, u28, u29, u30, u31, u32, u33, u34, u35, u36, u37, u38, u39, u40, u41, u42], defers := [] }) (fun a' _ => ws.length - (intOf (a'.tmps.getD 6 undef)).toNat) rfl ?_ ?_
  · go_wp2_with fail
    refine H1.out.mono ?_
    rintro e w' ⟨rfl, rfl⟩
    go_wp2_with fail
    refine (all_any _ _ n ws _ H.out).mono ?_
    rintro e w' ⟨rfl, rfl⟩
    go_wp2_with fail
    refine wp_region_grow (by kernel_rfl) (by kernel_rfl) ?_
    repeat (
      with_reducible refine wpQuiet_step ?_
      intro K hK
      first
        | ((with_reducible refine quiet_offT rfl ?_ (hK _ ?_)); focus (refine ⟨_, rfl, ?_⟩; with_reducible rfl))
        | ((with_reducible refine quiet_offF rfl ?_ (hK _ ?_)); focus (refine ⟨_, rfl, ?_⟩; with_reducible rfl))
        | ((with_reducible refine quiet_offN rfl ?_ (hK _ ?_)); focus (exact rfl))
        | ((first | with_reducible refine quiet_free rfl ?_ | ((with_reducible refine quiet_on rfl ?_ ?_); focus (refine ⟨_, rfl, ?_⟩; with_reducible rfl)))
           apply Exists.intro
           refine ⟨fun Wq hW => ?_, hK _ ?_⟩
           focus (have q0 := Grow.cell hW hc; go_simp; first | done | with_reducible rfl | (go_at_call 71; (first | with_reducible exact grown_call hW (HB.out _) | with_reducible exact grown_same hW (HB.out _)))))
      clear hK K
      simp only [Act.put, List.setIfInBounds_toArray, List.set_cons_zero, List.set_cons_succ])
    with_reducible refine wpQuiet_nil ?_
    intro W cr
    go_wp2_with fail
    go_step3
    have hat := HAT2.out
    have hqm : q ≤ q := Nat.le_refl _
    clear HAT2 HB H1 hbw hy hc
    clear hqw hq0 hq1 hql
    have hml := hat.inn
    by_cases hx0 : y = 0
    · have hxn : ((y : Int) != 0) = false := by simp; omega
      have hat0 : At n ws a q 0 := hx0 ▸ hat
      have HAT0 := hide hat0
      clear hat hat0 hx0
      obtain ⟨m1, hm1⟩ : ∃ m1, q + 1 = m1 := ⟨_, rfl⟩
      have hw1 : IntKind.i64.wrap ((q : Int) + 1) = (m1 : Int) := by rw [wrap_i64_id _ (by omega)]; omega
      have hw2 : wrap64 ((q : Int) + 1) = (m1 : Int) := by rw [wrap64_id _ (by omega)]; omega
      by_cases hlt : m1 < ws.length
      · obtain ⟨g', e', hc1⟩ := H.out.cell m1 hlt
        cases e'
        replace hc1 := cr.cell hc1
        have hlt1 : (m1 : Int) < (ws.length : Int) := by omega
        have hlt2 : (0 : Int) ≤ (m1 : Int) := by omega
        have HAT1 := hide (show At n ws a m1 (ws.getD m1 0) from hm1 ▸ HAT0.out.step H.out.rep (by rw [HQ.out]; omega) (by omega))
        have HM := hide hm1
        clear hm1 hml
        generalize ws.getD m1 0 = x1 at *
        go_wp2
        go_step3
        (exact ⟨rfl, cr, m1, _, HAT1.out, by have := HM.out; omega, _, _, _, _, _, _, _, _, _, _, _, _, _, _, _, _, _, _, _, _, _, _, _, _, _, _, _, _, _, _, _, _, _, _, _, rfl⟩)
      · have hlt1 : decide ((m1 : Int) < (ws.length : Int)) = false := by simp; omega
        have HN := hide (HAT0.out.gone H.out.rep (by omega) HAA.out)
        clear hm1 hml
        go_wp2
        simp only [Exit.jump]
        go_ret
        exact ⟨ret_int HN.out.symm, cr⟩
    · have hxn : ((y : Int) != 0) = true := by simp; omega
      have hxw := hat.word
      obtain ⟨hn, hz⟩ := hat.found H.out.rep hx0 HAA.out
      have htz := hide (tz_any y hat.word hx0 W (HT.out.chg cr id))
      generalize Lib.ctz 64 y = z at *
      have hw1 : IntKind.i64.wrap ((q : Int) * 64) = (q : Int) * 64 := wrap_i64_id _ (by omega)
      have hw2 : IntKind.i64.wrap ((q : Int) * 64 + (z : Int)) = (q : Int) * 64 + (z : Int) := wrap_i64_id _ (by omega)
      have HN := hide hn
      clear hn hat hx0
      go_wp2_with fail
      refine htz.out.mono ?_
      rintro e w' ⟨rfl, rfl⟩
      go_wp2
      simp only [Exit.jump]
      go_ret
      exact ⟨ret_int (by rw [HN.out]; omega), cr⟩
  · rintro a' W ⟨cr, m, x, hat, hqm, u8, u9, u10, u11, u12, u13, u14, u15, u16, u17, u18, u19, u20, u21, u22, u23, u24, u25, u26, u27, u28, u29, u30, u31, u32, u33, u34, u35, u36, u37, u38, u39, u40, u41, u42, rfl⟩
    clear HAT2 HB H1 hbw hy hc hqw hq0 hq1 hql
    have hml := hat.inn
    by_cases hx0 : x = 0
    · have hxn : ((x : Int) != 0) = false := by simp; omega
      have hat0 : At n ws a m 0 := hx0 ▸ hat
      have HAT0 := hide hat0
      clear hat hat0 hx0
      obtain ⟨m1, hm1⟩ : ∃ m1, m + 1 = m1 := ⟨_, rfl⟩
      have hw1 : IntKind.i64.wrap ((m : Int) + 1) = (m1 : Int) := by rw [wrap_i64_id _ (by omega)]; omega
      have hw2 : wrap64 ((m : Int) + 1) = (m1 : Int) := by rw [wrap64_id _ (by omega)]; omega
      by_cases hlt : m1 < ws.length
      · obtain ⟨g', e', hc1⟩ := H.out.cell m1 hlt
        cases e'
        replace hc1 := cr.cell hc1
        have hlt1 : (m1 : Int) < (ws.length : Int) := by omega
        have hlt2 : (0 : Int) ≤ (m1 : Int) := by omega
        have HAT1 := hide (show At n ws a m1 (ws.getD m1 0) from hm1 ▸ HAT0.out.step H.out.rep (by rw [HQ.out]; omega) (by omega))
        have HM := hide hm1
        clear hm1 hml
        generalize ws.getD m1 0 = x1 at *
        go_wp2
        go_step3
        (exact ⟨rfl, ⟨cr, m1, _, HAT1.out, by have := HM.out; omega, _, _, _, _, _, _, _, _, _, _, _, _, _, _, _, _, _, _, _, _, _, _, _, _, _, _, _, _, _, _, _, _, _, _, _, rfl⟩, by have := HM.out; simp [intOf]; omega⟩)
      · have hlt1 : decide ((m1 : Int) < (ws.length : Int)) = false := by simp; omega
        have HN := hide (HAT0.out.gone H.out.rep (by omega) HAA.out)
        clear hm1 hml
        go_wp2
        simp only [Exit.jump]
        go_ret
        exact ⟨ret_int HN.out.symm, cr⟩
    · have hxn : ((x : Int) != 0) = true := by simp; omega
      have hxw := hat.word
      obtain ⟨hn, hz⟩ := hat.found H.out.rep hx0 HAA.out
      have htz := hide (tz_any x hat.word hx0 W (HT.out.chg cr id))
      generalize Lib.ctz 64 x = z at *
      have hw1 : IntKind.i64.wrap ((m : Int) * 64) = (m : Int) * 64 := wrap_i64_id _ (by omega)
      have hw2 : IntKind.i64.wrap ((m : Int) * 64 + (z : Int)) = (m : Int) * 64 + (z : Int) := wrap_i64_id _ (by omega)
      have HN := hide hn
      clear hn hat hx0
      go_wp2_with fail
      refine htz.out.mono ?_
      rintro e w' ⟨rfl, rfl⟩
      go_wp2
      simp only [Exit.jump]
      go_ret
      exact ⟨ret_int (by rw [HN.out]; omega), cr⟩

theorem next_any (i : Int) (h : Mv w pv A n ws) (ht : Tab w) : Calls Tryz.prog 48 #[pv, .int .i64 i] w fun e w' => e = .returned (.int .i64 (nx (hs ws) n i)) ∧ Grow w w' := by
  by_cases hi : n ≤ i.toNat
  · exact next_out pv A n ws w i h hi
  · exact next_in pv A n ws w i _ rfl h (by omega) ht
end
end Go.Proofs.YtogfjclmohpjkaaGreatDoor.L3
/- The calls of package bits in the words of the set of places: a map of n places of which S are set; that 'awake' of the laws answers true; the table of TrailingZeros64 out of the row's condition. Conditions: as in the texts before. -/
namespace Go.Proofs.YtogfjclmohpjkaaGreatDoor.L3
open Go.ChangeShapes Go.WideShapes Go.ChangeAt Go.RowKit
set_option linter.unusedVariables false
set_option maxRecDepth 100000

/-- The map in block p (its words in block g) has n places, of which S are set. -/
def Ms (w : World) (p g n : Nat) (S : Nat → Bool) : Prop := ∃ ws, Mp w p g n ws ∧ hs ws = S
theorem Ms.chg {C : Nat → Prop} {w w' : World} {p g n : Nat} {S : Nat → Bool} (h : Ms w p g n S) (k : Chg C w w') (hp : ¬ C p) (hg : ¬ C g) : Ms w' p g n S := by
  obtain ⟨ws, h1, h2⟩ := h
  exact ⟨ws, h1.chg k hp hg, h2⟩
theorem Ms.grow {w w' : World} {p g n : Nat} {S : Nat → Bool} (h : Ms w p g n S) (k : Grow w w') : Ms w' p g n S := h.chg k id id
theorem Ms.most {w : World} {p g n : Nat} {S : Nat → Bool} (h : Ms w p g n S) : n ≤ 4096 := by obtain ⟨ws, h1, h2⟩ := h; exact h1.2.2.most
theorem Ms.tail {w : World} {p g n : Nat} {S : Nat → Bool} (h : Ms w p g n S) (i : Nat) (hi : S i = true) : i < n := by obtain ⟨ws, h1, rfl⟩ := h; exact h1.2.2.tail i hi
theorem Ms.plt {w : World} {p g n : Nat} {S : Nat → Bool} (h : Ms w p g n S) : p < w.heap.size := by obtain ⟨ws, h1, rfl⟩ := h; exact h1.1.lt
theorem Ms.glt {w : World} {p g n : Nat} {S : Nat → Bool} (h : Ms w p g n S) : g < w.heap.size := by obtain ⟨ws, h1, rfl⟩ := h; exact h1.2.1.lt
theorem Ms.at_ {w : World} {p g n : Nat} {S T : Nat → Bool} (h : Ms w p g n S) (e : T = S) : Ms w p g n T := e ▸ h

/-- A place set, or cleared, if it is there. -/
def setI (S : Nat → Bool) (n : Nat) (i : Int) (b : Bool) : Nat → Bool := if exB n i then upd S i.toNat b else S
/-- Is a place there, and set? -/
def hasI (S : Nat → Bool) (n : Nat) (i : Int) : Bool := exB n i && S i.toNat
theorem upd_same {S : Nat → Bool} {i : Nat} {b : Bool} (h : S i = b) : upd S i b = S := by
  funext j
  unfold upd
  split
  · rename_i e; rw [e, h]
  · rfl

section
variable {w : World} {p g n : Nat} {S : Nat → Bool}
theorem ms_len (h : Ms w p g n S) : Calls Tryz.prog 97 #[ptr p] w fun e w' => e = .returned (.int .i64 n) ∧ w = w' := by
  obtain ⟨ws, h1, rfl⟩ := h
  exact len_any _ _ n ws w h1.mv
theorem ms_has (i : Int) (h : Ms w p g n S) : Calls Tryz.prog 69 #[ptr p, .int .i64 i] w fun e w' => e = .returned (.bool (hasI S n i)) ∧ Grow w w' := by
  obtain ⟨ws, h1, rfl⟩ := h
  exact has_any _ _ n ws w i h1.mv
theorem ms_next (i : Int) (h : Ms w p g n S) (ht : Tab w) : Calls Tryz.prog 48 #[ptr p, .int .i64 i] w fun e w' => e = .returned (.int .i64 (nx S n i)) ∧ Grow w w' := by
  obtain ⟨ws, h1, rfl⟩ := h
  exact next_any _ _ n ws w i h1.mv ht
theorem ms_wipe (h : Ms w p g n S) : Calls Tryz.prog 56 #[ptr p] w fun e w' => e = .returned (.tuple #[]) ∧ Ms w' p g n (fun _ => false) ∧ Chg (· = g) w w' := by
  obtain ⟨ws, h1, rfl⟩ := h
  exact wipe_any w p g n ws h1
theorem ms_set (i : Int) (h : Ms w p g n S) : Calls Tryz.prog 36 #[ptr p, .int .i64 i] w fun e w' => e = .returned (.bool (exB n i && !S i.toNat)) ∧ Ms w' p g n (setI S n i true) ∧ Chg (· = g) w w' := by
  obtain ⟨ws, h1, rfl⟩ := h
  unfold setI
  cases hx : exB n i with
  | false => exact (set_no w _ _ n ws i h1.mv hx).mono fun e w' ⟨he, hw⟩ => by subst hw; exact ⟨he, ⟨ws, h1, rfl⟩, Chg.refl _ _⟩
  | true =>
    obtain ⟨k, rfl, hk⟩ := exB_nat hx
    simp only [Int.toNat_natCast, Bool.true_and, if_true]
    cases hh : hs ws k with
    | true =>
      refine (set_had w _ _ n ws k h1.mv hk hh).mono fun e w' ⟨he, hw⟩ => ⟨he, ⟨ws, h1.chg hw id id, (upd_same hh).symm⟩, hw.mono fun _ _ h => h.elim⟩
    | false => exact set_new w p g n ws k h1 hk hh
theorem ms_new (v : Int) (w : World) : Calls Tryz.prog 46 #[.int .i64 v] w fun e w' => e = .returned (ptr (w.heap.size + 1)) ∧ Ms w' (w.heap.size + 1) w.heap.size (clamp v) (fun _ => false) ∧ Grow w w' := new_any w v
end

/-- What has changed in a new block is new. -/
theorem _root_.Go.Proofs.YtogfjclmohpjkaaGreatDoor.Grow.new {w w' w'' : World} {g : Nat} (c : Grow w w') (h : w.heap.size ≤ g) (k : Chg (· = g) w' w'') : Grow w w'' := c.step k fun i hi e => by omega

theorem tab_of_laid {W : World} (h : laidMetH Tryz.prog [("math/bits.deBruijn64tab", Rows.laid_math_bits_deBruijn64tab)] W) : Tab W := by
  rw [MakeChecks.laidMetH_plain _ _ _ (by kernel_rfl)] at h
  have e : (Rows.laid_math_bits_deBruijn64tab : DataW Unit) = Lib.tabData .u8 (Lib.deBruijn64tab.map fun n : Nat => (n : Int)) := rfl
  rw [e] at h
  have hg : Tryz.prog.globalNamed "math/bits.deBruijn64tab" = some 0 := by kernel_rfl
  have hv := Lib.tabIs_of_head hg (t := 165) (by kernel_rfl) Tryz.underlying165 Tryz.underlying5 (by kernel_rfl) (by kernel_rfl) h
  intro j hj
  have hc := World.var?_cell hg hv j
  rw [hc]
  have hl : Lib.deBruijn64tab.length = 64 := rfl
  simp [List.getElem?_eq_getElem (show j < Lib.deBruijn64tab.length by omega), List.getD_eq_getElem?_getD]
end Go.Proofs.YtogfjclmohpjkaaGreatDoor.L3
/- The calls of package bits with their answers given beside them. Conditions: as in the texts before. -/
namespace Go.Proofs.YtogfjclmohpjkaaGreatDoor.L3
open Go.ChangeShapes Go.WideShapes Go.ChangeAt Go.RowKit
set_option linter.unusedVariables false
set_option maxRecDepth 100000

section
variable {w : World} {p g n : Nat} {S T : Nat → Bool} {i a b : Int} {v : Int} {c : Bool}
theorem has_is (h : Ms w p g n S) (hv : hasI S n i = c) : Calls Tryz.prog 69 #[ptr p, .int .i64 i] w fun e w' => e = .returned (.bool c) ∧ Grow w w' := hv ▸ ms_has i h
theorem next_is (h : Ms w p g n S) (ht : Tab w) (hv : nx S n i = v) : Calls Tryz.prog 48 #[ptr p, .int .i64 i] w fun e w' => e = .returned (.int .i64 v) ∧ Grow w w' := hv ▸ ms_next i h ht
theorem set_is (h : Ms w p g n S) (hv : (exB n i && !S i.toNat) = c) (hT : setI S n i true = T) : Calls Tryz.prog 36 #[ptr p, .int .i64 i] w fun e w' => e = .returned (.bool c) ∧ Ms w' p g n T ∧ Chg (· = g) w w' := hv ▸ hT ▸ ms_set i h
end

/-- None is set. -/
abbrev no : Nat → Bool := fun _ => false
theorem cnt_no (n : Nat) : cnt no n = 0 := cnt_none fun _ _ => rfl
theorem nx_no (n : Nat) (i : Int) : nx no n i = -1 := nx_none fun _ _ _ => rfl
theorem exB_in {n k : Nat} (h : k < n) : exB n (k : Int) = true := by simp [exB]; omega
theorem exB_out {n : Nat} {i : Int} (h : i < 0 ∨ n ≤ i) : exB n i = false := by unfold exB; rw [decide_eq_false_iff_not]; omega
theorem setI_in {S : Nat → Bool} {n k : Nat} {b : Bool} (h : k < n) : setI S n (k : Int) b = upd S k b := by simp [setI, exB_in h]
theorem setI_out {S : Nat → Bool} {n : Nat} {i : Int} {b : Bool} (h : exB n i = false) : setI S n i b = S := by simp [setI, h]
theorem upd_at (S : Nat → Bool) (k : Nat) (b : Bool) : upd S k b k = b := by simp [upd]
theorem upd_ne {S : Nat → Bool} {k j : Nat} {b : Bool} (h : j ≠ k) : upd S k b j = S j := by simp [upd, h]
theorem upd_upd (S : Nat → Bool) (k : Nat) (a b : Bool) : upd (upd S k a) k b = upd S k b := by
  funext j
  unfold upd
  split <;> rfl

theorem _root_.Go.Proofs.YtogfjclmohpjkaaGreatDoor.Chg.new {w w' w'' : World} {g : Nat} (c : Chg (fun _ => False) w w') (h : w.heap.size ≤ g) (k : Chg (· = g) w' w'') : Grow w w'' := Grow.new c h k
theorem _root_.Go.Proofs.YtogfjclmohpjkaaGreatDoor.Chg.under {w w' : World} (c : Chg (fun _ => False) w w') : Below w.heap.size w w' := c.below (fun _ _ h => h) (Nat.le_refl _)

/-- What is set behind the first k of a list. -/
def setTo (S : Nat → Bool) (zs : List Int) : Nat → Nat → Bool
  | 0 => S
  | k + 1 => setI (setTo S zs k) 4096 (zs.getD k 0) true
theorem setI_on {S : Nat → Bool} {n : Nat} {i : Int} {j : Nat} (h : S j = true) : setI S n i true j = true := by
  unfold setI
  split
  · unfold upd; split
    · rfl
    · exact h
  · exact h
theorem setTo_on {S : Nat → Bool} {zs : List Int} {j : Nat} (h : S j = true) (k : Nat) : setTo S zs k j = true := by
  induction k with
  | zero => exact h
  | succ k ih => exact setI_on ih
/-- What was in the list is set, where it can be. -/
theorem setTo_has {S : Nat → Bool} {zs : List Int} {i k : Nat} (hi : i < k) (h0 : 0 ≤ zs.getD i 0) : hasI (setTo S zs k) 4096 (zs.getD i 0) = decide (zs.getD i 0 < 4096) := by
  by_cases h : zs.getD i 0 < 4096
  · have hx : exB 4096 (zs.getD i 0) = true := by unfold exB; rw [decide_eq_true_eq]; omega
    have : setTo S zs k (zs.getD i 0).toNat = true := by
      induction k with
      | zero => omega
      | succ k ih =>
        by_cases e : i = k
        · subst e
          show setI (setTo S zs i) 4096 (zs.getD i 0) true _ = true
          unfold setI
          rw [hx, if_pos rfl]
          exact upd_at _ _ _
        · exact setI_on (ih (by omega))
    unfold hasI
    rw [hx, this, decide_eq_true h]
    rfl
  · unfold hasI
    rw [exB_out (.inr (by omega)), decide_eq_false h]
    rfl
theorem setI_cnt (S : Nat → Bool) (n : Nat) (i : Int) : cnt (setI S n i true) n = cnt S n + if (exB n i && !S i.toNat) = true then 1 else 0 := by
  unfold setI
  cases hx : exB n i with
  | false => simp
  | true =>
    obtain ⟨k, rfl, hk⟩ := exB_nat hx
    simp only [if_true, Int.toNat_natCast, Bool.true_and]
    cases hs : S k with
    | true => rw [upd_same hs]; rfl
    | false => rw [cnt_on (S := S) hk hs (upd_at _ _ _) fun j hj => upd_ne hj]; rfl
theorem setTo_cnt (zs : List Int) (k : Nat) : cnt (setTo no zs k) 4096 ≤ k := by
  induction k with
  | zero => exact Nat.le_of_eq (cnt_no 4096)
  | succ k ih =>
    show cnt (setI (setTo no zs k) 4096 _ true) 4096 ≤ _
    rw [setI_cnt]
    split <;> omega
theorem cnt_s (S : Nat → Bool) (n : Nat) : cnt S (n + 1) = cnt S n + (S n).toNat := by
  show cnt S n + (if S n = true then 1 else 0) = _
  cases S n <;> rfl
/-- How many are set of those from a place on, below another. -/
theorem cnt_range (S : Nat → Bool) (A B m : Nat) : cnt (fun i => S i && decide (A ≤ i ∧ i < B)) m = cnt S (min m B) - cnt S (min m A) := by
  induction m with
  | zero => simp [cnt]
  | succ m ih =>
    rw [cnt_s, ih]
    by_cases h1 : m < A
    · rw [decide_eq_false (show ¬ (A ≤ m ∧ m < B) by omega), Bool.and_false]
      have e1 : cnt S (min (m + 1) B) ≤ cnt S (min (m + 1) A) := cnt_mono S (by omega)
      have e2 : cnt S (min m B) ≤ cnt S (min m A) := cnt_mono S (by omega)
      rw [Bool.toNat_false]
      omega
    · rw [show min (m + 1) A = A by omega, show min m A = A by omega]
      by_cases h2 : m < B
      · rw [show min (m + 1) B = m + 1 by omega, show min m B = m by omega, decide_eq_true (show A ≤ m ∧ m < B by omega), Bool.and_true, cnt_s]
        have := cnt_mono S (show A ≤ m by omega)
        omega
      · rw [show min (m + 1) B = B by omega, show min m B = B by omega, decide_eq_false (show ¬ (A ≤ m ∧ m < B) by omega), Bool.and_false, Bool.toNat_false]
        rfl
theorem btw_range (S : Nat → Bool) (n : Nat) (a b : Int) : btw S n a b = cnt (fun i => S i && decide (a ≤ (i : Int) ∧ (i : Int) < b)) n := by
  have e : cnt (fun i => S i && decide (a ≤ (i : Int) ∧ (i : Int) < b)) n = cnt (fun i => S i && decide (cl n a ≤ i ∧ i < cl n b)) n := cnt_congr fun i hi => by
    show (S i && _) = (S i && _)
    rw [show (decide (a ≤ (i : Int) ∧ (i : Int) < b)) = decide (cl n a ≤ i ∧ i < cl n b) from decide_eq_decide.2 (by unfold cl; omega)]
  unfold btw
  rw [e, cnt_range, show min n (cl n b) = cl n b by unfold cl; omega, show min n (cl n a) = cl n a by unfold cl; omega]
/-- A list that came in is there still. -/
theorem _root_.Go.Proofs.YtogfjclmohpjkaaGreatDoor.IsRow.grow {k : IntKind} {w w' : World} {a : Option Addr} {len cap : Nat} {zs : List Int} (h : IsRow k w a len cap zs) (c : Grow w w') : IsRow k w' a len cap zs := h.chg c fun _ _ => id
end Go.Proofs.YtogfjclmohpjkaaGreatDoor.L3

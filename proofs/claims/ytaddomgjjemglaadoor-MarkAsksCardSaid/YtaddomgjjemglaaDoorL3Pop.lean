/- Counting: how many of the first n are set; and the arithmetic by which the ones of a word of 64 bits are counted in parallel. Conditions: none; nothing here speaks of the program. -/
import Derived.Laws.BitsAllLaws
import Derived.Test.YtaddomgjjemglaaDoorKit
import Derived.Lib.TrailingZeros
namespace Go.Proofs.YtaddomgjjemglaaDoor.L3

/-- How many i < n have S i. -/
def cnt (S : Nat → Bool) : Nat → Nat
  | 0 => 0
  | n + 1 => cnt S n + if S n then 1 else 0
section
variable {S T : Nat → Bool}
theorem cnt_le (S : Nat → Bool) (n : Nat) : cnt S n ≤ n := by
  induction n with
  | zero => simp [cnt]
  | succ n ih => simp only [cnt]; split <;> omega
theorem cnt_mono (S : Nat → Bool) {a b : Nat} (h : a ≤ b) : cnt S a ≤ cnt S b := by
  induction b with
  | zero => obtain rfl : a = 0 := by omega
            exact Nat.le_refl _
  | succ b ih =>
    rcases Nat.lt_or_ge a (b + 1) with h1 | h1
    · have := ih (by omega); simp only [cnt]; omega
    · obtain rfl : a = b + 1 := by omega
      exact Nat.le_refl _
theorem cnt_congr {n : Nat} (h : ∀ i, i < n → S i = T i) : cnt S n = cnt T n := by
  induction n with
  | zero => rfl
  | succ n ih => simp only [cnt]; rw [ih fun i hi => h i (by omega), h n (by omega)]
theorem cnt_add (S : Nat → Bool) (a b : Nat) : cnt S (a + b) = cnt S a + cnt (fun i => S (a + i)) b := by
  induction b with
  | zero => simp [cnt]
  | succ b ih => rw [← Nat.add_assoc]; simp only [cnt]; rw [ih]; omega
theorem cnt_none {n : Nat} (h : ∀ i, i < n → S i = false) : cnt S n = 0 := by
  induction n with
  | zero => rfl
  | succ n ih => simp only [cnt]; rw [ih fun i hi => h i (by omega), h n (by omega)]; rfl
theorem cnt_upto {a n : Nat} (ha : a ≤ n) (h : ∀ i, a ≤ i → i < n → S i = false) : cnt S n = cnt S a := by
  obtain ⟨b, rfl⟩ : ∃ b, n = a + b := ⟨n - a, by omega⟩
  rw [cnt_add, cnt_none fun i hi => h (a + i) (by omega) (by omega)]
  rfl
/-- One more is set. -/
theorem cnt_on {i n : Nat} (hi : i < n) (h0 : S i = false) (h1 : T i = true) (h : ∀ j, j ≠ i → T j = S j) : cnt T n = cnt S n + 1 := by
  induction n with
  | zero => omega
  | succ n ih =>
    simp only [cnt]
    rcases Nat.lt_or_ge i n with h2 | h2
    · rw [ih h2, h n (by omega)]; omega
    · obtain rfl : i = n := by omega
      rw [h0, h1, cnt_congr (S := T) (T := S) fun j hj => h j (by omega)]; rfl
end

theorem and_cut (a M e f : Nat) (he : e < 256) (hf : f < 256) : (256 * a + e) &&& (256 * M + f) = 256 * (a &&& M) + (e &&& f) := by
  have h1 : ((256 * a + e) &&& (256 * M + f)) / 2 ^ 8 = a &&& M := by
    rw [Nat.and_div_two_pow]
    congr 1 <;> omega
  have h2 : ((256 * a + e) &&& (256 * M + f)) % 2 ^ 8 = e &&& f := by
    rw [Nat.and_mod_two_pow]
    congr 1 <;> omega
  have := Nat.div_add_mod ((256 * a + e) &&& (256 * M + f)) (2 ^ 8)
  rw [h1, h2] at this
  exact this.symm

/-- The masks of n bytes. -/
def msk (b : Nat) : Nat → Nat
  | 0 => 0
  | n + 1 => 256 * msk b n + b
def st1 (M x : Nat) : Nat := ((x / 2) &&& M) + (x &&& M)
def st2 (M x : Nat) : Nat := ((x / 4) &&& M) + (x &&& M)
def st3 (M x : Nat) : Nat := (x / 16 + x) &&& M

theorem st1_byte : ∀ d, d < 256 → ((d / 2) &&& 85) + (d &&& 85) < 256 ∧ (128 + d / 2) &&& 85 = (d / 2) &&& 85 := by decide +kernel
theorem st2_byte : ∀ d, d < 256 → ((d / 4) &&& 51) + (d &&& 51) < 256 ∧ ((64 + d / 4) &&& 51 = (d / 4) &&& 51 ∧ (128 + d / 4) &&& 51 = (d / 4) &&& 51 ∧ (192 + d / 4) &&& 51 = (d / 4) &&& 51) := by decide +kernel
theorem st3_byte : ∀ d, d < 256 → ∀ r, r < 5 → d / 16 < 5 → d % 16 < 5 → (16 * r + d / 16 + d) &&& 15 = (d / 16 + d) &&& 15 := by decide +kernel
theorem pop_byte : ∀ d, d < 256 → (st2 51 (st1 85 d)) / 16 < 5 ∧ (st2 51 (st1 85 d)) % 16 < 5 ∧ st3 15 (st2 51 (st1 85 d)) = cnt d.testBit 8 ∧ st1 85 d < 256 ∧ st2 51 (st1 85 d) < 256 := by decide +kernel

theorem st1_cut (q M d : Nat) (hd : d < 256) : st1 (256 * M + 85) (256 * q + d) = 256 * st1 M q + st1 85 d := by
  have e1 : (256 * q + d) / 2 = 256 * (q / 2) + (128 * (q % 2) + d / 2) := by omega
  unfold st1
  rw [e1, and_cut _ _ _ _ (by omega) (by omega), and_cut _ _ _ _ hd (by omega)]
  have : (128 * (q % 2) + d / 2) &&& 85 = (d / 2) &&& 85 := by
    rcases (by omega : q % 2 = 0 ∨ q % 2 = 1) with h | h <;> rw [h]
    · simp
    · exact (st1_byte d hd).2
  rw [this]
  omega
theorem st2_cut (q M d : Nat) (hd : d < 256) : st2 (256 * M + 51) (256 * q + d) = 256 * st2 M q + st2 51 d := by
  have e1 : (256 * q + d) / 4 = 256 * (q / 4) + (64 * (q % 4) + d / 4) := by omega
  unfold st2
  rw [e1, and_cut _ _ _ _ (by omega) (by omega), and_cut _ _ _ _ hd (by omega)]
  have : (64 * (q % 4) + d / 4) &&& 51 = (d / 4) &&& 51 := by
    rcases (by omega : q % 4 = 0 ∨ q % 4 = 1 ∨ q % 4 = 2 ∨ q % 4 = 3) with h | h | h | h <;> rw [h]
    · simp
    · exact (st2_byte d hd).2.1
    · exact (st2_byte d hd).2.2.1
    · exact (st2_byte d hd).2.2.2
  rw [this]
  omega
theorem st3_cut (q M d : Nat) (hd : d < 256) (hq : q % 16 < 5) (h1 : d / 16 < 5) (h2 : d % 16 < 5) : st3 (256 * M + 15) (256 * q + d) = 256 * st3 M q + st3 15 d := by
  have e1 : (256 * q + d) / 16 + (256 * q + d) = 256 * (q / 16 + q) + (16 * (q % 16) + d / 16 + d) := by omega
  unfold st3
  rw [e1, and_cut _ _ _ _ (by omega) (by omega), st3_byte d hd _ hq h1 h2]

/-- The bytes' counts, a byte each. -/
def byc (x : Nat) : Nat → Nat
  | 0 => 0
  | n + 1 => 256 * byc (x / 256) n + cnt (x % 256).testBit 8

theorem swar (n : Nat) : ∀ x, x < 256 ^ n → st3 (msk 15 n) (st2 (msk 51 n) (st1 (msk 85 n) x)) = byc x n ∧ st2 (msk 51 n) (st1 (msk 85 n) x) % 16 < 5 := by
  induction n with
  | zero =>
    intro x hx
    simp only [Nat.pow_zero] at hx
    obtain rfl : x = 0 := by omega
    decide
  | succ n ih =>
    intro x hx
    have hq : x / 256 < 256 ^ n := by
      rw [Nat.pow_succ] at hx
      exact Nat.div_lt_of_lt_mul (by omega)
    obtain ⟨i1, i2⟩ := ih _ hq
    have hd : x % 256 < 256 := Nat.mod_lt _ (by decide)
    obtain ⟨p1, p2, p3, p4, p5⟩ := pop_byte _ hd
    have e : x = 256 * (x / 256) + x % 256 := by omega
    have a1 : st1 (msk 85 (n + 1)) x = 256 * st1 (msk 85 n) (x / 256) + st1 85 (x % 256) := by
      conv => lhs; rw [e]
      exact st1_cut _ _ _ hd
    have a2 : st2 (msk 51 (n + 1)) (st1 (msk 85 (n + 1)) x) = 256 * st2 (msk 51 n) (st1 (msk 85 n) (x / 256)) + st2 51 (st1 85 (x % 256)) := by
      rw [a1]; exact st2_cut _ _ _ p4
    rw [a2]
    refine ⟨?_, by omega⟩
    have := st3_cut (st2 (msk 51 n) (st1 (msk 85 n) (x / 256))) (msk 15 n) (st2 51 (st1 85 (x % 256))) p5 i2 p1 p2
    rw [show msk 15 (n + 1) = 256 * msk 15 n + 15 from rfl, this, i1, p3]
    rfl

theorem byte_bits (x n j : Nat) (hj : j < 8) : (x / 256 ^ n % 256).testBit j = x.testBit (8 * n + j) := by
  have e : (256 : Nat) ^ n = 2 ^ (8 * n) := by rw [Nat.pow_mul]
  rw [e, show (256 : Nat) = 2 ^ 8 from rfl, Nat.testBit_mod_two_pow, Nat.testBit_div_two_pow]
  simp [hj]
  congr 1
  omega
theorem byte_cnt (x n : Nat) : cnt (fun i => x.testBit (8 * n + i)) 8 = cnt (x / 256 ^ n % 256).testBit 8 :=
  cnt_congr fun i hi => (byte_bits x n i hi).symm

/-- What OnesCount64 reckons: the ones of a word. -/
theorem ones_sum (x : Nat) (y3 y4 y5 y6 : Nat) (h3 : y3 = byc x 8) (h4 : y4 = y3 + y3 / 256) (h5 : y5 = y4 + y4 / 65536) (h6 : y6 = y5 + y5 / 4294967296) :
    y6 % 128 = cnt x.testBit 64 ∧ y3 < 1157442765409226769 ∧ y4 < 2314885530818453537 ∧ y5 < 4629771061636907074 ∧ y6 < 9223372036854775807 := by
  have hc : cnt x.testBit 64 = cnt (x / 256 ^ 0 % 256).testBit 8 + cnt (x / 256 ^ 1 % 256).testBit 8 + cnt (x / 256 ^ 2 % 256).testBit 8 + cnt (x / 256 ^ 3 % 256).testBit 8 + cnt (x / 256 ^ 4 % 256).testBit 8 + cnt (x / 256 ^ 5 % 256).testBit 8 + cnt (x / 256 ^ 6 % 256).testBit 8 + cnt (x / 256 ^ 7 % 256).testBit 8 := by
    simp only [← byte_cnt]
    rw [show (64 : Nat) = 8 * 7 + 8 from rfl, cnt_add, show 8 * 7 = 8 * 6 + 8 from rfl, cnt_add, show 8 * 6 = 8 * 5 + 8 from rfl, cnt_add, show 8 * 5 = 8 * 4 + 8 from rfl, cnt_add, show 8 * 4 = 8 * 3 + 8 from rfl, cnt_add, show 8 * 3 = 8 * 2 + 8 from rfl, cnt_add, show 8 * 2 = 8 * 1 + 8 from rfl, cnt_add, show 8 * 1 = 8 * 0 + 8 from rfl, cnt_add]
    simp [cnt]
  have hb : byc x 8 = cnt (x / 256 ^ 0 % 256).testBit 8 + 256 * (cnt (x / 256 ^ 1 % 256).testBit 8 + 256 * (cnt (x / 256 ^ 2 % 256).testBit 8 + 256 * (cnt (x / 256 ^ 3 % 256).testBit 8 + 256 * (cnt (x / 256 ^ 4 % 256).testBit 8 + 256 * (cnt (x / 256 ^ 5 % 256).testBit 8 + 256 * (cnt (x / 256 ^ 6 % 256).testBit 8 + 256 * (cnt (x / 256 ^ 7 % 256).testBit 8 + 256 * 0))))))) := by
    have g : ∀ a : Nat, x / 256 ^ a / 256 = x / 256 ^ (a + 1) := fun a => by rw [Nat.pow_succ, Nat.div_div_eq_div_mul]
    have g0 : x = x / 256 ^ 0 := by simp
    have h : ∀ a n, byc (x / 256 ^ a) (n + 1) = cnt (x / 256 ^ a % 256).testBit 8 + 256 * byc (x / 256 ^ (a + 1)) n := fun a n => by
      rw [show byc (x / 256 ^ a) (n + 1) = 256 * byc (x / 256 ^ a / 256) n + cnt (x / 256 ^ a % 256).testBit 8 from rfl, g a]
      omega
    conv => lhs; rw [g0]
    rw [h 0 7, h (0 + 1) 6, h (0 + 1 + 1) 5, h (0 + 1 + 1 + 1) 4, h (0 + 1 + 1 + 1 + 1) 3, h (0 + 1 + 1 + 1 + 1 + 1) 2, h (0 + 1 + 1 + 1 + 1 + 1 + 1) 1, h (0 + 1 + 1 + 1 + 1 + 1 + 1 + 1) 0]
    rfl
  rw [hc]
  rw [hb] at h3
  clear hb hc
  generalize e0 : cnt (x / 256 ^ 0 % 256).testBit 8 = c0 at *
  generalize e1 : cnt (x / 256 ^ 1 % 256).testBit 8 = c1 at *
  generalize e2 : cnt (x / 256 ^ 2 % 256).testBit 8 = c2 at *
  generalize e3 : cnt (x / 256 ^ 3 % 256).testBit 8 = c3 at *
  generalize e4 : cnt (x / 256 ^ 4 % 256).testBit 8 = c4 at *
  generalize e5 : cnt (x / 256 ^ 5 % 256).testBit 8 = c5 at *
  generalize e6 : cnt (x / 256 ^ 6 % 256).testBit 8 = c6 at *
  generalize e7 : cnt (x / 256 ^ 7 % 256).testBit 8 = c7 at *
  have b0 : c0 ≤ 8 := e0 ▸ cnt_le _ _
  have b1 : c1 ≤ 8 := e1 ▸ cnt_le _ _
  have b2 : c2 ≤ 8 := e2 ▸ cnt_le _ _
  have b3 : c3 ≤ 8 := e3 ▸ cnt_le _ _
  have b4 : c4 ≤ 8 := e4 ▸ cnt_le _ _
  have b5 : c5 ≤ 8 := e5 ▸ cnt_le _ _
  have b6 : c6 ≤ 8 := e6 ▸ cnt_le _ _
  have b7 : c7 ≤ 8 := e7 ▸ cnt_le _ _
  clear e0 e1 e2 e3 e4 e5 e6 e7
  obtain ⟨m1, rfl⟩ : ∃ m, m = c1 + 256 * (c2 + 256 * (c3 + 256 * (c4 + 256 * (c5 + 256 * (c6 + 256 * (c7 + 256 * 0)))))) := ⟨_, rfl⟩
  have d1 : y3 / 256 = c1 + 256 * (c2 + 256 * (c3 + 256 * (c4 + 256 * (c5 + 256 * (c6 + 256 * c7))))) := by omega
  have f4 : y4 = (c0 + c1) + 256 * ((c1 + c2) + 256 * ((c2 + c3) + 256 * ((c3 + c4) + 256 * ((c4 + c5) + 256 * ((c5 + c6) + 256 * ((c6 + c7) + 256 * c7)))))) := by omega
  have d2 : y4 / 65536 = (c2 + c3) + 256 * ((c3 + c4) + 256 * ((c4 + c5) + 256 * ((c5 + c6) + 256 * ((c6 + c7) + 256 * c7)))) := by omega
  have f5 : y5 = (c0 + c1 + c2 + c3) + 256 * ((c1 + c2 + c3 + c4) + 256 * ((c2 + c3 + c4 + c5) + 256 * ((c3 + c4 + c5 + c6) + 256 * ((c4 + c5 + c6 + c7) + 256 * ((c5 + c6 + c7) + 256 * ((c6 + c7) + 256 * c7)))))) := by omega
  have d3 : y5 / 4294967296 = (c4 + c5 + c6 + c7) + 256 * ((c5 + c6 + c7) + 256 * ((c6 + c7) + 256 * c7)) := by omega
  clear d1 d2
  refine ⟨?_, by omega, by omega, by omega, by omega⟩
  rw [h6, d3, f5]
  clear h6 d3 f5 f4 h5 h4 h3
  omega
end Go.Proofs.YtaddomgjjemglaaDoor.L3

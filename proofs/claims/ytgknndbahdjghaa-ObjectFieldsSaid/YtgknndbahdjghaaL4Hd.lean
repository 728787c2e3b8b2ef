/- Words of heads: the numbers, and how bits are joined and read. Conditions: none; nothing here speaks of the program. -/
import Derived.Test.YtgknndbahdjghaaGrow
import Derived.Laws.BitsLemmas
import Derived.Laws.BitsAllLaws
namespace Go.Proofs.Ytgknndbahdjghaa.L4
open Go.ChangeShapes Go.WideShapes Go.ChangeAt Go.RowKit
set_option linter.unusedVariables false

/-- A head as a value; can it be; its word. -/
abbrev hdV (C A F : Int) (m f d : Bool) : Value := .agg #[.int .i64 C, .int .i64 A, .int .i64 F, .bool m, .bool f, .bool d]
def inB (n most : Int) : Bool := decide (0 ≤ n ∧ n ≤ most)
def riB (C A F : Int) (f d : Bool) : Bool := inB C 63 && (inB A 7 && (inB F 4095 && !(f && d)))
def b2i (k : Int) (b : Bool) : Int := if b then k else 0
def wd (C A F : Int) (m f d : Bool) : Int := C + 64 * A + 8192 * F + b2i 1024 m + b2i 2048 f + b2i 4096 d
/-- What Word answers. -/
def wdV (C A F : Int) (m f d : Bool) : Int := if riB C A F f d then wd C A F m f d else 0
def wdX (C A F : Int) (f d : Bool) : Int := if riB C A F f d then 0 else 1
/-- What Of answers: the bits of a word; can the head of them be. -/
def bitB (n k : Int) : Bool := decide (n / k % 2 = 1)
def ofB (n : Int) : Bool := riB (n % 64) (n / 64 % 16) (n / 8192) (bitB n 2048) (bitB n 4096)
def ofC (n : Int) : Int := if ofB n then n % 64 else 0
def ofA (n : Int) : Int := if ofB n then n / 64 % 16 else 0
def ofF (n : Int) : Int := if ofB n then n / 8192 else 0
def ofM (n : Int) : Bool := ofB n && bitB n 1024
def ofN (n : Int) : Bool := ofB n && bitB n 2048
def ofD (n : Int) : Bool := ofB n && bitB n 4096
abbrev ofV (n : Int) : Value := hdV (ofC n) (ofA n) (ofF n) (ofM n) (ofN n) (ofD n)
def ofX (n : Int) : Int := if ofB n then 0 else 12

theorem of_yes {n : Int} (h : ofB n = true) : ofX n = 0 ∧ ofV n = hdV (n % 64) (n / 64 % 16) (n / 8192) (bitB n 1024) (bitB n 2048) (bitB n 4096) := by simp [ofX, ofC, ofA, ofF, ofM, ofN, ofD, h]
theorem of_no {n : Int} (h : ofB n = false) : ofX n = 12 ∧ ofV n = hdV 0 0 0 false false false := by simp [ofX, ofC, ofA, ofF, ofM, ofN, ofD, h]
theorem in_true {n m : Int} : inB n m = true ↔ 0 ≤ n ∧ n ≤ m := by simp [inB]
theorem ri_true {C A F : Int} {f d : Bool} (h : riB C A F f d = true) : 0 ≤ C ∧ C ≤ 63 ∧ 0 ≤ A ∧ A ≤ 7 ∧ 0 ≤ F ∧ F ≤ 4095 ∧ (f && d) = false := by
  simp only [riB, Bool.and_eq_true, in_true, Bool.not_eq_true'] at h
  obtain ⟨⟨h1, h2⟩, ⟨h3, h4⟩, ⟨h5, h6⟩, h7⟩ := h
  exact ⟨h1, h2, h3, h4, h5, h6, h7⟩
theorem ri_mk {C A F : Int} {f d : Bool} (h1 : 0 ≤ C) (h2 : C ≤ 63) (h3 : 0 ≤ A) (h4 : A ≤ 7) (h5 : 0 ≤ F) (h6 : F ≤ 4095) (h7 : (f && d) = false) : riB C A F f d = true := by
  simp only [riB, Bool.and_eq_true, in_true, Bool.not_eq_true']
  exact ⟨⟨h1, h2⟩, ⟨h3, h4⟩, ⟨h5, h6⟩, h7⟩
theorem ret_any {a b : Value} (h : a = b) : Ending.returned a = .returned b := by rw [h]
theorem b2i_bd (k : Int) (h : 0 ≤ k) (b : Bool) : 0 ≤ b2i k b ∧ b2i k b ≤ k := by cases b <;> simp [b2i] <;> omega

/-- The world behind six stores into a block. -/
abbrev set6 (w : World) (g : Nat) (a b c d e f : Value) : World := (((((w.setCell ⟨g, 0, none⟩ a).setCell ⟨g, 1, none⟩ b).setCell ⟨g, 2, none⟩ c).setCell ⟨g, 3, none⟩ d).setCell ⟨g, 4, none⟩ e).setCell ⟨g, 5, none⟩ f
section
variable {w w' : World} {g : Nat} {t : TypeId} {a b c d e f a' b' c' d' e' f' : Value}
theorem _root_.Go.Proofs.Ytgknndbahdjghaa.Blk.cell6 (h : Blk w g t [a, b, c, d, e, f]) : w.cell? ⟨g, 0, none⟩ = some a ∧ w.cell? ⟨g, 1, none⟩ = some b ∧ w.cell? ⟨g, 2, none⟩ = some c ∧ w.cell? ⟨g, 3, none⟩ = some d ∧ w.cell? ⟨g, 4, none⟩ = some e ∧ w.cell? ⟨g, 5, none⟩ = some f :=
  ⟨h.cell 0, h.cell 1, h.cell 2, h.cell 3, h.cell 4, h.cell 5⟩
theorem _root_.Go.Proofs.Ytgknndbahdjghaa.Blk.put6 (h : Blk w g t [a', b', c', d', e', f']) (a b c d e f : Value) : Blk (set6 w g a b c d e f) g t [a, b, c, d, e, f] :=
  (((((h.set_ 0 a).set_ 1 b).set_ 2 c).set_ 3 d).set_ 4 e).set_ 5 f
theorem _root_.Go.Proofs.Ytgknndbahdjghaa.Blk.far6 {p : Nat} {cs : List Value} (h : Blk w g t cs) (hp : ¬ g = p) (a b c d e f : Value) : Blk (set6 w p a b c d e f) g t cs :=
  (((((h.far (p := ⟨p, 0, none⟩) hp a).far (p := ⟨p, 1, none⟩) hp b).far (p := ⟨p, 2, none⟩) hp c).far (p := ⟨p, 3, none⟩) hp d).far (p := ⟨p, 4, none⟩) hp e).far (p := ⟨p, 5, none⟩) hp f
theorem _root_.Go.Proofs.Ytgknndbahdjghaa.Fresh.put6 (h : Fresh w g) (k : Grow w w') (a b c d e f : Value) : Grow w (set6 w' g a b c d e f) :=
  h.put (h.put (h.put (h.put (h.put (h.put k 0 a) 1 b) 2 c) 3 d) 4 e) 5 f
theorem _root_.Go.Proofs.Ytgknndbahdjghaa.Blk.frozen6 {cs : List Value} (h : Blk w g t cs) : w.frozen? ⟨g, 0, none⟩ = false ∧ w.frozen? ⟨g, 1, none⟩ = false ∧ w.frozen? ⟨g, 2, none⟩ = false ∧ w.frozen? ⟨g, 3, none⟩ = false ∧ w.frozen? ⟨g, 4, none⟩ = false ∧ w.frozen? ⟨g, 5, none⟩ = false :=
  ⟨h.frozen 0, h.frozen 1, h.frozen 2, h.frozen 3, h.frozen 4, h.frozen 5⟩
end

theorem i64_and63 (n : Int) : bits .and .i64 n 63 = n % 64 := by
  have hM : (BitVec.ofInt 64 63).toNat = 2 ^ 6 - 1 := by decide
  have key : (BitVec.ofInt 64 n &&& BitVec.ofInt 64 63).toNat = (n % ((2 ^ 64 : Nat) : Int)).toNat % 2 ^ 6 := by
    rw [BitVec.toNat_and, BitVec.toNat_ofInt, hM, Nat.and_two_pow_sub_one_eq_mod]
  show IntKind.i64.wrap ((BitVec.ofInt 64 n &&& BitVec.ofInt 64 63).toNat : Nat) = n % 64
  rw [key, IntKind.wrap_i64]
  omega
theorem i64_and15 (n : Int) : bits .and .i64 n 15 = n % 16 := by
  have hM : (BitVec.ofInt 64 15).toNat = 2 ^ 4 - 1 := by decide
  have key : (BitVec.ofInt 64 n &&& BitVec.ofInt 64 15).toNat = (n % ((2 ^ 64 : Nat) : Int)).toNat % 2 ^ 4 := by
    rw [BitVec.toNat_and, BitVec.toNat_ofInt, hM, Nat.and_two_pow_sub_one_eq_mod]
  show IntKind.i64.wrap ((BitVec.ofInt 64 n &&& BitVec.ofInt 64 15).toNat : Nat) = n % 16
  rw [key, IntKind.wrap_i64]
  omega
theorem i64_and1 (n : Int) : bits .and .i64 n 1 = n % 2 := by
  have hM : (BitVec.ofInt 64 1).toNat = 2 ^ 1 - 1 := by decide
  have key : (BitVec.ofInt 64 n &&& BitVec.ofInt 64 1).toNat = (n % ((2 ^ 64 : Nat) : Int)).toNat % 2 ^ 1 := by
    rw [BitVec.toNat_and, BitVec.toNat_ofInt, hM, Nat.and_two_pow_sub_one_eq_mod]
  show IntKind.i64.wrap ((BitVec.ofInt 64 n &&& BitVec.ofInt 64 1).toNat : Nat) = n % 2
  rw [key, IntKind.wrap_i64]
  omega
theorem wraps_i64 (n : Int) (h₀ : 0 ≤ n) (h₁ : n < 2 ^ 40) : IntKind.i64.wrap n = n := by rw [IntKind.wrap_i64]; omega
theorem nat_or_bit (x i : Nat) (h : x / 2 ^ i % 2 = 0) : x ||| 2 ^ i = x + 2 ^ i := by
  have hl : x % 2 ^ i < 2 ^ i := Nat.mod_lt _ (Nat.two_pow_pos i)
  have e : x / 2 ^ i * 2 ^ i + x % 2 ^ i = x := by rw [Nat.mul_comm]; exact Nat.div_add_mod x _
  have hm : x / 2 ^ i * 2 ^ i % 2 ^ i = 0 := Nat.mul_mod_left _ _
  have j1 := nat_join i _ _ hm hl
  have hh : x / 2 ^ i = 2 * (x / 2 ^ i / 2) := by omega
  have j2 : x / 2 ^ i * 2 ^ i ||| 2 ^ i = x / 2 ^ i * 2 ^ i + 2 ^ i := by
    refine nat_join (i + 1) _ _ ?_ ?_
    · rw [hh, Nat.pow_succ, Nat.mul_comm 2 (x / 2 ^ i / 2), Nat.mul_assoc, Nat.mul_comm 2 (2 ^ i)]
      exact Nat.mul_mod_left _ _
    · rw [Nat.pow_succ]; have := Nat.two_pow_pos i; omega
  have hm2 : (x / 2 ^ i * 2 ^ i + 2 ^ i) % 2 ^ i = 0 := by rw [Nat.add_mod_right]; exact hm
  calc x ||| 2 ^ i = (x / 2 ^ i * 2 ^ i ||| x % 2 ^ i) ||| 2 ^ i := by rw [j1, e]
    _ = (x / 2 ^ i * 2 ^ i ||| 2 ^ i) ||| x % 2 ^ i := by rw [Nat.or_assoc, Nat.or_comm (x % 2 ^ i), ← Nat.or_assoc]
    _ = (x / 2 ^ i * 2 ^ i + 2 ^ i) + x % 2 ^ i := by rw [j2, nat_join i _ _ hm2 hl]
    _ = x + 2 ^ i := by omega
theorem i64_or_bit (x : Int) (i : Nat) (hi : i ≤ 20) (h0 : 0 ≤ x) (h1 : x < 2 ^ 40) (h : x / 2 ^ i % 2 = 0) : bits .or .i64 x (2 ^ i) = x + 2 ^ i := by
  obtain ⟨a, rfl⟩ := Int.eq_ofNat_of_zero_le h0
  have ha : a < 2 ^ 40 := by exact_mod_cast h1
  have hb : 2 ^ i < 2 ^ 40 := Nat.pow_lt_pow_right (by decide) (by omega)
  have hd : a / 2 ^ i % 2 = 0 := by exact_mod_cast h
  have e : ((2 : Int) ^ i) = ((2 ^ i : Nat) : Int) := by simp
  rw [e, (bits_nat .i64 40 (by decide) wraps_i64 a (2 ^ i) ha hb).2, nat_or_bit a i hd]
  simp
theorem i64_or_low (x y : Int) (i : Nat) (hx0 : 0 ≤ x) (hx : x < 2 ^ i) (hi : i ≤ 20) (hy0 : 0 ≤ y) (hy1 : y < 2 ^ 40) (hy : y % 2 ^ i = 0) : bits .or .i64 x y = x + y := by
  have hc : bits .or .i64 x y = bits .or .i64 y x := by simp only [bits, BitVec.or_comm]
  have hx1 : x < 2 ^ 40 := Int.lt_trans hx (by have : (2 : Nat) ^ i < 2 ^ 40 := Nat.pow_lt_pow_right (by decide) (by omega)
                                               exact_mod_cast this)
  rw [hc, bits_join .i64 40 (by decide) wraps_i64 i y x hy0 hy hy1 hx0 hx hx1]
  omega
end Go.Proofs.Ytgknndbahdjghaa.L4

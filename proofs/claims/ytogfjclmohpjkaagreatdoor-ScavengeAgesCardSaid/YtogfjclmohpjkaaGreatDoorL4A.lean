/- Words of heads: the numbers, and how bits are joined and read. Conditions: none; nothing here speaks of the program. -/
import Derived.Test.YtogfjclmohpjkaaGreatDoorGrow
import Derived.Laws.BitsLemmas
import Derived.Laws.BitsAllLaws
import Derived.Handy
import Derived.Deep.RegionHeld3
import Derived.StillTailTactics
import Derived.Test.YtogfjclmohpjkaaGreatDoorOpen
namespace Go.Proofs.YtogfjclmohpjkaaGreatDoor.L4
open Go.ChangeShapes Go.WideShapes Go.ChangeAt Go.RowKit
set_option linter.unusedVariables false
set_option maxRecDepth 100000

/-- A head as a value; can it be; its word. -/
abbrev hdV (C A F : Int) (m f d : Bool) : Value := .agg #[.int .i64 C, .int .i64 A, .int .i64 F, .bool m, .bool f, .bool d]
def inB (n most : Int) : Bool := decide (0 ≤ n ∧ n ≤ most)
def riB (C A F : Int) (f d : Bool) : Bool := inB C 63 && (inB A 7 && (inB F 4095 && !(f && d)))
def b2i (k : Int) (b : Bool) : Int := if b then k else 0
def wd (C A F : Int) (m f d : Bool) : Int := C + 64 * A + 8192 * F + b2i 1024 m + b2i 2048 f + b2i 4096 d
/-- What Word answers. -/
def wdV (C A F : Int) (m f d : Bool) : Int := if riB C A F f d then wd C A F m f d else 0
def wdX (C A F : Int) (f d : Bool) : Int := if riB C A F f d then 0 else 1
/-- What Of answers: the bits of a word; can the head of them be. -/
def bitB (n k : Int) : Bool := decide (n / k % 2 = 1)
def ofB (n : Int) : Bool := riB (n % 64) (n / 64 % 16) (n / 8192) (bitB n 2048) (bitB n 4096)
def ofC (n : Int) : Int := if ofB n then n % 64 else 0
def ofA (n : Int) : Int := if ofB n then n / 64 % 16 else 0
def ofF (n : Int) : Int := if ofB n then n / 8192 else 0
def ofM (n : Int) : Bool := ofB n && bitB n 1024
def ofN (n : Int) : Bool := ofB n && bitB n 2048
def ofD (n : Int) : Bool := ofB n && bitB n 4096
abbrev ofV (n : Int) : Value := hdV (ofC n) (ofA n) (ofF n) (ofM n) (ofN n) (ofD n)
def ofX (n : Int) : Int := if ofB n then 0 else 12

theorem of_yes {n : Int} (h : ofB n = true) : ofX n = 0 ∧ ofV n = hdV (n % 64) (n / 64 % 16) (n / 8192) (bitB n 1024) (bitB n 2048) (bitB n 4096) := by simp [ofX, ofC, ofA, ofF, ofM, ofN, ofD, h]
theorem of_no {n : Int} (h : ofB n = false) : ofX n = 12 ∧ ofV n = hdV 0 0 0 false false false := by simp [ofX, ofC, ofA, ofF, ofM, ofN, ofD, h]
theorem in_true {n m : Int} : inB n m = true ↔ 0 ≤ n ∧ n ≤ m := by simp [inB]
theorem ri_true {C A F : Int} {f d : Bool} (h : riB C A F f d = true) : 0 ≤ C ∧ C ≤ 63 ∧ 0 ≤ A ∧ A ≤ 7 ∧ 0 ≤ F ∧ F ≤ 4095 ∧ (f && d) = false := by
  simp only [riB, Bool.and_eq_true, in_true, Bool.not_eq_true'] at h
  obtain ⟨⟨h1, h2⟩, ⟨h3, h4⟩, ⟨h5, h6⟩, h7⟩ := h
  exact ⟨h1, h2, h3, h4, h5, h6, h7⟩
theorem ri_mk {C A F : Int} {f d : Bool} (h1 : 0 ≤ C) (h2 : C ≤ 63) (h3 : 0 ≤ A) (h4 : A ≤ 7) (h5 : 0 ≤ F) (h6 : F ≤ 4095) (h7 : (f && d) = false) : riB C A F f d = true := by
  simp only [riB, Bool.and_eq_true, in_true, Bool.not_eq_true']
  exact ⟨⟨h1, h2⟩, ⟨h3, h4⟩, ⟨h5, h6⟩, h7⟩
theorem ret_any {a b : Value} (h : a = b) : Ending.returned a = .returned b := by rw [h]
theorem b2i_bd (k : Int) (h : 0 ≤ k) (b : Bool) : 0 ≤ b2i k b ∧ b2i k b ≤ k := by cases b <;> simp [b2i] <;> omega

/-- The world behind six stores into a block. -/
abbrev set6 (w : World) (g : Nat) (a b c d e f : Value) : World := (((((w.setCell ⟨g, 0, none⟩ a).setCell ⟨g, 1, none⟩ b).setCell ⟨g, 2, none⟩ c).setCell ⟨g, 3, none⟩ d).setCell ⟨g, 4, none⟩ e).setCell ⟨g, 5, none⟩ f
section
variable {w w' : World} {g : Nat} {t : TypeId} {a b c d e f a' b' c' d' e' f' : Value}
theorem _root_.Go.Proofs.YtogfjclmohpjkaaGreatDoor.Blk.cell6 (h : Blk w g t [a, b, c, d, e, f]) : w.cell? ⟨g, 0, none⟩ = some a ∧ w.cell? ⟨g, 1, none⟩ = some b ∧ w.cell? ⟨g, 2, none⟩ = some c ∧ w.cell? ⟨g, 3, none⟩ = some d ∧ w.cell? ⟨g, 4, none⟩ = some e ∧ w.cell? ⟨g, 5, none⟩ = some f :=
  ⟨h.cell 0, h.cell 1, h.cell 2, h.cell 3, h.cell 4, h.cell 5⟩
theorem _root_.Go.Proofs.YtogfjclmohpjkaaGreatDoor.Blk.put6 (h : Blk w g t [a', b', c', d', e', f']) (a b c d e f : Value) : Blk (set6 w g a b c d e f) g t [a, b, c, d, e, f] :=
  (((((h.set_ 0 a).set_ 1 b).set_ 2 c).set_ 3 d).set_ 4 e).set_ 5 f
theorem _root_.Go.Proofs.YtogfjclmohpjkaaGreatDoor.Blk.far6 {p : Nat} {cs : List Value} (h : Blk w g t cs) (hp : ¬ g = p) (a b c d e f : Value) : Blk (set6 w p a b c d e f) g t cs :=
  (((((h.far (p := ⟨p, 0, none⟩) hp a).far (p := ⟨p, 1, none⟩) hp b).far (p := ⟨p, 2, none⟩) hp c).far (p := ⟨p, 3, none⟩) hp d).far (p := ⟨p, 4, none⟩) hp e).far (p := ⟨p, 5, none⟩) hp f
theorem _root_.Go.Proofs.YtogfjclmohpjkaaGreatDoor.Fresh.put6 (h : Fresh w g) (k : Grow w w') (a b c d e f : Value) : Grow w (set6 w' g a b c d e f) :=
  h.put (h.put (h.put (h.put (h.put (h.put k 0 a) 1 b) 2 c) 3 d) 4 e) 5 f
theorem _root_.Go.Proofs.YtogfjclmohpjkaaGreatDoor.Blk.frozen6 {cs : List Value} (h : Blk w g t cs) : w.frozen? ⟨g, 0, none⟩ = false ∧ w.frozen? ⟨g, 1, none⟩ = false ∧ w.frozen? ⟨g, 2, none⟩ = false ∧ w.frozen? ⟨g, 3, none⟩ = false ∧ w.frozen? ⟨g, 4, none⟩ = false ∧ w.frozen? ⟨g, 5, none⟩ = false :=
  ⟨h.frozen 0, h.frozen 1, h.frozen 2, h.frozen 3, h.frozen 4, h.frozen 5⟩
end

theorem i64_and63 (n : Int) : bits .and .i64 n 63 = n % 64 := by
  have hM : (BitVec.ofInt 64 63).toNat = 2 ^ 6 - 1 := by decide
  have key : (BitVec.ofInt 64 n &&& BitVec.ofInt 64 63).toNat = (n % ((2 ^ 64 : Nat) : Int)).toNat % 2 ^ 6 := by
    rw [BitVec.toNat_and, BitVec.toNat_ofInt, hM, Nat.and_two_pow_sub_one_eq_mod]
  show IntKind.i64.wrap ((BitVec.ofInt 64 n &&& BitVec.ofInt 64 63).toNat : Nat) = n % 64
  rw [key, IntKind.wrap_i64]
  omega
theorem i64_and15 (n : Int) : bits .and .i64 n 15 = n % 16 := by
  have hM : (BitVec.ofInt 64 15).toNat = 2 ^ 4 - 1 := by decide
  have key : (BitVec.ofInt 64 n &&& BitVec.ofInt 64 15).toNat = (n % ((2 ^ 64 : Nat) : Int)).toNat % 2 ^ 4 := by
    rw [BitVec.toNat_and, BitVec.toNat_ofInt, hM, Nat.and_two_pow_sub_one_eq_mod]
  show IntKind.i64.wrap ((BitVec.ofInt 64 n &&& BitVec.ofInt 64 15).toNat : Nat) = n % 16
  rw [key, IntKind.wrap_i64]
  omega
theorem i64_and1 (n : Int) : bits .and .i64 n 1 = n % 2 := by
  have hM : (BitVec.ofInt 64 1).toNat = 2 ^ 1 - 1 := by decide
  have key : (BitVec.ofInt 64 n &&& BitVec.ofInt 64 1).toNat = (n % ((2 ^ 64 : Nat) : Int)).toNat % 2 ^ 1 := by
    rw [BitVec.toNat_and, BitVec.toNat_ofInt, hM, Nat.and_two_pow_sub_one_eq_mod]
  show IntKind.i64.wrap ((BitVec.ofInt 64 n &&& BitVec.ofInt 64 1).toNat : Nat) = n % 2
  rw [key, IntKind.wrap_i64]
  omega
theorem wraps_i64 (n : Int) (h₀ : 0 ≤ n) (h₁ : n < 2 ^ 40) : IntKind.i64.wrap n = n := by rw [IntKind.wrap_i64]; omega
theorem nat_or_bit (x i : Nat) (h : x / 2 ^ i % 2 = 0) : x ||| 2 ^ i = x + 2 ^ i := by
  have hl : x % 2 ^ i < 2 ^ i := Nat.mod_lt _ (Nat.two_pow_pos i)
  have e : x / 2 ^ i * 2 ^ i + x % 2 ^ i = x := by rw [Nat.mul_comm]; exact Nat.div_add_mod x _
  have hm : x / 2 ^ i * 2 ^ i % 2 ^ i = 0 := Nat.mul_mod_left _ _
  have j1 := nat_join i _ _ hm hl
  have hh : x / 2 ^ i = 2 * (x / 2 ^ i / 2) := by omega
  have j2 : x / 2 ^ i * 2 ^ i ||| 2 ^ i = x / 2 ^ i * 2 ^ i + 2 ^ i := by
    refine nat_join (i + 1) _ _ ?_ ?_
    · rw [hh, Nat.pow_succ, Nat.mul_comm 2 (x / 2 ^ i / 2), Nat.mul_assoc, Nat.mul_comm 2 (2 ^ i)]
      exact Nat.mul_mod_left _ _
    · rw [Nat.pow_succ]; have := Nat.two_pow_pos i; omega
  have hm2 : (x / 2 ^ i * 2 ^ i + 2 ^ i) % 2 ^ i = 0 := by rw [Nat.add_mod_right]; exact hm
  calc x ||| 2 ^ i = (x / 2 ^ i * 2 ^ i ||| x % 2 ^ i) ||| 2 ^ i := by rw [j1, e]
    _ = (x / 2 ^ i * 2 ^ i ||| 2 ^ i) ||| x % 2 ^ i := by rw [Nat.or_assoc, Nat.or_comm (x % 2 ^ i), ← Nat.or_assoc]
    _ = (x / 2 ^ i * 2 ^ i + 2 ^ i) + x % 2 ^ i := by rw [j2, nat_join i _ _ hm2 hl]
    _ = x + 2 ^ i := by omega
theorem i64_or_bit (x : Int) (i : Nat) (hi : i ≤ 20) (h0 : 0 ≤ x) (h1 : x < 2 ^ 40) (h : x / 2 ^ i % 2 = 0) : bits .or .i64 x (2 ^ i) = x + 2 ^ i := by
  obtain ⟨a, rfl⟩ := Int.eq_ofNat_of_zero_le h0
  have ha : a < 2 ^ 40 := by exact_mod_cast h1
  have hb : 2 ^ i < 2 ^ 40 := Nat.pow_lt_pow_right (by decide) (by omega)
  have hd : a / 2 ^ i % 2 = 0 := by exact_mod_cast h
  have e : ((2 : Int) ^ i) = ((2 ^ i : Nat) : Int) := by simp
  rw [e, (bits_nat .i64 40 (by decide) wraps_i64 a (2 ^ i) ha hb).2, nat_or_bit a i hd]
  simp
theorem i64_or_low (x y : Int) (i : Nat) (hx0 : 0 ≤ x) (hx : x < 2 ^ i) (hi : i ≤ 20) (hy0 : 0 ≤ y) (hy1 : y < 2 ^ 40) (hy : y % 2 ^ i = 0) : bits .or .i64 x y = x + y := by
  have hc : bits .or .i64 x y = bits .or .i64 y x := by simp only [bits, BitVec.or_comm]
  have hx1 : x < 2 ^ 40 := Int.lt_trans hx (by have : (2 : Nat) ^ i < 2 ^ 40 := Nat.pow_lt_pow_right (by decide) (by omega)
                                               exact_mod_cast this)
  rw [hc, bits_join .i64 40 (by decide) wraps_i64 i y x hy0 hy hy1 hx0 hx hx1]
  omega
end Go.Proofs.YtogfjclmohpjkaaGreatDoor.L4
/- What the calls of package head, and of package gleaningref04, answer; they change nothing but make new memory. Conditions: the numbers given fit their kinds. -/
namespace Go.Proofs.YtogfjclmohpjkaaGreatDoor.L4
open Go.ChangeShapes Go.WideShapes Go.ChangeAt Go.RowKit
set_option linter.unusedVariables false
set_option maxRecDepth 100000

set_option maxHeartbeats 400000 in
theorem within_any (n m : Int) (w : World) :
    Calls Tryz.prog 128 #[.int .i64 n, .int .i64 m] w fun e w' => e = .returned (.bool (inB n m)) ∧ w = w' := by
  by_cases h1 : 0 ≤ n
  · by_cases h2 : n ≤ m
    · have HE := hide (show inB n m = true by simp [inB]; omega)
      go_enter Tryz.func128, Tryz.ntmps128
      go_wp2
      go_ret
      exact ⟨ret_bool HE.out.symm, rfl⟩
    · have HE := hide (show inB n m = false by simp [inB]; omega)
      have h2' : decide (n ≤ m) = false := by simpa using h2
      go_enter Tryz.func128, Tryz.ntmps128
      go_wp2
      go_ret
      exact ⟨ret_bool HE.out.symm, rfl⟩
  · have HE := hide (show inB n m = false by simp [inB]; omega)
    have h1' : decide (0 ≤ n) = false := by simpa using h1
    go_enter Tryz.func128, Tryz.ntmps128
    go_wp2
    go_ret
    exact ⟨ret_bool HE.out.symm, rfl⟩

set_option maxHeartbeats 1000000 in
theorem right_any (C A F : Int) (m f d : Bool) (w : World) :
    Calls Tryz.prog 116 #[hdV C A F m f d] w fun e w' => e = .returned (.bool (riB C A F f d)) ∧ Grow w w' := by
  cases h1 : inB C 63
  · have HE := hide (show riB C A F f d = false by simp [riB, h1])
    go_enter Tryz.func116, Tryz.ntmps116
    go_wp2_with (go_at_call 128; refine (within_any _ _ _).mono ?_; rintro e w' ⟨rfl, rfl⟩)
    go_ret
    exact ⟨ret_bool HE.out.symm, Grow.box _ _⟩
  · cases h2 : inB A 7
    · have HE := hide (show riB C A F f d = false by simp [riB, h2])
      go_enter Tryz.func116, Tryz.ntmps116
      go_wp2_with (go_at_call 128; refine (within_any _ _ _).mono ?_; rintro e w' ⟨rfl, rfl⟩)
      go_ret
      exact ⟨ret_bool HE.out.symm, Grow.box _ _⟩
    · cases h3 : inB F 4095
      · have HE := hide (show riB C A F f d = false by simp [riB, h3])
        go_enter Tryz.func116, Tryz.ntmps116
        go_wp2_with (go_at_call 128; refine (within_any _ _ _).mono ?_; rintro e w' ⟨rfl, rfl⟩)
        go_ret
        exact ⟨ret_bool HE.out.symm, Grow.box _ _⟩
      · cases f
        · have HE := hide (show riB C A F false d = true by simp [riB, h1, h2, h3])
          go_enter Tryz.func116, Tryz.ntmps116
          go_wp2_with (go_at_call 128; refine (within_any _ _ _).mono ?_; rintro e w' ⟨rfl, rfl⟩)
          go_ret
          exact ⟨ret_bool HE.out.symm, Grow.box _ _⟩
        · cases d
          · have HE := hide (show riB C A F true false = true by simp [riB, h1, h2, h3])
            go_enter Tryz.func116, Tryz.ntmps116
            go_wp2_with (go_at_call 128; refine (within_any _ _ _).mono ?_; rintro e w' ⟨rfl, rfl⟩)
            go_ret
            exact ⟨ret_bool HE.out.symm, Grow.box _ _⟩
          · have HE := hide (show riB C A F true true = false by simp [riB])
            go_enter Tryz.func116, Tryz.ntmps116
            go_wp2_with (go_at_call 128; refine (within_any _ _ _).mono ?_; rintro e w' ⟨rfl, rfl⟩)
            go_ret
            exact ⟨ret_bool HE.out.symm, Grow.box _ _⟩

set_option maxHeartbeats 1000000 in
theorem rright_any (C A F : Int) (m f d : Bool) (w : World) :
    Calls Tryz.prog 126 #[hdV C A F m f d] w fun e w' => e = .returned (.bool (riB C A F f d)) ∧ Grow w w' := by
  by_cases h1 : 0 ≤ C
  rotate_left
  · have HE := hide (show riB C A F f d = false by have : inB C 63 = false := by { simp [inB]; omega }; simp [riB, this])
    have h' : decide (0 ≤ C) = false := by simpa using h1
    go_enter Tryz.func126, Tryz.ntmps126
    go_wp2
    go_ret
    exact ⟨ret_bool HE.out.symm, Grow.box _ _⟩
  by_cases h2 : C ≤ 63
  rotate_left
  · have HE := hide (show riB C A F f d = false by have : inB C 63 = false := by { simp [inB]; omega }; simp [riB, this])
    have h' : decide (C ≤ 63) = false := by simpa using h2
    go_enter Tryz.func126, Tryz.ntmps126
    go_wp2
    go_ret
    exact ⟨ret_bool HE.out.symm, Grow.box _ _⟩
  have i1 := in_true.2 ⟨h1, h2⟩
  by_cases h3 : 0 ≤ A
  rotate_left
  · have HE := hide (show riB C A F f d = false by have : inB A 7 = false := by { simp [inB]; omega }; simp [riB, this])
    have h' : decide (0 ≤ A) = false := by simpa using h3
    clear i1
    go_enter Tryz.func126, Tryz.ntmps126
    go_wp2
    go_ret
    exact ⟨ret_bool HE.out.symm, Grow.box _ _⟩
  by_cases h4 : A ≤ 7
  rotate_left
  · have HE := hide (show riB C A F f d = false by have : inB A 7 = false := by { simp [inB]; omega }; simp [riB, this])
    have h' : decide (A ≤ 7) = false := by simpa using h4
    clear i1
    go_enter Tryz.func126, Tryz.ntmps126
    go_wp2
    go_ret
    exact ⟨ret_bool HE.out.symm, Grow.box _ _⟩
  have i2 := in_true.2 ⟨h3, h4⟩
  by_cases h5 : 0 ≤ F
  rotate_left
  · have HE := hide (show riB C A F f d = false by have : inB F 4095 = false := by { simp [inB]; omega }; simp [riB, this])
    have h' : decide (0 ≤ F) = false := by simpa using h5
    clear i1 i2
    go_enter Tryz.func126, Tryz.ntmps126
    go_wp2
    go_ret
    exact ⟨ret_bool HE.out.symm, Grow.box _ _⟩
  by_cases h6 : F ≤ 4095
  rotate_left
  · have HE := hide (show riB C A F f d = false by have : inB F 4095 = false := by { simp [inB]; omega }; simp [riB, this])
    have h' : decide (F ≤ 4095) = false := by simpa using h6
    clear i1 i2
    go_enter Tryz.func126, Tryz.ntmps126
    go_wp2
    go_ret
    exact ⟨ret_bool HE.out.symm, Grow.box _ _⟩
  have i3 := in_true.2 ⟨h5, h6⟩
  cases f
  · have HE := hide (show riB C A F false d = true by simp [riB, i1, i2, i3])
    clear i1 i2 i3
    go_enter Tryz.func126, Tryz.ntmps126
    go_wp2
    go_ret
    exact ⟨ret_bool HE.out.symm, Grow.box _ _⟩
  · cases d
    · have HE := hide (show riB C A F true false = true by simp [riB, i1, i2, i3])
      clear i1 i2 i3
      go_enter Tryz.func126, Tryz.ntmps126
      go_wp2
      go_ret
      exact ⟨ret_bool HE.out.symm, Grow.box _ _⟩
    · have HE := hide (show riB C A F true true = false by simp [riB])
      clear i1 i2 i3
      go_enter Tryz.func126, Tryz.ntmps126
      go_wp2
      go_ret
      exact ⟨ret_bool HE.out.symm, Grow.box _ _⟩
end Go.Proofs.YtogfjclmohpjkaaGreatDoor.L4
/- What Word answers, of package head and of package gleaningref04; it changes nothing but makes new memory. Conditions: the numbers given fit their kinds. -/
namespace Go.Proofs.YtogfjclmohpjkaaGreatDoor.L4
open Go.ChangeShapes Go.WideShapes Go.ChangeAt Go.RowKit
set_option linter.unusedVariables false
set_option maxRecDepth 100000

set_option maxHeartbeats 400000 in
theorem put_any (at_ : Nat) (b : Bool) (x : Int) (g : Nat) (w : World) (ha : at_ ≤ 20) (h0 : 0 ≤ x) (h1 : x < 2 ^ 30) (hb : x / 2 ^ at_ % 2 = 0) (hg : Blk w g 3 [.int .i64 x]) :
    Calls Tryz.prog 117 #[.int .u64 at_, .bool b, .pointer (some ⟨g, 0, none⟩)] w fun e w' => e = .returned (.tuple #[]) ∧ Blk w' g 3 [.int .i64 (x + b2i (2 ^ at_) b)] ∧ Chg (· = g) w w' := by
  cases b
  · go_enter Tryz.func117, Tryz.ntmps117
    go_wp2
    go_returns
    exact ⟨rfl, by simpa [b2i] using hg, Chg.refl _ _⟩
  · have c0 : w.cell? ⟨g, 0, none⟩ = some (.int .i64 x) := hg.cell 0
    have f0 := hg.frozen 0
    have hp : (2 : Int) ^ at_ ≤ 2 ^ 20 := by
      have : (2 : Nat) ^ at_ ≤ 2 ^ 20 := Nat.pow_le_pow_right (by decide) ha
      exact_mod_cast this
    have hp0 : (0 : Int) ≤ 2 ^ at_ := by have : 0 ≤ (2 : Nat) ^ at_ := Nat.zero_le _; exact_mod_cast this
    have e1 : wrap64 ((2 : Int) ^ at_) = 2 ^ at_ := wrap64_id _ (by omega)
    have e2 : bits .or .i64 x (2 ^ at_) = x + 2 ^ at_ := i64_or_bit x at_ ha h0 (by omega) hb
    clear hp hp0
    have HG := hide hg
    clear hg
    go_enter Tryz.func117, Tryz.ntmps117
    go_wp2
    go_returns
    exact ⟨rfl, by simpa [b2i] using HG.out.set_ 0 (.int .i64 (x + 2 ^ at_)), Chg.setCell (Chg.refl (fun k => k = g) w) (p := ⟨g, 0, none⟩) (fun _ => rfl) _⟩

theorem put10 (b : Bool) (x : Int) (g : Nat) (w : World) (h0 : 0 ≤ x) (h1 : x < 2 ^ 30) (hb : x / 1024 % 2 = 0) (hg : Blk w g 3 [.int .i64 x]) :
    Calls Tryz.prog 117 #[.int .u64 10, .bool b, .pointer (some ⟨g, 0, none⟩)] w fun e w' => e = .returned (.tuple #[]) ∧ Blk w' g 3 [.int .i64 (x + b2i 1024 b)] ∧ Chg (· = g) w w' :=
  put_any 10 b x g w (by decide) h0 h1 hb hg
theorem put11 (b : Bool) (x : Int) (g : Nat) (w : World) (h0 : 0 ≤ x) (h1 : x < 2 ^ 30) (hb : x / 2048 % 2 = 0) (hg : Blk w g 3 [.int .i64 x]) :
    Calls Tryz.prog 117 #[.int .u64 11, .bool b, .pointer (some ⟨g, 0, none⟩)] w fun e w' => e = .returned (.tuple #[]) ∧ Blk w' g 3 [.int .i64 (x + b2i 2048 b)] ∧ Chg (· = g) w w' :=
  put_any 11 b x g w (by decide) h0 h1 hb hg
theorem put12 (b : Bool) (x : Int) (g : Nat) (w : World) (h0 : 0 ≤ x) (h1 : x < 2 ^ 30) (hb : x / 4096 % 2 = 0) (hg : Blk w g 3 [.int .i64 x]) :
    Calls Tryz.prog 117 #[.int .u64 12, .bool b, .pointer (some ⟨g, 0, none⟩)] w fun e w' => e = .returned (.tuple #[]) ∧ Blk w' g 3 [.int .i64 (x + b2i 4096 b)] ∧ Chg (· = g) w w' :=
  put_any 12 b x g w (by decide) h0 h1 hb hg

set_option maxHeartbeats 1000000 in
theorem word_any (C A F : Int) (m f d : Bool) (w : World) :
    Calls Tryz.prog 93 #[hdV C A F m f d] w fun e w' => e = .returned (.tuple #[.int .i64 (wdV C A F m f d), .int .i64 (wdX C A F f d)]) ∧ Grow w w' := by
  have hs := Blk.new w 123 [.int .i64 C, .int .i64 A, .int .i64 F, .bool m, .bool f, .bool d]
  have cs := Grow.box w (.cells [.int .i64 C, .int .i64 A, .int .i64 F, .bool m, .bool f, .bool d].toArray 123)
  cases hr : riB C A F f d
  · have HE := hide (show wdV C A F m f d = 0 ∧ wdX C A F f d = 1 by simp [wdV, wdX, hr])
    have HR := hide hr
    clear hr
    go_enter Tryz.func93, Tryz.ntmps93
    go_wp2_with fail
    refine (right_any C A F m f d _).mono ?_
    rintro e w1 ⟨rfl, c1⟩
    have hr := HR.out
    go_wp2
    go_returns
    exact ⟨ret_any (by rw [HE.out.1, HE.out.2]; rfl), cs.trans c1⟩
  · obtain ⟨b1, b2, b3, b4, b5, b6, b7⟩ := ri_true hr
    have HE := hide (show wdV C A F m f d = wd C A F m f d ∧ wdX C A F f d = 0 by simp [wdV, wdX, hr])
    have HR := hide hr
    clear hr
    have hmf : ∀ (fn : Fn) (first cap : Array Value) (w : World), (Instr.makeFunc fn first cap).run Tryz.prog w = .ok (.func fn first cap) w := fun _ _ _ _ => rfl
    go_enter Tryz.func93, Tryz.ntmps93
    go_wp2_with fail
    refine (right_any C A F m f d _).mono ?_
    rintro e w1 ⟨rfl, c1⟩
    have hr := HR.out
    replace hs := hs.chg c1 id
    replace cs := cs.trans c1
    obtain ⟨s, hS⟩ : ∃ s, s = w.heap.size := ⟨_, rfl⟩
    have hwg : w.heap.size ≤ w1.heap.size := cs.size
    rw [← hS] at hs ⊢
    clear hS c1
    obtain ⟨X, hX⟩ : ∃ X, X = C + A * 64 + F * 8192 := ⟨_, rfl⟩
    have e1 : bits .or .i64 C (A * 64) = C + A * 64 := i64_or_low C (A * 64) 6 b1 (by omega) (by decide) (by omega) (by omega) (by omega)
    have e2 : bits .or .i64 (C + A * 64) (F * 8192) = X := by rw [hX]; exact i64_or_low (C + A * 64) (F * 8192) 13 (by omega) (by omega) (by decide) (by omega) (by omega) (by omega)
    have a0 : w1.cell? ⟨s, 0, none⟩ = some (.int .i64 C) := hs.cell 0
    have a1 : w1.cell? ⟨s, 1, none⟩ = some (.int .i64 A) := hs.cell 1
    have a2 : w1.cell? ⟨s, 2, none⟩ = some (.int .i64 F) := hs.cell 2
    have hx := Blk.new w1 3 [.int .i64 X]
    have hs' := hs.alloc (.cells [.int .i64 X].toArray 3)
    have cs' := cs.alloc (.cells [.int .i64 X].toArray 3)
    have a3 : (w1.alloc (.cells #[.int .i64 X] 3)).cell? ⟨s, 3, none⟩ = some (.bool m) := hs'.cell 3
    have HX := hide hX
    have nsx : s ≠ w1.heap.size := by have := hs.lt; omega
    clear hX
    go_wp2_with fail
    clear a0 a1 a2 a3 e1 e2 hs cs
    generalize w1.alloc (.cells #[.int .i64 X] 3) = w2 at *
    generalize w1.heap.size = g at *
    have hX := HX.out
    have m0 := b2i_bd 1024 (by decide) m
    have m1 : b2i 1024 m = 0 ∨ b2i 1024 m = 1024 := by cases m <;> simp [b2i]
    have m2 : b2i 2048 f = 0 ∨ b2i 2048 f = 2048 := by cases f <;> simp [b2i]
    have g0 : 0 ≤ X ∧ X < 2 ^ 30 ∧ X / 1024 % 2 = 0 := by omega
    have g1 : 0 ≤ X + b2i 1024 m ∧ X + b2i 1024 m < 2 ^ 30 ∧ (X + b2i 1024 m) / 2048 % 2 = 0 := by omega
    have g2 : 0 ≤ X + b2i 1024 m + b2i 2048 f ∧ X + b2i 1024 m + b2i 2048 f < 2 ^ 30 ∧ (X + b2i 1024 m + b2i 2048 f) / 4096 % 2 = 0 := by omega
    have hE : X + b2i 1024 m + b2i 2048 f + b2i 4096 d = wd C A F m f d := by unfold wd; omega
    have HH := hide (And.intro hE HE.out)
    clear HE HX hX m0 m1 m2 hE b1 b2 b3 b4 b5 b6 b7
    have G1 := hide g1
    have G2 := hide g2
    have nsg : ¬ s = g := nsx
    refine (put10 m X g w2 g0.1 g0.2.1 g0.2.2 hx).mono ?_
    rintro e w3 ⟨rfl, hx3, c3⟩
    replace hs' := hs'.chg c3 nsg
    replace cs' := cs'.step c3 (fun i hi h => by omega)
    clear hx c3 g0 g1 g2 nsx hmf hr
    have a4 : w3.cell? ⟨s, 4, none⟩ = some (.bool f) := hs'.cell 4
    go_wp2_with fail
    refine (put11 f _ g w3 G1.out.1 G1.out.2.1 G1.out.2.2 hx3).mono ?_
    rintro e w4 ⟨rfl, hx4, c4⟩
    replace hs' := hs'.chg c4 nsg
    replace cs' := cs'.step c4 (fun i hi h => by omega)
    clear hx3 c4 a4
    have a5 : w4.cell? ⟨s, 5, none⟩ = some (.bool d) := hs'.cell 5
    go_wp2_with fail
    refine (put12 d _ g w4 G2.out.1 G2.out.2.1 G2.out.2.2 hx4).mono ?_
    rintro e w5 ⟨rfl, hx5, c5⟩
    replace cs' := cs'.step c5 (fun i hi h => by omega)
    clear hx4 c5 a5
    rw [HH.out.1] at hx5
    have x0 : w5.cell? ⟨g, 0, none⟩ = some (.int .i64 (wd C A F m f d)) := hx5.cell 0
    go_wp2
    go_returns
    exact ⟨ret_any (by rw [HH.out.2.1, HH.out.2.2]; rfl), cs'⟩
end Go.Proofs.YtogfjclmohpjkaaGreatDoor.L4
/- What Of and Older answer, and the answers of package gleaningref04 besides; they change nothing but make new memory. Conditions: the numbers given fit their kinds. -/
namespace Go.Proofs.YtogfjclmohpjkaaGreatDoor.L4
open Go.ChangeShapes Go.WideShapes Go.ChangeAt Go.RowKit
set_option linter.unusedVariables false
set_option maxRecDepth 100000

theorem bit_ne (n k : Int) : (bits .and .i64 (n / k) 1 != 0) = bitB n k := by
  rw [i64_and1]
  have h : n / k % 2 = 0 ∨ n / k % 2 = 1 := by omega
  rcases h with h | h <;> simp [bitB, h]
set_option maxHeartbeats 400000 in
theorem has10 (n : Int) (g : Nat) (w : World) (hg : w.cell? ⟨g, 0, none⟩ = some (.int .i64 n)) :
    Calls Tryz.prog 127 #[.int .u64 10, .pointer (some ⟨g, 0, none⟩)] w fun e w' => e = .returned (.bool (bitB n 1024)) ∧ w = w' := by
  go_enter Tryz.func127, Tryz.ntmps127
  go_wp2
  go_ret
  exact ⟨ret_bool (bit_ne n 1024), rfl⟩
set_option maxHeartbeats 400000 in
theorem has11 (n : Int) (g : Nat) (w : World) (hg : w.cell? ⟨g, 0, none⟩ = some (.int .i64 n)) :
    Calls Tryz.prog 127 #[.int .u64 11, .pointer (some ⟨g, 0, none⟩)] w fun e w' => e = .returned (.bool (bitB n 2048)) ∧ w = w' := by
  go_enter Tryz.func127, Tryz.ntmps127
  go_wp2
  go_ret
  exact ⟨ret_bool (bit_ne n 2048), rfl⟩
set_option maxHeartbeats 400000 in
theorem has12 (n : Int) (g : Nat) (w : World) (hg : w.cell? ⟨g, 0, none⟩ = some (.int .i64 n)) :
    Calls Tryz.prog 127 #[.int .u64 12, .pointer (some ⟨g, 0, none⟩)] w fun e w' => e = .returned (.bool (bitB n 4096)) ∧ w = w' := by
  go_enter Tryz.func127, Tryz.ntmps127
  go_wp2
  go_ret
  exact ⟨ret_bool (bit_ne n 4096), rfl⟩

theorem right_of (n : Int) (w : World) :
    Calls Tryz.prog 116 #[hdV (n % 64) (n / 64 % 16) (n / 8192) (bitB n 1024) (bitB n 2048) (bitB n 4096)] w fun e w' => e = .returned (.bool (ofB n)) ∧ Grow w w' := right_any _ _ _ _ _ _ w
theorem rright_of (n : Int) (w : World) :
    Calls Tryz.prog 126 #[hdV (n % 64) (n / 64 % 16) (n / 8192) (bitB n 1024) (bitB n 2048) (bitB n 4096)] w fun e w' => e = .returned (.bool (ofB n)) ∧ Grow w w' := rright_any _ _ _ _ _ _ w
set_option maxHeartbeats 1000000 in
theorem of_any (n : Int) (w : World) :
    Calls Tryz.prog 111 #[.int .i64 n] w fun e w' => e = .returned (.tuple #[ofV n, .int .i64 (ofX n)]) ∧ Grow w w' := by
  have hmf : ∀ (fn : Fn) (first cap : Array Value) (w : World), (Instr.makeFunc fn first cap).run Tryz.prog w = .ok (.func fn first cap) w := fun _ _ _ _ => rfl
  have hw := Blk.new w 3 [.int .i64 n]
  have hr := Blk.new (w.alloc (.cells #[.int .i64 n] 3)) 123 [.int .i64 0, .int .i64 0, .int .i64 0, .bool false, .bool false, .bool false]
  have cw := Grow.box w (.cells [.int .i64 n].toArray 3)
  replace hw := hw.alloc (.cells [.int .i64 0, .int .i64 0, .int .i64 0, .bool false, .bool false, .bool false].toArray 123)
  replace cw := cw.alloc (.cells [.int .i64 0, .int .i64 0, .int .i64 0, .bool false, .bool false, .bool false].toArray 123)
  have hrs : (w.alloc (.cells #[.int .i64 n] 3)).heap.size = w.heap.size + 1 := by simp
  rw [hrs] at hr
  clear hrs
  go_enter Tryz.func111, Tryz.ntmps111
  go_wp2_with fail
  generalize (w.alloc (.cells #[.int .i64 n] 3)).alloc (.cells #[.int .i64 0, .int .i64 0, .int .i64 0, .bool false, .bool false, .bool false] 123) = w2 at *
  have hsz := hide hr.lt
  have nsg : ¬ w.heap.size = w.heap.size + 1 := by omega
  have fg : Fresh w (w.heap.size + 1) := by show w.heap.size ≤ w.heap.size + 1; omega
  generalize w.heap.size + 1 = g at *
  generalize w.heap.size = s at *
  have c0 : w2.drew.cell? ⟨s, 0, none⟩ = some (.int .i64 n) := hw.cell 0
  have e1 := i64_and63 n
  have e2 := i64_and15 (n / 64)
  have HS := hide hw
  have HR := hide hr
  clear hw hr hmf
  go_region_held3 (fun w' => w'.cell? ⟨s, 0, none⟩ = some (.int .i64 n)) (first | exact c0 | exact HS.out.cell_new _ 0 rfl) (first | (go_at_call 127; (first | (with_reducible refine (has10 n s _ ?_).mono ?_) | (with_reducible refine (has11 n s _ ?_).mono ?_) | (with_reducible refine (has12 n s _ ?_).mono ?_)); (assumption); rintro e w' ⟨rfl, rfl⟩))
  all_goals
    go_wp2_with fail
    have hx : Blk (w2.alloc (.cells #[.int .i64 (n % 64), .int .i64 (n / 64 % 16), .int .i64 (n / 8192), .bool (bitB n 1024), .bool (bitB n 2048), .bool (bitB n 4096)] 123)).drew w2.heap.size 123 [.int .i64 (n % 64), .int .i64 (n / 64 % 16), .int .i64 (n / 8192), .bool (bitB n 1024), .bool (bitB n 2048), .bool (bitB n 4096)] := Blk.new w2 123 [.int .i64 (n % 64), .int .i64 (n / 64 % 16), .int .i64 (n / 8192), .bool (bitB n 1024), .bool (bitB n 2048), .bool (bitB n 4096)]
    have hr : Blk (w2.alloc (.cells #[.int .i64 (n % 64), .int .i64 (n / 64 % 16), .int .i64 (n / 8192), .bool (bitB n 1024), .bool (bitB n 2048), .bool (bitB n 4096)] 123)).drew g 123 [.int .i64 0, .int .i64 0, .int .i64 0, .bool false, .bool false, .bool false] := HR.out.alloc _
    have cw3 : Grow w (w2.alloc (.cells #[.int .i64 (n % 64), .int .i64 (n / 64 % 16), .int .i64 (n / 8192), .bool (bitB n 1024), .bool (bitB n 2048), .bool (bitB n 4096)] 123)).drew := (cw.alloc _).drew
    have nxg : ¬ w2.heap.size = g := by have := hsz.out; omega
    clear HS HR cw hsz c0 e1 e2 nsg
    generalize (w2.alloc (.cells #[.int .i64 (n % 64), .int .i64 (n / 64 % 16), .int .i64 (n / 8192), .bool (bitB n 1024), .bool (bitB n 2048), .bool (bitB n 4096)] 123)).drew = w3 at *
    generalize w2.heap.size = x at *
    refine (right_of n w3).mono ?_
    rintro e w4 ⟨rfl, c4⟩
    replace hx := hx.chg c4 id
    replace hr := hr.chg c4 id
    replace cw3 := cw3.trans c4
    clear c4
    obtain ⟨x0, x1, x2, x3, x4, x5⟩ := hx.cell6
    obtain ⟨r0, r1, r2, r3, r4, r5⟩ := hr.cell6
    obtain ⟨f0, f1, f2, f3, f4, f5⟩ := hr.frozen6
    have HR := hide hr
    clear hr hx
    cases hO : ofB n
    · have HE := hide (of_no hO)
      go_wp2
      have hr2 : Blk ((((((w4.setCell ⟨g, 0, none⟩ (.int .i64 0)).setCell ⟨g, 1, none⟩ (.int .i64 0)).setCell ⟨g, 2, none⟩ (.int .i64 0)).setCell ⟨g, 3, none⟩ (.bool false)).setCell ⟨g, 4, none⟩ (.bool false)).setCell ⟨g, 5, none⟩ (.bool false)) g 123 [.int .i64 0, .int .i64 0, .int .i64 0, .bool false, .bool false, .bool false] := HR.out.put6 (.int .i64 0) (.int .i64 0) (.int .i64 0) (.bool false) (.bool false) (.bool false)
      have cw4 : Grow w ((((((w4.setCell ⟨g, 0, none⟩ (.int .i64 0)).setCell ⟨g, 1, none⟩ (.int .i64 0)).setCell ⟨g, 2, none⟩ (.int .i64 0)).setCell ⟨g, 3, none⟩ (.bool false)).setCell ⟨g, 4, none⟩ (.bool false)).setCell ⟨g, 5, none⟩ (.bool false)) := fg.put6 cw3 (.int .i64 0) (.int .i64 0) (.int .i64 0) (.bool false) (.bool false) (.bool false)
      clear HR r0 r1 r2 r3 r4 r5 x0 x1 x2 x3 x4 x5 f0 f1 f2 f3 f4 f5 hO cw3
      generalize ((((((w4.setCell ⟨g, 0, none⟩ (.int .i64 0)).setCell ⟨g, 1, none⟩ (.int .i64 0)).setCell ⟨g, 2, none⟩ (.int .i64 0)).setCell ⟨g, 3, none⟩ (.bool false)).setCell ⟨g, 4, none⟩ (.bool false)).setCell ⟨g, 5, none⟩ (.bool false)) = w5 at *
      obtain ⟨r0, r1, r2, r3, r4, r5⟩ := hr2.cell6
      clear hr2
      refine bodyPost_ret (v := .tuple #[hdV 0 0 0 false false false, .int .i64 12]) (by simp [results, Tryz.results111, go_sem, r0, r1, r2, r3, r4, r5]) rfl ?_
      exact ⟨ret_any (by rw [HE.out.1, HE.out.2]), cw4⟩
    · have HE := hide (of_yes hO)
      go_wp2
      have hr2 : Blk ((((((w4.setCell ⟨g, 0, none⟩ (.int .i64 (n % 64))).setCell ⟨g, 1, none⟩ (.int .i64 (n / 64 % 16))).setCell ⟨g, 2, none⟩ (.int .i64 (n / 8192))).setCell ⟨g, 3, none⟩ (.bool (bitB n 1024))).setCell ⟨g, 4, none⟩ (.bool (bitB n 2048))).setCell ⟨g, 5, none⟩ (.bool (bitB n 4096))) g 123 [.int .i64 (n % 64), .int .i64 (n / 64 % 16), .int .i64 (n / 8192), .bool (bitB n 1024), .bool (bitB n 2048), .bool (bitB n 4096)] := HR.out.put6 (.int .i64 (n % 64)) (.int .i64 (n / 64 % 16)) (.int .i64 (n / 8192)) (.bool (bitB n 1024)) (.bool (bitB n 2048)) (.bool (bitB n 4096))
      have cw4 : Grow w ((((((w4.setCell ⟨g, 0, none⟩ (.int .i64 (n % 64))).setCell ⟨g, 1, none⟩ (.int .i64 (n / 64 % 16))).setCell ⟨g, 2, none⟩ (.int .i64 (n / 8192))).setCell ⟨g, 3, none⟩ (.bool (bitB n 1024))).setCell ⟨g, 4, none⟩ (.bool (bitB n 2048))).setCell ⟨g, 5, none⟩ (.bool (bitB n 4096))) := fg.put6 cw3 (.int .i64 (n % 64)) (.int .i64 (n / 64 % 16)) (.int .i64 (n / 8192)) (.bool (bitB n 1024)) (.bool (bitB n 2048)) (.bool (bitB n 4096))
      clear HR r0 r1 r2 r3 r4 r5 x0 x1 x2 x3 x4 x5 f0 f1 f2 f3 f4 f5 hO cw3
      generalize ((((((w4.setCell ⟨g, 0, none⟩ (.int .i64 (n % 64))).setCell ⟨g, 1, none⟩ (.int .i64 (n / 64 % 16))).setCell ⟨g, 2, none⟩ (.int .i64 (n / 8192))).setCell ⟨g, 3, none⟩ (.bool (bitB n 1024))).setCell ⟨g, 4, none⟩ (.bool (bitB n 2048))).setCell ⟨g, 5, none⟩ (.bool (bitB n 4096))) = w5 at *
      obtain ⟨r0, r1, r2, r3, r4, r5⟩ := hr2.cell6
      clear hr2
      refine bodyPost_ret (v := .tuple #[hdV (n % 64) (n / 64 % 16) (n / 8192) (bitB n 1024) (bitB n 2048) (bitB n 4096), .int .i64 0]) (by simp [results, Tryz.results111, go_sem, r0, r1, r2, r3, r4, r5]) rfl ?_
      exact ⟨ret_any (by rw [HE.out.1, HE.out.2]), cw4⟩
theorem ofB_no {n : Int} (h : n < 0 ∨ 33554432 ≤ n) : ofB n = false := by
  cases e : ofB n
  · rfl
  · have := ri_true e
    omega
theorem bit_is (n k : Int) : (n / k % 2 == 1) = bitB n k := by simp [bitB]; exact Bool.beq_eq_decide_eq ..
set_option maxHeartbeats 1000000 in
theorem rof_any (n : Int) (w : World) :
    Calls Tryz.prog 110 #[.int .i64 n] w fun e w' => e = .returned (.tuple #[ofV n, .int .i64 (ofX n)]) ∧ Grow w w' := by
  by_cases h0 : n < 0
  · have HE := hide (of_no (ofB_no (Or.inl h0)))
    go_enter Tryz.func110, Tryz.ntmps110
    go_wp2
    go_returns
    exact ⟨ret_any (by rw [HE.out.1, HE.out.2]), Grow.box _ _⟩
  by_cases h1 : 33554432 ≤ n
  · have HE := hide (of_no (ofB_no (Or.inr h1)))
    go_enter Tryz.func110, Tryz.ntmps110
    go_wp2
    go_returns
    exact ⟨ret_any (by rw [HE.out.1, HE.out.2]), Grow.box _ _⟩
  · have q1 := bit_is n 1024
    have q2 := bit_is n 2048
    have q3 := bit_is n 4096
    have hr := Blk.new w 103 [.int .i64 0, .int .i64 0, .int .i64 0, .bool false, .bool false, .bool false]
    have cw := Grow.box w (.cells [.int .i64 0, .int .i64 0, .int .i64 0, .bool false, .bool false, .bool false].toArray 103)
    have hx := Blk.new (w.alloc (.cells #[.int .i64 0, .int .i64 0, .int .i64 0, .bool false, .bool false, .bool false] 103)) 103 [.int .i64 (n % 64), .int .i64 (n / 64 % 16), .int .i64 (n / 8192), .bool (bitB n 1024), .bool (bitB n 2048), .bool (bitB n 4096)]
    replace hr := hr.alloc (.cells [.int .i64 (n % 64), .int .i64 (n / 64 % 16), .int .i64 (n / 8192), .bool (bitB n 1024), .bool (bitB n 2048), .bool (bitB n 4096)].toArray 103)
    replace cw := cw.alloc (.cells [.int .i64 (n % 64), .int .i64 (n / 64 % 16), .int .i64 (n / 8192), .bool (bitB n 1024), .bool (bitB n 2048), .bool (bitB n 4096)].toArray 103)
    have hsz : (w.alloc (.cells #[.int .i64 0, .int .i64 0, .int .i64 0, .bool false, .bool false, .bool false] 103)).heap.size = w.heap.size + 1 := by simp
    rw [hsz] at hx
    clear hsz
    go_enter Tryz.func110, Tryz.ntmps110
    go_wp2_with fail
    clear q1 q2 q3
    have nsx : ¬ w.heap.size + 1 = w.heap.size := by omega
    have fg : Fresh w w.heap.size := Nat.le_refl _
    generalize (w.alloc (.cells #[.int .i64 0, .int .i64 0, .int .i64 0, .bool false, .bool false, .bool false] 103)).alloc (.cells #[.int .i64 (n % 64), .int .i64 (n / 64 % 16), .int .i64 (n / 8192), .bool (bitB n 1024), .bool (bitB n 2048), .bool (bitB n 4096)] 103) = w3 at *
    generalize w.heap.size + 1 = x at *
    generalize w.heap.size = g at *
    refine (rright_of n w3).mono ?_
    rintro e w4 ⟨rfl, c4⟩
    replace hx := hx.chg c4 id
    replace hr := hr.chg c4 id
    replace cw := cw.trans c4
    clear c4
    obtain ⟨x0, x1, x2, x3, x4, x5⟩ := hx.cell6
    obtain ⟨r0, r1, r2, r3, r4, r5⟩ := hr.cell6
    obtain ⟨f0, f1, f2, f3, f4, f5⟩ := hr.frozen6
    have HR := hide hr
    clear hr hx
    cases hO : ofB n
    · have HE := hide (of_no hO)
      go_wp2
      have hr2 : Blk ((((((w4.setCell ⟨g, 0, none⟩ (.int .i64 0)).setCell ⟨g, 1, none⟩ (.int .i64 0)).setCell ⟨g, 2, none⟩ (.int .i64 0)).setCell ⟨g, 3, none⟩ (.bool false)).setCell ⟨g, 4, none⟩ (.bool false)).setCell ⟨g, 5, none⟩ (.bool false)) g 103 [.int .i64 0, .int .i64 0, .int .i64 0, .bool false, .bool false, .bool false] := HR.out.put6 (.int .i64 0) (.int .i64 0) (.int .i64 0) (.bool false) (.bool false) (.bool false)
      have cw4 : Grow w ((((((w4.setCell ⟨g, 0, none⟩ (.int .i64 0)).setCell ⟨g, 1, none⟩ (.int .i64 0)).setCell ⟨g, 2, none⟩ (.int .i64 0)).setCell ⟨g, 3, none⟩ (.bool false)).setCell ⟨g, 4, none⟩ (.bool false)).setCell ⟨g, 5, none⟩ (.bool false)) := fg.put6 cw (.int .i64 0) (.int .i64 0) (.int .i64 0) (.bool false) (.bool false) (.bool false)
      clear HR r0 r1 r2 r3 r4 r5 x0 x1 x2 x3 x4 x5 f0 f1 f2 f3 f4 f5 hO cw
      generalize ((((((w4.setCell ⟨g, 0, none⟩ (.int .i64 0)).setCell ⟨g, 1, none⟩ (.int .i64 0)).setCell ⟨g, 2, none⟩ (.int .i64 0)).setCell ⟨g, 3, none⟩ (.bool false)).setCell ⟨g, 4, none⟩ (.bool false)).setCell ⟨g, 5, none⟩ (.bool false)) = w5 at *
      obtain ⟨r0, r1, r2, r3, r4, r5⟩ := hr2.cell6
      clear hr2
      refine bodyPost_ret (v := .tuple #[hdV 0 0 0 false false false, .int .i64 12]) (by simp [results, Tryz.results110, go_sem, r0, r1, r2, r3, r4, r5]) rfl ?_
      exact ⟨ret_any (by rw [HE.out.1, HE.out.2]), cw4⟩
    · have HE := hide (of_yes hO)
      go_wp2
      have hr2 : Blk ((((((w4.setCell ⟨g, 0, none⟩ (.int .i64 (n % 64))).setCell ⟨g, 1, none⟩ (.int .i64 (n / 64 % 16))).setCell ⟨g, 2, none⟩ (.int .i64 (n / 8192))).setCell ⟨g, 3, none⟩ (.bool (bitB n 1024))).setCell ⟨g, 4, none⟩ (.bool (bitB n 2048))).setCell ⟨g, 5, none⟩ (.bool (bitB n 4096))) g 103 [.int .i64 (n % 64), .int .i64 (n / 64 % 16), .int .i64 (n / 8192), .bool (bitB n 1024), .bool (bitB n 2048), .bool (bitB n 4096)] := HR.out.put6 (.int .i64 (n % 64)) (.int .i64 (n / 64 % 16)) (.int .i64 (n / 8192)) (.bool (bitB n 1024)) (.bool (bitB n 2048)) (.bool (bitB n 4096))
      have cw4 : Grow w ((((((w4.setCell ⟨g, 0, none⟩ (.int .i64 (n % 64))).setCell ⟨g, 1, none⟩ (.int .i64 (n / 64 % 16))).setCell ⟨g, 2, none⟩ (.int .i64 (n / 8192))).setCell ⟨g, 3, none⟩ (.bool (bitB n 1024))).setCell ⟨g, 4, none⟩ (.bool (bitB n 2048))).setCell ⟨g, 5, none⟩ (.bool (bitB n 4096))) := fg.put6 cw (.int .i64 (n % 64)) (.int .i64 (n / 64 % 16)) (.int .i64 (n / 8192)) (.bool (bitB n 1024)) (.bool (bitB n 2048)) (.bool (bitB n 4096))
      clear HR r0 r1 r2 r3 r4 r5 x0 x1 x2 x3 x4 x5 f0 f1 f2 f3 f4 f5 hO cw
      generalize ((((((w4.setCell ⟨g, 0, none⟩ (.int .i64 (n % 64))).setCell ⟨g, 1, none⟩ (.int .i64 (n / 64 % 16))).setCell ⟨g, 2, none⟩ (.int .i64 (n / 8192))).setCell ⟨g, 3, none⟩ (.bool (bitB n 1024))).setCell ⟨g, 4, none⟩ (.bool (bitB n 2048))).setCell ⟨g, 5, none⟩ (.bool (bitB n 4096))) = w5 at *
      obtain ⟨r0, r1, r2, r3, r4, r5⟩ := hr2.cell6
      clear hr2
      refine bodyPost_ret (v := .tuple #[hdV (n % 64) (n / 64 % 16) (n / 8192) (bitB n 1024) (bitB n 2048) (bitB n 4096), .int .i64 0]) (by simp [results, Tryz.results110, go_sem, r0, r1, r2, r3, r4, r5]) rfl ?_
      exact ⟨ret_any (by rw [HE.out.1, HE.out.2]), cw4⟩
end Go.Proofs.YtogfjclmohpjkaaGreatDoor.L4
/- What Older answers, and that the program is awake. Conditions: the age given is from 0 to 7. -/
namespace Go.Proofs.YtogfjclmohpjkaaGreatDoor.L4
open Go.ChangeShapes Go.WideShapes Go.ChangeAt Go.RowKit
set_option linter.unusedVariables false
set_option maxRecDepth 100000

def olA (A : Int) : Int := if A ≤ 6 then A + 1 else 7
set_option maxHeartbeats 1000000 in
theorem older_in (C A F : Int) (m f d : Bool) (w : World) (b0 : 0 ≤ A) (b1 : A ≤ 7) :
    Calls Tryz.prog 108 #[hdV C A F m f d] w fun e w' => e = .returned (hdV C (olA A) F m f d) ∧ Grow w w' := by
  have hB : (if A ≤ 6 then A else 6) = olA A - 1 := by unfold olA; split <;> omega
  have kmin : ∀ (ts : Array TypeId) (t : TypeId) (W : World), (Builtin.min_ ts t #[.int .i64 A, .int .i64 6]).run Tryz.prog W = .ok (.int .i64 (olA A - 1)) W := by
    intro ts t W
    rw [run_min_int2]; congr 2; split <;> omega
  have hl : 0 ≤ olA A ∧ olA A ≤ 7 := by unfold olA; split <;> omega
  generalize olA A = B at *
  obtain ⟨l1, l2⟩ := hl
  clear hB b0 b1
  go_enter Tryz.func108, Tryz.ntmps108
  go_wp2
  refine bodyPost_ret (v := hdV C B F m f d) (by simp [results, Tryz.results108, go_sem]) rfl ⟨rfl, (Grow.box _ _).alloc _⟩

theorem word_2179 (w : World) : Calls Tryz.prog 93 #[hdV 3 2 0 false true false] w fun e w' => e = .returned (.tuple #[.int .i64 2179, .int .i64 0]) ∧ Grow w w' := by
  have h := word_any 3 2 0 false true false w
  simpa only [show wdV 3 2 0 false true false = 2179 by decide, show wdX 3 2 0 true false = 0 by decide] using h
theorem of_2179 (w : World) : Calls Tryz.prog 111 #[.int .i64 2179] w fun e w' => e = .returned (.tuple #[hdV 3 2 0 false true false, .int .i64 0]) ∧ Grow w w' := by
  have h := of_any 2179 w
  simpa only [ofV, show ofX 2179 = 0 by decide, show ofC 2179 = 3 by decide, show ofA 2179 = 2 by decide, show ofF 2179 = 0 by decide, show ofM 2179 = false by decide, show ofN 2179 = true by decide, show ofD 2179 = false by decide] using h
section
variable {C A F : Int} {m f d b : Bool}
theorem word_yes (w : World) (hr : riB C A F f d = true) : Calls Tryz.prog 93 #[hdV C A F m f d] w fun e w' => e = .returned (.tuple #[.int .i64 (wd C A F m f d), .int .i64 0]) ∧ Grow w w' := by
  have h := word_any C A F m f d w
  simpa only [show wdV C A F m f d = wd C A F m f d by simp [wdV, hr], show wdX C A F f d = 0 by simp [wdX, hr]] using h
theorem word_no (w : World) (hr : riB C A F f d = false) : Calls Tryz.prog 93 #[hdV C A F m f d] w fun e w' => e = .returned (.tuple #[.int .i64 0, .int .i64 1]) ∧ Grow w w' := by
  have h := word_any C A F m f d w
  simpa only [show wdV C A F m f d = 0 by simp [wdV, hr], show wdX C A F f d = 1 by simp [wdX, hr]] using h
theorem right_is (w : World) (hr : riB C A F f d = b) : Calls Tryz.prog 116 #[hdV C A F m f d] w fun e w' => e = .returned (.bool b) ∧ Grow w w' := by
  have h := right_any C A F m f d w
  rwa [hr] at h
theorem rright_is (w : World) (hr : riB C A F f d = b) : Calls Tryz.prog 126 #[hdV C A F m f d] w fun e w' => e = .returned (.bool b) ∧ Grow w w' := by
  have h := rright_any C A F m f d w
  rwa [hr] at h
end
theorem fits_head {cs : List Value} (h : fits [some .i64, some .i64, some .i64, none, none, none] cs) :
    ∃ (C A F : Int) (m f d : Bool), cs = [.int .i64 C, .int .i64 A, .int .i64 F, .bool m, .bool f, .bool d] ∧ (Lit.int .i64 C).wf = true ∧ (Lit.int .i64 A).wf = true ∧ (Lit.int .i64 F).wf = true := by
  obtain ⟨C, c1, rfl, hC, h1⟩ := fits_int h
  obtain ⟨A, c2, rfl, hA, h2⟩ := fits_int h1
  obtain ⟨F, c3, rfl, hF, h3⟩ := fits_int h2
  obtain ⟨m, c4, rfl, h4⟩ := fits_bool h3
  obtain ⟨f, c5, rfl, h5⟩ := fits_bool h4
  obtain ⟨d, c6, rfl, h6⟩ := fits_bool h5
  obtain rfl := fits_nil h6
  exact ⟨C, A, F, m, f, d, rfl, hC, hA, hF⟩
end Go.Proofs.YtogfjclmohpjkaaGreatDoor.L4
/- A head that can be and its word tell each other. Conditions: none. -/
namespace Go.Proofs.YtogfjclmohpjkaaGreatDoor.L4
open Go.ChangeShapes Go.WideShapes Go.ChangeAt Go.RowKit
set_option linter.unusedVariables false
set_option maxRecDepth 100000

theorem b2i_bit (n k : Int) : b2i k (bitB n k) = if n / k % 2 = 1 then k else 0 := by simp [b2i, bitB]
theorem wd_of {n : Int} (h : ofB n = true) : wd (n % 64) (n / 64 % 16) (n / 8192) (bitB n 1024) (bitB n 2048) (bitB n 4096) = n := by
  obtain ⟨b1, b2, b3, b4, b5, b6, _⟩ := ri_true h
  unfold wd
  rw [b2i_bit, b2i_bit, b2i_bit]
  split <;> split <;> split <;> omega
theorem wd_parts {C A F : Int} {m f d : Bool} (hr : riB C A F f d = true) : wd C A F m f d % 64 = C ∧ wd C A F m f d / 64 % 16 = A ∧ wd C A F m f d / 8192 = F ∧ bitB (wd C A F m f d) 1024 = m ∧ bitB (wd C A F m f d) 2048 = f ∧ bitB (wd C A F m f d) 4096 = d := by
  obtain ⟨b1, b2, b3, b4, b5, b6, _⟩ := ri_true hr
  have e1 : b2i 1024 m = if m = true then 1024 else 0 := rfl
  have e2 : b2i 2048 f = if f = true then 2048 else 0 := rfl
  have e3 : b2i 4096 d = if d = true then 4096 else 0 := rfl
  unfold wd
  rw [e1, e2, e3]
  refine ⟨?_, ?_, ?_, ?_, ?_, ?_⟩
  · split <;> split <;> split <;> omega
  · split <;> split <;> split <;> omega
  · split <;> split <;> split <;> omega
  · cases m <;> simp only [bitB, Bool.false_eq_true, if_false, if_true, decide_eq_true_eq, decide_eq_false_iff_not] <;> split <;> split <;> omega
  · cases f <;> simp only [bitB, Bool.false_eq_true, if_false, if_true, decide_eq_true_eq, decide_eq_false_iff_not] <;> split <;> split <;> omega
  · cases d <;> simp only [bitB, Bool.false_eq_true, if_false, if_true, decide_eq_true_eq, decide_eq_false_iff_not] <;> split <;> split <;> omega
theorem ofB_wd {C A F : Int} {m f d : Bool} (hr : riB C A F f d = true) : ofB (wd C A F m f d) = true := by
  obtain ⟨e1, e2, e3, e4, e5, e6⟩ := wd_parts (m := m) hr
  unfold ofB
  rw [e1, e2, e3, e5, e6]
  exact hr
theorem ofV_wd {C A F : Int} {m f d : Bool} (hr : riB C A F f d = true) : ofV (wd C A F m f d) = hdV C A F m f d ∧ ofX (wd C A F m f d) = 0 := by
  obtain ⟨e1, e2, e3, e4, e5, e6⟩ := wd_parts (m := m) hr
  have h := of_yes (ofB_wd (m := m) hr)
  rw [h.2, e1, e2, e3, e4, e5, e6]
  exact ⟨rfl, h.1⟩
theorem word_ex {n : Int} (h : ofB n = true) : ∃ (C A F : Int) (m f d : Bool), n = wd C A F m f d ∧ riB C A F f d = true :=
  ⟨_, _, _, _, _, _, (wd_of h).symm, h⟩
theorem wd_inj {C A F C' A' F' : Int} {m f d m' f' d' : Bool} (hr : riB C A F f d = true) (hr' : riB C' A' F' f' d' = true) (h : wd C A F m f d = wd C' A' F' m' f' d') : C = C' ∧ A = A' ∧ F = F' ∧ m = m' ∧ f = f' ∧ d = d' := by
  obtain ⟨e1, e2, e3, e4, e5, e6⟩ := wd_parts (m := m) hr
  obtain ⟨g1, g2, g3, g4, g5, g6⟩ := wd_parts (m := m') hr'
  rw [h] at e1 e2 e3 e4 e5 e6
  exact ⟨e1.symm.trans g1, e2.symm.trans g2, e3.symm.trans g3, e4.symm.trans g4, e5.symm.trans g5, e6.symm.trans g6⟩
theorem wd_lt {C A F : Int} {m f d : Bool} (hr : riB C A F f d = true) : 0 ≤ wd C A F m f d ∧ wd C A F m f d < 33554432 := by
  obtain ⟨b1, b2, b3, b4, b5, b6, _⟩ := ri_true hr
  have m1 := b2i_bd 1024 (by decide) m
  have m2 := b2i_bd 2048 (by decide) f
  have m3 := b2i_bd 4096 (by decide) d
  unfold wd
  omega

section
variable {C A F : Int} {m f d : Bool}
theorem of_word (w : World) (hr : riB C A F f d = true) : Calls Tryz.prog 111 #[.int .i64 (wd C A F m f d)] w fun e w' => e = .returned (.tuple #[hdV C A F m f d, .int .i64 0]) ∧ Grow w w' := by
  have h := of_any (wd C A F m f d) w
  rwa [(ofV_wd hr).1, (ofV_wd hr).2] at h
theorem rof_word (w : World) (hr : riB C A F f d = true) : Calls Tryz.prog 110 #[.int .i64 (wd C A F m f d)] w fun e w' => e = .returned (.tuple #[hdV C A F m f d, .int .i64 0]) ∧ Grow w w' := by
  have h := rof_any (wd C A F m f d) w
  rwa [(ofV_wd hr).1, (ofV_wd hr).2] at h
theorem of_not {n : Int} (w : World) (hr : ofB n = false) : Calls Tryz.prog 111 #[.int .i64 n] w fun e w' => e = .returned (.tuple #[hdV 0 0 0 false false false, .int .i64 12]) ∧ Grow w w' := by
  have h := of_any n w
  rwa [(of_no hr).1, (of_no hr).2] at h
theorem rof_not {n : Int} (w : World) (hr : ofB n = false) : Calls Tryz.prog 110 #[.int .i64 n] w fun e w' => e = .returned (.tuple #[hdV 0 0 0 false false false, .int .i64 12]) ∧ Grow w w' := by
  have h := rof_any n w
  rwa [(of_no hr).1, (of_no hr).2] at h
theorem word_0 (w : World) : Calls Tryz.prog 93 #[hdV 0 0 0 false false false] w fun e w' => e = .returned (.tuple #[.int .i64 0, .int .i64 0]) ∧ Grow w w' := by
  have h := word_yes (C := 0) (A := 0) (F := 0) (m := false) (f := false) (d := false) w (by decide)
  simpa only [show wd 0 0 0 false false false = 0 by decide] using h
end
theorem sameH (C A F C' A' F' : Int) (m f d m' f' d' : Bool) (W : World) :
    (Op.equalIn 10000 123 (.agg #[.int .i64 C, .int .i64 A, .int .i64 F, .bool m, .bool f, .bool d]) (.agg #[.int .i64 C', .int .i64 A', .int .i64 F', .bool m', .bool f', .bool d'])).run Tryz.prog W = .ok (decide (C = C' ∧ A = A' ∧ F = F' ∧ m = m' ∧ f = f' ∧ d = d')) W := by
  go_simp
  by_cases h1 : C = C' <;> by_cases h2 : A = A' <;> by_cases h3 : F = F' <;> cases m <;> cases m' <;> cases f <;> cases f' <;> cases d <;> cases d' <;> simp [h1, h2, h3, go_sem]
theorem sameR (C A F C' A' F' : Int) (m f d m' f' d' : Bool) (W : World) :
    (Op.equalIn 10000 103 (.agg #[.int .i64 C, .int .i64 A, .int .i64 F, .bool m, .bool f, .bool d]) (.agg #[.int .i64 C', .int .i64 A', .int .i64 F', .bool m', .bool f', .bool d'])).run Tryz.prog W = .ok (decide (C = C' ∧ A = A' ∧ F = F' ∧ m = m' ∧ f = f' ∧ d = d')) W := by
  go_simp
  by_cases h1 : C = C' <;> by_cases h2 : A = A' <;> by_cases h3 : F = F' <;> cases m <;> cases m' <;> cases f <;> cases f' <;> cases d <;> cases d' <;> simp [h1, h2, h3, go_sem]
end Go.Proofs.YtogfjclmohpjkaaGreatDoor.L4

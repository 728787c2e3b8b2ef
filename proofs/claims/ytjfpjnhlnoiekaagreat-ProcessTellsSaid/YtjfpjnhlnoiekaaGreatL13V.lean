/- Reference processing: the functions that the laws pass. Conditions: the names of nodes are below 64. -/
import Derived.Test.YtjfpjnhlnoiekaaGreatL13R
namespace Go.Proofs.YtjfpjnhlnoiekaaGreat.L13
open Go.ChangeShapes Go.WideShapes Go.ChangeAt Go.RowKit
open Go.Proofs.YtjfpjnhlnoiekaaGreat.L9 (Nd nd In64 ptr)
set_option linter.unusedVariables false
theorem and_one (B k : Nat) (hB : B < 18446744073709551616) : (bits BinOp.and .u64 ((B : Int) / 2 ^ (k % 64)) 1 == 1) = B.testBit (k % 64) := by
  have e : ((B : Int) / 2 ^ (k % 64)) = ((B / 2 ^ (k % 64) : Nat) : Int) := by simp
  have hl : B / 2 ^ (k % 64) < 18446744073709551616 := Nat.lt_of_le_of_lt (Nat.div_le_self _ _) hB
  rw [e, show (1 : Int) = ((1 : Nat) : Int) from rfl, bits_and_u64_nat _ _ hl (by omega), Nat.testBit_eq_decide_div_mod_eq]
  have h1 : B / 2 ^ (k % 64) &&& 1 = B / 2 ^ (k % 64) % 2 := Nat.and_one_is_mod _
  rw [h1, Bool.eq_iff_iff]
  simp only [beq_iff_eq, decide_eq_true_eq]
  omega
/-- Is the aim of the node with a name kept, by a number's bits? -/
def kB (B : Nat) (i : Int) : Bool := B.testBit (i.toNat % 64)
def isB (b : Int) : Prop := 0 ≤ b ∧ b < 18446744073709551616
section
variable {w W : World} {L : List Nd} {B C : Nat} {b2 b3 : Nat} {al : Bool}
set_option maxRecDepth 100000 in
theorem kept_any (B : Nat) (hB : B < 18446744073709551616) (k : Nat) (hk : k < 64) (w : World) :
    Calls Tryz.prog 8 #[.int .i64 k, .int .u64 B] w fun e w' => e = .returned (.bool (kB B k)) ∧ w = w' := by
  have HX := hide (and_one B k hB)
  clear hB
  go_enter Tryz.func8, Tryz.ntmps8
  go_wp2
  go_ret
  exact ⟨ret_bool HX.out, rfl⟩
/-- The names of nodes are small. -/
def Small (L : List Nd) : Prop := ∀ i, nd L i ≠ none → ∃ k : Nat, i = k ∧ k < 64
set_option maxRecDepth 100000 in
theorem keeps_tells (h2 : Blk w b2 28 [.int .u64 B]) (hB : B < 18446744073709551616) (hs : Small L) : Keeps w L (kB B) 7 #[ptr b2] := by
  intro W i c a n ca b m cb fn g hn
  obtain ⟨k, rfl, hk⟩ := hs i hn
  have k2 := g.cell (h2.cell 0)
  have HK := hide (fun (W : World) => kept_any B hB k hk W)
  have gB := Grow.box W (.cells [.int .i64 k, .int .i64 c, .slice a n ca, .slice b m cb, .bool fn].toArray 38)
  replace k2 := gB.cell k2
  have HG := hide gB
  clear hs hn h2 hB hk g gB
  go_enter Tryz.func7, Tryz.ntmps7
  go_wp2_with fail
  refine (HK.out _).mono ?_
  rintro e w' ⟨rfl, rfl⟩
  go_wp2
  go_ret
  exact ⟨rfl, HG.out⟩
theorem kB_or (B C : Nat) (i : Int) (h : kB B i = true) : kB (B ||| C) i = true := by
  unfold kB at *
  rw [Nat.testBit_or, h]
  rfl
end
end Go.Proofs.YtjfpjnhlnoiekaaGreat.L13

/- Reference processing: the functions that the laws pass. Conditions: the names of nodes are below 64. -/
import Derived.Test.YtnhhlonnbeaooaaL13R
namespace Go.Proofs.Ytnhhlonnbeaooaa.L13
open Go.ChangeShapes Go.WideShapes Go.ChangeAt Go.RowKit
open Go.Proofs.Ytnhhlonnbeaooaa.L9 (Nd nd In64 ptr)
set_option linter.unusedVariables false
theorem and_one (B k : Nat) (hB : B < 18446744073709551616) : (bits BinOp.and .u64 ((B : Int) / 2 ^ (k % 64)) 1 == 1) = B.testBit (k % 64) := by
  have e : ((B : Int) / 2 ^ (k % 64)) = ((B / 2 ^ (k % 64) : Nat) : Int) := by simp
  have hl : B / 2 ^ (k % 64) < 18446744073709551616 := Nat.lt_of_le_of_lt (Nat.div_le_self _ _) hB
  rw [e, show (1 : Int) = ((1 : Nat) : Int) from rfl, bits_and_u64_nat _ _ hl (by omega), Nat.testBit_eq_decide_div_mod_eq]
  have h1 : B / 2 ^ (k % 64) &&& 1 = B / 2 ^ (k % 64) % 2 := Nat.and_one_is_mod _
  rw [h1, Bool.eq_iff_iff]
  simp only [beq_iff_eq, decide_eq_true_eq]
  omega
/-- Is the aim of the node with a name kept, by a number's bits? -/
def kB (B : Nat) (i : Int) : Bool := B.testBit (i.toNat % 64)
def isB (b : Int) : Prop := 0 ≤ b ∧ b < 18446744073709551616
section
variable {w W : World} {L : List Nd} {B C : Nat} {b2 b3 : Nat} {al : Bool}
set_option maxRecDepth 100000 in
theorem kept_any (B : Nat) (hB : B < 18446744073709551616) (k : Nat) (hk : k < 64) (w : World) :
    Calls Try.prog 13 #[.int .i64 k, .int .u64 B] w fun e w' => e = .returned (.bool (kB B k)) ∧ w = w' := by
  have HX := hide (and_one B k hB)
  clear hB
  go_enter Try.func13, Try.ntmps13
  go_wp2
  go_ret
  exact ⟨ret_bool HX.out, rfl⟩
/-- The names of nodes are small. -/
def Small (L : List Nd) : Prop := ∀ i, nd L i ≠ none → ∃ k : Nat, i = k ∧ k < 64
set_option maxRecDepth 100000 in
theorem keeps_closes (h2 : Blk w b2 28 [.int .u64 B]) (hB : B < 18446744073709551616) (hs : Small L) : Keeps w L (kB B) 20 #[ptr b2] := by
  intro W i c a n ca b m cb fn g hn
  obtain ⟨k, rfl, hk⟩ := hs i hn
  have k2 := g.cell (h2.cell 0)
  have HK := hide (fun (W : World) => kept_any B hB k hk W)
  have gB := Grow.box W (.cells [.int .i64 k, .int .i64 c, .slice a n ca, .slice b m cb, .bool fn].toArray 38)
  replace k2 := gB.cell k2
  have HG := hide gB
  clear hs hn h2 hB hk g gB
  go_enter Try.func20, Try.ntmps20
  go_wp2_with fail
  refine (HK.out _).mono ?_
  rintro e w' ⟨rfl, rfl⟩
  go_wp2
  go_ret
  exact ⟨rfl, HG.out⟩
set_option maxRecDepth 100000 in
theorem keeps_again (h2 : Blk w b2 28 [.int .u64 B]) (hB : B < 18446744073709551616) (hs : Small L) : Keeps w L (kB B) 25 #[ptr b2] := by
  intro W i c a n ca b m cb fn g hn
  obtain ⟨k, rfl, hk⟩ := hs i hn
  have k2 := g.cell (h2.cell 0)
  have HK := hide (fun (W : World) => kept_any B hB k hk W)
  have gB := Grow.box W (.cells [.int .i64 k, .int .i64 c, .slice a n ca, .slice b m cb, .bool fn].toArray 38)
  replace k2 := gB.cell k2
  have HG := hide gB
  clear hs hn h2 hB hk g gB
  go_enter Try.func25, Try.ntmps25
  go_wp2_with fail
  refine (HK.out _).mono ?_
  rintro e w' ⟨rfl, rfl⟩
  go_wp2
  go_ret
  exact ⟨rfl, HG.out⟩
set_option maxRecDepth 100000 in
theorem keeps_soft1 (h2 : Blk w b2 28 [.int .u64 B]) (hB : B < 18446744073709551616) (hs : Small L) : Keeps w L (kB B) 28 #[ptr b2] := by
  intro W i c a n ca b m cb fn g hn
  obtain ⟨k, rfl, hk⟩ := hs i hn
  have k2 := g.cell (h2.cell 0)
  have HK := hide (fun (W : World) => kept_any B hB k hk W)
  have gB := Grow.box W (.cells [.int .i64 k, .int .i64 c, .slice a n ca, .slice b m cb, .bool fn].toArray 38)
  replace k2 := gB.cell k2
  have HG := hide gB
  clear hs hn h2 hB hk g gB
  go_enter Try.func28, Try.ntmps28
  go_wp2_with fail
  refine (HK.out _).mono ?_
  rintro e w' ⟨rfl, rfl⟩
  go_wp2
  go_ret
  exact ⟨rfl, HG.out⟩
set_option maxRecDepth 100000 in
theorem keeps_soft2 (h2 : Blk w b2 28 [.int .u64 B]) (h3 : Blk w b3 28 [.int .u64 C]) (hB : B < 18446744073709551616) (hC : C < 18446744073709551616) (hs : Small L) : Keeps w L (kB (B ||| C)) 29 #[ptr b2, ptr b3] := by
  intro W i c a n ca b m cb fn g hn
  obtain ⟨k, rfl, hk⟩ := hs i hn
  have k2 := g.cell (h2.cell 0)
  have k3 := g.cell (h3.cell 0)
  have hor : bits BinOp.or .u64 (B : Int) (C : Int) = ((B ||| C : Nat) : Int) := bits_or_u64_nat B C hB hC
  have hD : B ||| C < 18446744073709551616 := Nat.or_lt_two_pow (n := 64) hB hC
  obtain ⟨D, hDD⟩ : ∃ D, B ||| C = D := ⟨_, rfl⟩
  rw [hDD] at hor hD ⊢
  have HK := hide (fun (W : World) => kept_any D hD k hk W)
  have gB := Grow.box W (.cells [.int .i64 k, .int .i64 c, .slice a n ca, .slice b m cb, .bool fn].toArray 38)
  replace k2 := gB.cell k2
  replace k3 := gB.cell k3
  have HG := hide gB
  clear hs hn h2 h3 hB hC hD hk g gB hDD
  go_enter Try.func29, Try.ntmps29
  go_wp2_with fail
  refine (HK.out _).mono ?_
  rintro e w' ⟨rfl, rfl⟩
  go_wp2
  go_ret
  exact ⟨rfl, HG.out⟩
set_option maxRecDepth 100000 in
theorem keeps_strong (h2 : Blk w b2 28 [.int .u64 B]) (h3 : Blk w b3 4 [.bool al]) (hB : B < 18446744073709551616) (hs : Small L) : Keeps w L (fun i => al || kB B i) 12 #[ptr b3, ptr b2] := by
  intro W i c a n ca b m cb fn g hn
  obtain ⟨k, rfl, hk⟩ := hs i hn
  have k2 := g.cell (h2.cell 0)
  have k3 := g.cell (h3.cell 0)
  have HK := hide (fun (W : World) => kept_any B hB k hk W)
  have gB := Grow.box W (.cells [.int .i64 k, .int .i64 c, .slice a n ca, .slice b m cb, .bool fn].toArray 38)
  replace k2 := gB.cell k2
  replace k3 := gB.cell k3
  have HG := hide gB
  clear hs hn h2 h3 hB hk g gB
  cases al with
  | true =>
    go_enter Try.func12, Try.ntmps12
    go_wp2
    go_ret
    exact ⟨by simp, HG.out⟩
  | false =>
    go_enter Try.func12, Try.ntmps12
    go_wp2_with fail
    refine (HK.out _).mono ?_
    rintro e w' ⟨rfl, rfl⟩
    go_wp2
    go_ret
    exact ⟨by simp, HG.out⟩
set_option maxRecDepth 100000 in
theorem keeps_again2 : Keeps w L (fun _ => true) 26 #[] := by
  intro W i c a n ca b m cb fn g hn
  clear g hn
  go_enter Try.func26, Try.ntmps26
  go_wp2
  go_ret
  exact ⟨rfl, Grow.box _ _⟩
set_option maxRecDepth 100000 in
theorem keeps_plain : Keeps w L (fun _ => true) 27 #[] := by
  intro W i c a n ca b m cb fn g hn
  clear g hn
  go_enter Try.func27, Try.ntmps27
  go_wp2
  go_ret
  exact ⟨rfl, Grow.box _ _⟩
set_option maxRecDepth 100000 in
theorem keeps_soft3 : Keeps w L (fun _ => true) 30 #[] := by
  intro W i c a n ca b m cb fn g hn
  clear g hn
  go_enter Try.func30, Try.ntmps30
  go_wp2
  go_ret
  exact ⟨rfl, Grow.box _ _⟩
theorem kB_or (B C : Nat) (i : Int) (h : kB B i = true) : kB (B ||| C) i = true := by
  unfold kB at *
  rw [Nat.testBit_or, h]
  rfl
end
end Go.Proofs.Ytnhhlonnbeaooaa.L13

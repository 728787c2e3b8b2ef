/- What Word answers, of package head and of package gleaningref04; it changes nothing but makes new memory. Conditions: the numbers given fit their kinds. -/
import Derived.Test.YtgknndbahdjghaaL4Head
namespace Go.Proofs.Ytgknndbahdjghaa.L4
open Go.ChangeShapes Go.WideShapes Go.ChangeAt Go.RowKit
set_option linter.unusedVariables false

set_option maxHeartbeats 400000 in
theorem put_any (at_ : Nat) (b : Bool) (x : Int) (g : Nat) (w : World) (ha : at_ ≤ 20) (h0 : 0 ≤ x) (h1 : x < 2 ^ 30) (hb : x / 2 ^ at_ % 2 = 0) (hg : Blk w g 3 [.int .i64 x]) :
    Calls Try.prog 47 #[.int .u64 at_, .bool b, .pointer (some ⟨g, 0, none⟩)] w fun e w' => e = .returned (.tuple #[]) ∧ Blk w' g 3 [.int .i64 (x + b2i (2 ^ at_) b)] ∧ Chg (· = g) w w' := by
  cases b
  · go_enter Try.func47, Try.ntmps47
    go_wp2
    go_returns
    exact ⟨rfl, by simpa [b2i] using hg, Chg.refl _ _⟩
  · have c0 : w.cell? ⟨g, 0, none⟩ = some (.int .i64 x) := hg.cell 0
    have f0 := hg.frozen 0
    have hp : (2 : Int) ^ at_ ≤ 2 ^ 20 := by
      have : (2 : Nat) ^ at_ ≤ 2 ^ 20 := Nat.pow_le_pow_right (by decide) ha
      exact_mod_cast this
    have hp0 : (0 : Int) ≤ 2 ^ at_ := by have : 0 ≤ (2 : Nat) ^ at_ := Nat.zero_le _; exact_mod_cast this
    have e1 : wrap64 ((2 : Int) ^ at_) = 2 ^ at_ := wrap64_id _ (by omega)
    have e2 : bits .or .i64 x (2 ^ at_) = x + 2 ^ at_ := i64_or_bit x at_ ha h0 (by omega) hb
    clear hp hp0
    have HG := hide hg
    clear hg
    go_enter Try.func47, Try.ntmps47
    go_wp2
    go_returns
    exact ⟨rfl, by simpa [b2i] using HG.out.set_ 0 (.int .i64 (x + 2 ^ at_)), Chg.setCell (Chg.refl (fun k => k = g) w) (p := ⟨g, 0, none⟩) (fun _ => rfl) _⟩

theorem put10 (b : Bool) (x : Int) (g : Nat) (w : World) (h0 : 0 ≤ x) (h1 : x < 2 ^ 30) (hb : x / 1024 % 2 = 0) (hg : Blk w g 3 [.int .i64 x]) :
    Calls Try.prog 47 #[.int .u64 10, .bool b, .pointer (some ⟨g, 0, none⟩)] w fun e w' => e = .returned (.tuple #[]) ∧ Blk w' g 3 [.int .i64 (x + b2i 1024 b)] ∧ Chg (· = g) w w' :=
  put_any 10 b x g w (by decide) h0 h1 hb hg
theorem put11 (b : Bool) (x : Int) (g : Nat) (w : World) (h0 : 0 ≤ x) (h1 : x < 2 ^ 30) (hb : x / 2048 % 2 = 0) (hg : Blk w g 3 [.int .i64 x]) :
    Calls Try.prog 47 #[.int .u64 11, .bool b, .pointer (some ⟨g, 0, none⟩)] w fun e w' => e = .returned (.tuple #[]) ∧ Blk w' g 3 [.int .i64 (x + b2i 2048 b)] ∧ Chg (· = g) w w' :=
  put_any 11 b x g w (by decide) h0 h1 hb hg
theorem put12 (b : Bool) (x : Int) (g : Nat) (w : World) (h0 : 0 ≤ x) (h1 : x < 2 ^ 30) (hb : x / 4096 % 2 = 0) (hg : Blk w g 3 [.int .i64 x]) :
    Calls Try.prog 47 #[.int .u64 12, .bool b, .pointer (some ⟨g, 0, none⟩)] w fun e w' => e = .returned (.tuple #[]) ∧ Blk w' g 3 [.int .i64 (x + b2i 4096 b)] ∧ Chg (· = g) w w' :=
  put_any 12 b x g w (by decide) h0 h1 hb hg

set_option maxHeartbeats 1000000 in
theorem word_any (C A F : Int) (m f d : Bool) (w : World) :
    Calls Try.prog 31 #[hdV C A F m f d] w fun e w' => e = .returned (.tuple #[.int .i64 (wdV C A F m f d), .int .i64 (wdX C A F f d)]) ∧ Grow w w' := by
  have hs := Blk.new w 45 [.int .i64 C, .int .i64 A, .int .i64 F, .bool m, .bool f, .bool d]
  have cs := Grow.box w (.cells [.int .i64 C, .int .i64 A, .int .i64 F, .bool m, .bool f, .bool d].toArray 45)
  cases hr : riB C A F f d
  · have HE := hide (show wdV C A F m f d = 0 ∧ wdX C A F f d = 1 by simp [wdV, wdX, hr])
    have HR := hide hr
    clear hr
    go_enter Try.func31, Try.ntmps31
    go_wp2_with fail
    refine (right_any C A F m f d _).mono ?_
    rintro e w1 ⟨rfl, c1⟩
    have hr := HR.out
    go_wp2
    go_returns
    exact ⟨ret_any (by rw [HE.out.1, HE.out.2]; rfl), cs.trans c1⟩
  · obtain ⟨b1, b2, b3, b4, b5, b6, b7⟩ := ri_true hr
    have HE := hide (show wdV C A F m f d = wd C A F m f d ∧ wdX C A F f d = 0 by simp [wdV, wdX, hr])
    have HR := hide hr
    clear hr
    have hmf : ∀ (fn : Fn) (first cap : Array Value) (w : World), (Instr.makeFunc fn first cap).run Try.prog w = .ok (.func fn first cap) w := fun _ _ _ _ => rfl
    go_enter Try.func31, Try.ntmps31
    go_wp2_with fail
    refine (right_any C A F m f d _).mono ?_
    rintro e w1 ⟨rfl, c1⟩
    have hr := HR.out
    replace hs := hs.chg c1 id
    replace cs := cs.trans c1
    obtain ⟨s, hS⟩ : ∃ s, s = w.heap.size := ⟨_, rfl⟩
    have hwg : w.heap.size ≤ w1.heap.size := cs.size
    rw [← hS] at hs ⊢
    clear hS c1
    obtain ⟨X, hX⟩ : ∃ X, X = C + A * 64 + F * 8192 := ⟨_, rfl⟩
    have e1 : bits .or .i64 C (A * 64) = C + A * 64 := i64_or_low C (A * 64) 6 b1 (by omega) (by decide) (by omega) (by omega) (by omega)
    have e2 : bits .or .i64 (C + A * 64) (F * 8192) = X := by rw [hX]; exact i64_or_low (C + A * 64) (F * 8192) 13 (by omega) (by omega) (by decide) (by omega) (by omega) (by omega)
    have a0 : w1.cell? ⟨s, 0, none⟩ = some (.int .i64 C) := hs.cell 0
    have a1 : w1.cell? ⟨s, 1, none⟩ = some (.int .i64 A) := hs.cell 1
    have a2 : w1.cell? ⟨s, 2, none⟩ = some (.int .i64 F) := hs.cell 2
    have hx := Blk.new w1 3 [.int .i64 X]
    have hs' := hs.alloc (.cells [.int .i64 X].toArray 3)
    have cs' := cs.alloc (.cells [.int .i64 X].toArray 3)
    have a3 : (w1.alloc (.cells #[.int .i64 X] 3)).cell? ⟨s, 3, none⟩ = some (.bool m) := hs'.cell 3
    have HX := hide hX
    have nsx : s ≠ w1.heap.size := by have := hs.lt; omega
    clear hX
    go_wp2_with fail
    clear a0 a1 a2 a3 e1 e2 hs cs
    generalize w1.alloc (.cells #[.int .i64 X] 3) = w2 at *
    generalize w1.heap.size = g at *
    have hX := HX.out
    have m0 := b2i_bd 1024 (by decide) m
    have m1 : b2i 1024 m = 0 ∨ b2i 1024 m = 1024 := by cases m <;> simp [b2i]
    have m2 : b2i 2048 f = 0 ∨ b2i 2048 f = 2048 := by cases f <;> simp [b2i]
    have g0 : 0 ≤ X ∧ X < 2 ^ 30 ∧ X / 1024 % 2 = 0 := by omega
    have g1 : 0 ≤ X + b2i 1024 m ∧ X + b2i 1024 m < 2 ^ 30 ∧ (X + b2i 1024 m) / 2048 % 2 = 0 := by omega
    have g2 : 0 ≤ X + b2i 1024 m + b2i 2048 f ∧ X + b2i 1024 m + b2i 2048 f < 2 ^ 30 ∧ (X + b2i 1024 m + b2i 2048 f) / 4096 % 2 = 0 := by omega
    have hE : X + b2i 1024 m + b2i 2048 f + b2i 4096 d = wd C A F m f d := by unfold wd; omega
    have HH := hide (And.intro hE HE.out)
    clear HE HX hX m0 m1 m2 hE b1 b2 b3 b4 b5 b6 b7
    have G1 := hide g1
    have G2 := hide g2
    have nsg : ¬ s = g := nsx
    refine (put10 m X g w2 g0.1 g0.2.1 g0.2.2 hx).mono ?_
    rintro e w3 ⟨rfl, hx3, c3⟩
    replace hs' := hs'.chg c3 nsg
    replace cs' := cs'.step c3 (fun i hi h => by omega)
    clear hx c3 g0 g1 g2 nsx hmf hr
    have a4 : w3.cell? ⟨s, 4, none⟩ = some (.bool f) := hs'.cell 4
    go_wp2_with fail
    refine (put11 f _ g w3 G1.out.1 G1.out.2.1 G1.out.2.2 hx3).mono ?_
    rintro e w4 ⟨rfl, hx4, c4⟩
    replace hs' := hs'.chg c4 nsg
    replace cs' := cs'.step c4 (fun i hi h => by omega)
    clear hx3 c4 a4
    have a5 : w4.cell? ⟨s, 5, none⟩ = some (.bool d) := hs'.cell 5
    go_wp2_with fail
    refine (put12 d _ g w4 G2.out.1 G2.out.2.1 G2.out.2.2 hx4).mono ?_
    rintro e w5 ⟨rfl, hx5, c5⟩
    replace cs' := cs'.step c5 (fun i hi h => by omega)
    clear hx4 c5 a5
    rw [HH.out.1] at hx5
    have x0 : w5.cell? ⟨g, 0, none⟩ = some (.int .i64 (wd C A F m f d)) := hx5.cell 0
    go_wp2
    go_returns
    exact ⟨ret_any (by rw [HH.out.2.1, HH.out.2.2]; rfl), cs'⟩
end Go.Proofs.Ytgknndbahdjghaa.L4

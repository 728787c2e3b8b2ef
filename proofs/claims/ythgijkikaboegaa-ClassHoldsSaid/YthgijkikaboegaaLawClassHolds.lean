/- For all classes and numbers ClassHolds answers true: of a reference class all references hold but the first one, of any other class all do. Conditions: none. -/
import Derived.Test.YthgijkikaboegaaAwake
import Derived.ShutString
namespace Go.Proofs.Ythgijkikaboegaa.classHolds
open Go.ChangeShapes Go.WideShapes Go.ChangeAt Go.RowKit
set_option linter.unusedVariables false

set_option maxHeartbeats 1000000 in
theorem walk_long (a : Option Addr) (len cap : Nat) (n l : Int) (w : World) (hl : 100 < len) :
    Calls Try.prog 6 #[.slice a len cap, .int .u8 n, .int .i64 l] w fun e w' => e = .returned (.bool true) ∧ Below w.heap.size w w' := by
  go_enter Try.func6, Try.ntmps6
  go_wp2_with fail
  refine (awake_any _).mono ?_
  rintro e wa ⟨rfl, ca⟩
  go_wp2_with fail
  refine (awake_any _).mono ?_
  rintro e wb ⟨rfl, cb⟩
  go_wp2
  go_ret
  exact ⟨rfl, (ca.trans cb).below (fun _ _ h => h) (Nat.le_refl _)⟩
set_option maxHeartbeats 1000000 in
theorem walk_nil (a : Option Addr) (cap : Nat) (n l : Int) (w : World) :
    Calls Try.prog 6 #[.slice a 0 cap, .int .u8 n, .int .i64 l] w fun e w' => e = .returned (.bool true) ∧ Below w.heap.size w w' := by
  go_enter Try.func6, Try.ntmps6
  go_wp2_with fail
  refine (awake_any _).mono ?_
  rintro e wa ⟨rfl, ca⟩
  go_wp2_with fail
  refine (awake_any _).mono ?_
  rintro e wb ⟨rfl, cb⟩
  go_wp2
  go_ret
  exact ⟨rfl, (ca.trans cb).below (fun _ _ h => h) (Nat.le_refl _)⟩
set_option maxHeartbeats 1000000 in
theorem walk_no (a : Option Addr) (len cap : Nat) (cs : List Cl) (n l : Int) (w : World) (h : IsCls w a len cap cs) (h0 : 0 < len) (hl : len ≤ 100) (hX : newX cs ≠ 0) :
    Calls Try.prog 6 #[.slice a len cap, .int .u8 n, .int .i64 l] w fun e w' => e = .returned (.bool true) ∧ Below w.heap.size w w' := by
  obtain ⟨X, hX'⟩ : ∃ X, newX cs = X := ⟨_, rfl⟩
  rw [hX'] at hX
  have HX := hide hX'
  have H0 := hide hX
  have hx' : (X != 0) = true := by simpa using hX
  clear hX hX'
  have H := hide h
  have h0' : ((len : Int) == 0) = false := by simp; omega
  have hl' : decide ((len : Int) > 100) = false := by simp; omega
  clear h
  go_enter Try.func6, Try.ntmps6
  go_wp2_with fail
  refine (awake_any _).mono ?_
  rintro e wa ⟨rfl, ca⟩
  go_wp2_with fail
  refine (new_no _ (H.out.chg ca (fun _ _ => id)) hl HX.out H0.out).mono ?_
  rintro e w1 ⟨rfl, c1⟩
  go_wp2
  go_ret
  exact ⟨rfl, (ca.trans c1).below (fun _ _ h => h) (Nat.le_refl _)⟩
set_option maxHeartbeats 2000000 in
theorem soft_neg (a : Option Addr) (len cap : Nat) (cs : List Cl) (N j : Nat) (K R D : Int) (f : Bool) (l : Int) (w : World) (h : IsCls w a len cap cs) (h0 : 0 < len) (hl : len ≤ 100) (hX : newX cs = 0) (hN : N ≤ 255) (hm : (N : Int) % (len : Int) = j) (hj : j < len) (hc : cs[j]? = some ⟨3, R, D, f⟩)  (hl2 : (l < 0)) :
    Calls Try.prog 6 #[.slice a len cap, .int .u8 N, .int .i64 l] w fun e w' => e = .returned (.bool true) ∧ Below w.heap.size w w' := by
  have HL := hide (show cs.length ≤ 100 by rw [h.len]; exact hl)
  have ho : clAt cs (1 + (j : Int)) = some ⟨3, R, D, f⟩ := by rw [Int.add_comm]; exact clAt_at hc
  have hi : isRf 3 = true := (rfl)
  have B0 := hide (show hoB (clAt cs (1 + (j : Int))) 0 = !true by rw [ho]; simp [hoB, hi])
  have B1 := hide (show hoB (clAt cs (1 + (j : Int))) 1 = true by rw [ho]; simp [hoB])
  have B2 := hide (show hoB (clAt cs (1 + (j : Int))) l = false by rw [ho]; simp [hoB, hi]; omega)
  have B3 := hide (show hoB (clAt cs 0) l = false by rw [clAt_out (Or.inl (by omega))]; rfl)
  have B4 := hide (show hoB (clAt cs ((len : Int) + 1)) l = false by rw [clAt_out (Or.inr (by rw [h.len]; omega))]; rfl)
  have HX := hide hX
  have HC := hide hc
  clear hX hc ho hi
  (have q1 : decide (0 < l) = false := by simp; omega)
  (have q2 : (l == 0) = false := by simp; omega)
  have H := hide h
  have h0' : ((len : Int) == 0) = false := by simp; omega
  have hl' : decide ((len : Int) > 100) = false := by simp; omega
  clear h
  go_enter Try.func6, Try.ntmps6
  go_wp2_with fail
  refine (awake_any _).mono ?_
  rintro e wa ⟨rfl, ca⟩
  go_wp2_with fail
  refine (new_yes _ (H.out.chg ca (fun _ _ => id)) hl HX.out).mono ?_
  rintro e w1 ⟨g, v, rfl, ht, c1⟩
  have cc := ca.trans c1
  have HT := hide ht
  clear ht ca c1
  obtain ⟨b, off, c, rfl, hc', ⟨e0, e1, e2, e3⟩, -⟩ := (H.out.chg cc (fun _ _ => id)).at_ hj
  rw [HC.out] at hc'
  injection hc' with hc'
  subst hc'
  dsimp only at e0 e1 e2 e3
  clear H
  have cb := Grow.box w1 (.cells [.int .i64 3, .int .i64 R, .int .i64 D, .bool f].toArray 26)
  replace HT := hide (HT.out.grow cb)
  replace cc := cc.trans cb
  clear cb
  go_wp2_with fail
  clear e0 e1 e2 e3
  generalize w1.alloc (.cells #[.int .i64 3, .int .i64 R, .int .i64 D, .bool f] 26) = w2 at *
  refine (holds_is HT.out HL.out B0.out).mono ?_
  rintro e w3 ⟨rfl, c2⟩
  replace cc := cc.trans c2
  replace HT := hide (HT.out.grow c2)
  clear c2
  go_wp2_with fail
  refine (holds_is HT.out HL.out B1.out).mono ?_
  rintro e w4 ⟨rfl, c2⟩
  replace cc := cc.trans c2
  replace HT := hide (HT.out.grow c2)
  clear c2
  go_wp2_with fail
  refine (holds_is HT.out HL.out B2.out).mono ?_
  rintro e w5 ⟨rfl, c2⟩
  replace cc := cc.trans c2
  replace HT := hide (HT.out.grow c2)
  clear c2
  go_wp2_with fail
  refine (holds_is HT.out HL.out B3.out).mono ?_
  rintro e w6 ⟨rfl, c2⟩
  replace cc := cc.trans c2
  replace HT := hide (HT.out.grow c2)
  clear c2
  go_wp2_with fail
  refine (holds_is HT.out HL.out B4.out).mono ?_
  rintro e w7 ⟨rfl, c2⟩
  go_wp2
  go_ret
  exact ⟨rfl, (cc.trans c2).below (fun _ _ h => h) (Nat.le_refl _)⟩
set_option maxHeartbeats 2000000 in
theorem soft_zero (a : Option Addr) (len cap : Nat) (cs : List Cl) (N j : Nat) (K R D : Int) (f : Bool) (l : Int) (w : World) (h : IsCls w a len cap cs) (h0 : 0 < len) (hl : len ≤ 100) (hX : newX cs = 0) (hN : N ≤ 255) (hm : (N : Int) % (len : Int) = j) (hj : j < len) (hc : cs[j]? = some ⟨3, R, D, f⟩)  (hl2 : (l = 0)) :
    Calls Try.prog 6 #[.slice a len cap, .int .u8 N, .int .i64 l] w fun e w' => e = .returned (.bool true) ∧ Below w.heap.size w w' := by
  have HL := hide (show cs.length ≤ 100 by rw [h.len]; exact hl)
  have ho : clAt cs (1 + (j : Int)) = some ⟨3, R, D, f⟩ := by rw [Int.add_comm]; exact clAt_at hc
  have hi : isRf 3 = true := (rfl)
  have B0 := hide (show hoB (clAt cs (1 + (j : Int))) 0 = !true by rw [ho]; simp [hoB, hi])
  have B1 := hide (show hoB (clAt cs (1 + (j : Int))) 1 = true by rw [ho]; simp [hoB])
  have B2 := hide (show hoB (clAt cs (1 + (j : Int))) l = (!true) by rw [ho]; simp [hoB, hi]; omega)
  have B3 := hide (show hoB (clAt cs 0) l = false by rw [clAt_out (Or.inl (by omega))]; rfl)
  have B4 := hide (show hoB (clAt cs ((len : Int) + 1)) l = false by rw [clAt_out (Or.inr (by rw [h.len]; omega))]; rfl)
  have HX := hide hX
  have HC := hide hc
  clear hX hc ho hi
  (subst hl2)
  skip
  have H := hide h
  have h0' : ((len : Int) == 0) = false := by simp; omega
  have hl' : decide ((len : Int) > 100) = false := by simp; omega
  clear h
  go_enter Try.func6, Try.ntmps6
  go_wp2_with fail
  refine (awake_any _).mono ?_
  rintro e wa ⟨rfl, ca⟩
  go_wp2_with fail
  refine (new_yes _ (H.out.chg ca (fun _ _ => id)) hl HX.out).mono ?_
  rintro e w1 ⟨g, v, rfl, ht, c1⟩
  have cc := ca.trans c1
  have HT := hide ht
  clear ht ca c1
  obtain ⟨b, off, c, rfl, hc', ⟨e0, e1, e2, e3⟩, -⟩ := (H.out.chg cc (fun _ _ => id)).at_ hj
  rw [HC.out] at hc'
  injection hc' with hc'
  subst hc'
  dsimp only at e0 e1 e2 e3
  clear H
  have cb := Grow.box w1 (.cells [.int .i64 3, .int .i64 R, .int .i64 D, .bool f].toArray 26)
  replace HT := hide (HT.out.grow cb)
  replace cc := cc.trans cb
  clear cb
  go_wp2_with fail
  clear e0 e1 e2 e3
  generalize w1.alloc (.cells #[.int .i64 3, .int .i64 R, .int .i64 D, .bool f] 26) = w2 at *
  refine (holds_is HT.out HL.out B0.out).mono ?_
  rintro e w3 ⟨rfl, c2⟩
  replace cc := cc.trans c2
  replace HT := hide (HT.out.grow c2)
  clear c2
  go_wp2_with fail
  refine (holds_is HT.out HL.out B1.out).mono ?_
  rintro e w4 ⟨rfl, c2⟩
  replace cc := cc.trans c2
  replace HT := hide (HT.out.grow c2)
  clear c2
  go_wp2_with fail
  refine (holds_is HT.out HL.out B2.out).mono ?_
  rintro e w5 ⟨rfl, c2⟩
  replace cc := cc.trans c2
  replace HT := hide (HT.out.grow c2)
  clear c2
  go_wp2_with fail
  refine (holds_is HT.out HL.out B3.out).mono ?_
  rintro e w6 ⟨rfl, c2⟩
  replace cc := cc.trans c2
  replace HT := hide (HT.out.grow c2)
  clear c2
  go_wp2_with fail
  refine (holds_is HT.out HL.out B4.out).mono ?_
  rintro e w7 ⟨rfl, c2⟩
  go_wp2
  go_ret
  exact ⟨rfl, (cc.trans c2).below (fun _ _ h => h) (Nat.le_refl _)⟩
set_option maxHeartbeats 2000000 in
theorem soft_pos (a : Option Addr) (len cap : Nat) (cs : List Cl) (N j : Nat) (K R D : Int) (f : Bool) (l : Int) (w : World) (h : IsCls w a len cap cs) (h0 : 0 < len) (hl : len ≤ 100) (hX : newX cs = 0) (hN : N ≤ 255) (hm : (N : Int) % (len : Int) = j) (hj : j < len) (hc : cs[j]? = some ⟨3, R, D, f⟩)  (hl2 : (0 < l)) :
    Calls Try.prog 6 #[.slice a len cap, .int .u8 N, .int .i64 l] w fun e w' => e = .returned (.bool true) ∧ Below w.heap.size w w' := by
  have HL := hide (show cs.length ≤ 100 by rw [h.len]; exact hl)
  have ho : clAt cs (1 + (j : Int)) = some ⟨3, R, D, f⟩ := by rw [Int.add_comm]; exact clAt_at hc
  have hi : isRf 3 = true := (rfl)
  have B0 := hide (show hoB (clAt cs (1 + (j : Int))) 0 = !true by rw [ho]; simp [hoB, hi])
  have B1 := hide (show hoB (clAt cs (1 + (j : Int))) 1 = true by rw [ho]; simp [hoB])
  have B2 := hide (show hoB (clAt cs (1 + (j : Int))) l = true by rw [ho]; simp [hoB, hi]; omega)
  have B3 := hide (show hoB (clAt cs 0) l = false by rw [clAt_out (Or.inl (by omega))]; rfl)
  have B4 := hide (show hoB (clAt cs ((len : Int) + 1)) l = false by rw [clAt_out (Or.inr (by rw [h.len]; omega))]; rfl)
  have HX := hide hX
  have HC := hide hc
  clear hX hc ho hi
  skip
  skip
  have H := hide h
  have h0' : ((len : Int) == 0) = false := by simp; omega
  have hl' : decide ((len : Int) > 100) = false := by simp; omega
  clear h
  go_enter Try.func6, Try.ntmps6
  go_wp2_with fail
  refine (awake_any _).mono ?_
  rintro e wa ⟨rfl, ca⟩
  go_wp2_with fail
  refine (new_yes _ (H.out.chg ca (fun _ _ => id)) hl HX.out).mono ?_
  rintro e w1 ⟨g, v, rfl, ht, c1⟩
  have cc := ca.trans c1
  have HT := hide ht
  clear ht ca c1
  obtain ⟨b, off, c, rfl, hc', ⟨e0, e1, e2, e3⟩, -⟩ := (H.out.chg cc (fun _ _ => id)).at_ hj
  rw [HC.out] at hc'
  injection hc' with hc'
  subst hc'
  dsimp only at e0 e1 e2 e3
  clear H
  have cb := Grow.box w1 (.cells [.int .i64 3, .int .i64 R, .int .i64 D, .bool f].toArray 26)
  replace HT := hide (HT.out.grow cb)
  replace cc := cc.trans cb
  clear cb
  go_wp2_with fail
  clear e0 e1 e2 e3
  generalize w1.alloc (.cells #[.int .i64 3, .int .i64 R, .int .i64 D, .bool f] 26) = w2 at *
  refine (holds_is HT.out HL.out B0.out).mono ?_
  rintro e w3 ⟨rfl, c2⟩
  replace cc := cc.trans c2
  replace HT := hide (HT.out.grow c2)
  clear c2
  go_wp2_with fail
  refine (holds_is HT.out HL.out B1.out).mono ?_
  rintro e w4 ⟨rfl, c2⟩
  replace cc := cc.trans c2
  replace HT := hide (HT.out.grow c2)
  clear c2
  go_wp2_with fail
  refine (holds_is HT.out HL.out B2.out).mono ?_
  rintro e w5 ⟨rfl, c2⟩
  replace cc := cc.trans c2
  replace HT := hide (HT.out.grow c2)
  clear c2
  go_wp2_with fail
  refine (holds_is HT.out HL.out B3.out).mono ?_
  rintro e w6 ⟨rfl, c2⟩
  replace cc := cc.trans c2
  replace HT := hide (HT.out.grow c2)
  clear c2
  go_wp2_with fail
  refine (holds_is HT.out HL.out B4.out).mono ?_
  rintro e w7 ⟨rfl, c2⟩
  go_wp2
  go_ret
  exact ⟨rfl, (cc.trans c2).below (fun _ _ h => h) (Nat.le_refl _)⟩
set_option maxHeartbeats 2000000 in
theorem weak_neg (a : Option Addr) (len cap : Nat) (cs : List Cl) (N j : Nat) (K R D : Int) (f : Bool) (l : Int) (w : World) (h : IsCls w a len cap cs) (h0 : 0 < len) (hl : len ≤ 100) (hX : newX cs = 0) (hN : N ≤ 255) (hm : (N : Int) % (len : Int) = j) (hj : j < len) (hc : cs[j]? = some ⟨4, R, D, f⟩)  (hl2 : (l < 0)) :
    Calls Try.prog 6 #[.slice a len cap, .int .u8 N, .int .i64 l] w fun e w' => e = .returned (.bool true) ∧ Below w.heap.size w w' := by
  have HL := hide (show cs.length ≤ 100 by rw [h.len]; exact hl)
  have ho : clAt cs (1 + (j : Int)) = some ⟨4, R, D, f⟩ := by rw [Int.add_comm]; exact clAt_at hc
  have hi : isRf 4 = true := (rfl)
  have B0 := hide (show hoB (clAt cs (1 + (j : Int))) 0 = !true by rw [ho]; simp [hoB, hi])
  have B1 := hide (show hoB (clAt cs (1 + (j : Int))) 1 = true by rw [ho]; simp [hoB])
  have B2 := hide (show hoB (clAt cs (1 + (j : Int))) l = false by rw [ho]; simp [hoB, hi]; omega)
  have B3 := hide (show hoB (clAt cs 0) l = false by rw [clAt_out (Or.inl (by omega))]; rfl)
  have B4 := hide (show hoB (clAt cs ((len : Int) + 1)) l = false by rw [clAt_out (Or.inr (by rw [h.len]; omega))]; rfl)
  have HX := hide hX
  have HC := hide hc
  clear hX hc ho hi
  (have q1 : decide (0 < l) = false := by simp; omega)
  (have q2 : (l == 0) = false := by simp; omega)
  have H := hide h
  have h0' : ((len : Int) == 0) = false := by simp; omega
  have hl' : decide ((len : Int) > 100) = false := by simp; omega
  clear h
  go_enter Try.func6, Try.ntmps6
  go_wp2_with fail
  refine (awake_any _).mono ?_
  rintro e wa ⟨rfl, ca⟩
  go_wp2_with fail
  refine (new_yes _ (H.out.chg ca (fun _ _ => id)) hl HX.out).mono ?_
  rintro e w1 ⟨g, v, rfl, ht, c1⟩
  have cc := ca.trans c1
  have HT := hide ht
  clear ht ca c1
  obtain ⟨b, off, c, rfl, hc', ⟨e0, e1, e2, e3⟩, -⟩ := (H.out.chg cc (fun _ _ => id)).at_ hj
  rw [HC.out] at hc'
  injection hc' with hc'
  subst hc'
  dsimp only at e0 e1 e2 e3
  clear H
  have cb := Grow.box w1 (.cells [.int .i64 4, .int .i64 R, .int .i64 D, .bool f].toArray 26)
  replace HT := hide (HT.out.grow cb)
  replace cc := cc.trans cb
  clear cb
  go_wp2_with fail
  clear e0 e1 e2 e3
  generalize w1.alloc (.cells #[.int .i64 4, .int .i64 R, .int .i64 D, .bool f] 26) = w2 at *
  refine (holds_is HT.out HL.out B0.out).mono ?_
  rintro e w3 ⟨rfl, c2⟩
  replace cc := cc.trans c2
  replace HT := hide (HT.out.grow c2)
  clear c2
  go_wp2_with fail
  refine (holds_is HT.out HL.out B1.out).mono ?_
  rintro e w4 ⟨rfl, c2⟩
  replace cc := cc.trans c2
  replace HT := hide (HT.out.grow c2)
  clear c2
  go_wp2_with fail
  refine (holds_is HT.out HL.out B2.out).mono ?_
  rintro e w5 ⟨rfl, c2⟩
  replace cc := cc.trans c2
  replace HT := hide (HT.out.grow c2)
  clear c2
  go_wp2_with fail
  refine (holds_is HT.out HL.out B3.out).mono ?_
  rintro e w6 ⟨rfl, c2⟩
  replace cc := cc.trans c2
  replace HT := hide (HT.out.grow c2)
  clear c2
  go_wp2_with fail
  refine (holds_is HT.out HL.out B4.out).mono ?_
  rintro e w7 ⟨rfl, c2⟩
  go_wp2
  go_ret
  exact ⟨rfl, (cc.trans c2).below (fun _ _ h => h) (Nat.le_refl _)⟩
set_option maxHeartbeats 2000000 in
theorem weak_zero (a : Option Addr) (len cap : Nat) (cs : List Cl) (N j : Nat) (K R D : Int) (f : Bool) (l : Int) (w : World) (h : IsCls w a len cap cs) (h0 : 0 < len) (hl : len ≤ 100) (hX : newX cs = 0) (hN : N ≤ 255) (hm : (N : Int) % (len : Int) = j) (hj : j < len) (hc : cs[j]? = some ⟨4, R, D, f⟩)  (hl2 : (l = 0)) :
    Calls Try.prog 6 #[.slice a len cap, .int .u8 N, .int .i64 l] w fun e w' => e = .returned (.bool true) ∧ Below w.heap.size w w' := by
  have HL := hide (show cs.length ≤ 100 by rw [h.len]; exact hl)
  have ho : clAt cs (1 + (j : Int)) = some ⟨4, R, D, f⟩ := by rw [Int.add_comm]; exact clAt_at hc
  have hi : isRf 4 = true := (rfl)
  have B0 := hide (show hoB (clAt cs (1 + (j : Int))) 0 = !true by rw [ho]; simp [hoB, hi])
  have B1 := hide (show hoB (clAt cs (1 + (j : Int))) 1 = true by rw [ho]; simp [hoB])
  have B2 := hide (show hoB (clAt cs (1 + (j : Int))) l = (!true) by rw [ho]; simp [hoB, hi]; omega)
  have B3 := hide (show hoB (clAt cs 0) l = false by rw [clAt_out (Or.inl (by omega))]; rfl)
  have B4 := hide (show hoB (clAt cs ((len : Int) + 1)) l = false by rw [clAt_out (Or.inr (by rw [h.len]; omega))]; rfl)
  have HX := hide hX
  have HC := hide hc
  clear hX hc ho hi
  (subst hl2)
  skip
  have H := hide h
  have h0' : ((len : Int) == 0) = false := by simp; omega
  have hl' : decide ((len : Int) > 100) = false := by simp; omega
  clear h
  go_enter Try.func6, Try.ntmps6
  go_wp2_with fail
  refine (awake_any _).mono ?_
  rintro e wa ⟨rfl, ca⟩
  go_wp2_with fail
  refine (new_yes _ (H.out.chg ca (fun _ _ => id)) hl HX.out).mono ?_
  rintro e w1 ⟨g, v, rfl, ht, c1⟩
  have cc := ca.trans c1
  have HT := hide ht
  clear ht ca c1
  obtain ⟨b, off, c, rfl, hc', ⟨e0, e1, e2, e3⟩, -⟩ := (H.out.chg cc (fun _ _ => id)).at_ hj
  rw [HC.out] at hc'
  injection hc' with hc'
  subst hc'
  dsimp only at e0 e1 e2 e3
  clear H
  have cb := Grow.box w1 (.cells [.int .i64 4, .int .i64 R, .int .i64 D, .bool f].toArray 26)
  replace HT := hide (HT.out.grow cb)
  replace cc := cc.trans cb
  clear cb
  go_wp2_with fail
  clear e0 e1 e2 e3
  generalize w1.alloc (.cells #[.int .i64 4, .int .i64 R, .int .i64 D, .bool f] 26) = w2 at *
  refine (holds_is HT.out HL.out B0.out).mono ?_
  rintro e w3 ⟨rfl, c2⟩
  replace cc := cc.trans c2
  replace HT := hide (HT.out.grow c2)
  clear c2
  go_wp2_with fail
  refine (holds_is HT.out HL.out B1.out).mono ?_
  rintro e w4 ⟨rfl, c2⟩
  replace cc := cc.trans c2
  replace HT := hide (HT.out.grow c2)
  clear c2
  go_wp2_with fail
  refine (holds_is HT.out HL.out B2.out).mono ?_
  rintro e w5 ⟨rfl, c2⟩
  replace cc := cc.trans c2
  replace HT := hide (HT.out.grow c2)
  clear c2
  go_wp2_with fail
  refine (holds_is HT.out HL.out B3.out).mono ?_
  rintro e w6 ⟨rfl, c2⟩
  replace cc := cc.trans c2
  replace HT := hide (HT.out.grow c2)
  clear c2
  go_wp2_with fail
  refine (holds_is HT.out HL.out B4.out).mono ?_
  rintro e w7 ⟨rfl, c2⟩
  go_wp2
  go_ret
  exact ⟨rfl, (cc.trans c2).below (fun _ _ h => h) (Nat.le_refl _)⟩
set_option maxHeartbeats 2000000 in
theorem weak_pos (a : Option Addr) (len cap : Nat) (cs : List Cl) (N j : Nat) (K R D : Int) (f : Bool) (l : Int) (w : World) (h : IsCls w a len cap cs) (h0 : 0 < len) (hl : len ≤ 100) (hX : newX cs = 0) (hN : N ≤ 255) (hm : (N : Int) % (len : Int) = j) (hj : j < len) (hc : cs[j]? = some ⟨4, R, D, f⟩)  (hl2 : (0 < l)) :
    Calls Try.prog 6 #[.slice a len cap, .int .u8 N, .int .i64 l] w fun e w' => e = .returned (.bool true) ∧ Below w.heap.size w w' := by
  have HL := hide (show cs.length ≤ 100 by rw [h.len]; exact hl)
  have ho : clAt cs (1 + (j : Int)) = some ⟨4, R, D, f⟩ := by rw [Int.add_comm]; exact clAt_at hc
  have hi : isRf 4 = true := (rfl)
  have B0 := hide (show hoB (clAt cs (1 + (j : Int))) 0 = !true by rw [ho]; simp [hoB, hi])
  have B1 := hide (show hoB (clAt cs (1 + (j : Int))) 1 = true by rw [ho]; simp [hoB])
  have B2 := hide (show hoB (clAt cs (1 + (j : Int))) l = true by rw [ho]; simp [hoB, hi]; omega)
  have B3 := hide (show hoB (clAt cs 0) l = false by rw [clAt_out (Or.inl (by omega))]; rfl)
  have B4 := hide (show hoB (clAt cs ((len : Int) + 1)) l = false by rw [clAt_out (Or.inr (by rw [h.len]; omega))]; rfl)
  have HX := hide hX
  have HC := hide hc
  clear hX hc ho hi
  skip
  skip
  have H := hide h
  have h0' : ((len : Int) == 0) = false := by simp; omega
  have hl' : decide ((len : Int) > 100) = false := by simp; omega
  clear h
  go_enter Try.func6, Try.ntmps6
  go_wp2_with fail
  refine (awake_any _).mono ?_
  rintro e wa ⟨rfl, ca⟩
  go_wp2_with fail
  refine (new_yes _ (H.out.chg ca (fun _ _ => id)) hl HX.out).mono ?_
  rintro e w1 ⟨g, v, rfl, ht, c1⟩
  have cc := ca.trans c1
  have HT := hide ht
  clear ht ca c1
  obtain ⟨b, off, c, rfl, hc', ⟨e0, e1, e2, e3⟩, -⟩ := (H.out.chg cc (fun _ _ => id)).at_ hj
  rw [HC.out] at hc'
  injection hc' with hc'
  subst hc'
  dsimp only at e0 e1 e2 e3
  clear H
  have cb := Grow.box w1 (.cells [.int .i64 4, .int .i64 R, .int .i64 D, .bool f].toArray 26)
  replace HT := hide (HT.out.grow cb)
  replace cc := cc.trans cb
  clear cb
  go_wp2_with fail
  clear e0 e1 e2 e3
  generalize w1.alloc (.cells #[.int .i64 4, .int .i64 R, .int .i64 D, .bool f] 26) = w2 at *
  refine (holds_is HT.out HL.out B0.out).mono ?_
  rintro e w3 ⟨rfl, c2⟩
  replace cc := cc.trans c2
  replace HT := hide (HT.out.grow c2)
  clear c2
  go_wp2_with fail
  refine (holds_is HT.out HL.out B1.out).mono ?_
  rintro e w4 ⟨rfl, c2⟩
  replace cc := cc.trans c2
  replace HT := hide (HT.out.grow c2)
  clear c2
  go_wp2_with fail
  refine (holds_is HT.out HL.out B2.out).mono ?_
  rintro e w5 ⟨rfl, c2⟩
  replace cc := cc.trans c2
  replace HT := hide (HT.out.grow c2)
  clear c2
  go_wp2_with fail
  refine (holds_is HT.out HL.out B3.out).mono ?_
  rintro e w6 ⟨rfl, c2⟩
  replace cc := cc.trans c2
  replace HT := hide (HT.out.grow c2)
  clear c2
  go_wp2_with fail
  refine (holds_is HT.out HL.out B4.out).mono ?_
  rintro e w7 ⟨rfl, c2⟩
  go_wp2
  go_ret
  exact ⟨rfl, (cc.trans c2).below (fun _ _ h => h) (Nat.le_refl _)⟩
set_option maxHeartbeats 2000000 in
theorem phan_neg (a : Option Addr) (len cap : Nat) (cs : List Cl) (N j : Nat) (K R D : Int) (f : Bool) (l : Int) (w : World) (h : IsCls w a len cap cs) (h0 : 0 < len) (hl : len ≤ 100) (hX : newX cs = 0) (hN : N ≤ 255) (hm : (N : Int) % (len : Int) = j) (hj : j < len) (hc : cs[j]? = some ⟨5, R, D, f⟩)  (hl2 : (l < 0)) :
    Calls Try.prog 6 #[.slice a len cap, .int .u8 N, .int .i64 l] w fun e w' => e = .returned (.bool true) ∧ Below w.heap.size w w' := by
  have HL := hide (show cs.length ≤ 100 by rw [h.len]; exact hl)
  have ho : clAt cs (1 + (j : Int)) = some ⟨5, R, D, f⟩ := by rw [Int.add_comm]; exact clAt_at hc
  have hi : isRf 5 = true := (rfl)
  have B0 := hide (show hoB (clAt cs (1 + (j : Int))) 0 = !true by rw [ho]; simp [hoB, hi])
  have B1 := hide (show hoB (clAt cs (1 + (j : Int))) 1 = true by rw [ho]; simp [hoB])
  have B2 := hide (show hoB (clAt cs (1 + (j : Int))) l = false by rw [ho]; simp [hoB, hi]; omega)
  have B3 := hide (show hoB (clAt cs 0) l = false by rw [clAt_out (Or.inl (by omega))]; rfl)
  have B4 := hide (show hoB (clAt cs ((len : Int) + 1)) l = false by rw [clAt_out (Or.inr (by rw [h.len]; omega))]; rfl)
  have HX := hide hX
  have HC := hide hc
  clear hX hc ho hi
  (have q1 : decide (0 < l) = false := by simp; omega)
  (have q2 : (l == 0) = false := by simp; omega)
  have H := hide h
  have h0' : ((len : Int) == 0) = false := by simp; omega
  have hl' : decide ((len : Int) > 100) = false := by simp; omega
  clear h
  go_enter Try.func6, Try.ntmps6
  go_wp2_with fail
  refine (awake_any _).mono ?_
  rintro e wa ⟨rfl, ca⟩
  go_wp2_with fail
  refine (new_yes _ (H.out.chg ca (fun _ _ => id)) hl HX.out).mono ?_
  rintro e w1 ⟨g, v, rfl, ht, c1⟩
  have cc := ca.trans c1
  have HT := hide ht
  clear ht ca c1
  obtain ⟨b, off, c, rfl, hc', ⟨e0, e1, e2, e3⟩, -⟩ := (H.out.chg cc (fun _ _ => id)).at_ hj
  rw [HC.out] at hc'
  injection hc' with hc'
  subst hc'
  dsimp only at e0 e1 e2 e3
  clear H
  have cb := Grow.box w1 (.cells [.int .i64 5, .int .i64 R, .int .i64 D, .bool f].toArray 26)
  replace HT := hide (HT.out.grow cb)
  replace cc := cc.trans cb
  clear cb
  go_wp2_with fail
  clear e0 e1 e2 e3
  generalize w1.alloc (.cells #[.int .i64 5, .int .i64 R, .int .i64 D, .bool f] 26) = w2 at *
  refine (holds_is HT.out HL.out B0.out).mono ?_
  rintro e w3 ⟨rfl, c2⟩
  replace cc := cc.trans c2
  replace HT := hide (HT.out.grow c2)
  clear c2
  go_wp2_with fail
  refine (holds_is HT.out HL.out B1.out).mono ?_
  rintro e w4 ⟨rfl, c2⟩
  replace cc := cc.trans c2
  replace HT := hide (HT.out.grow c2)
  clear c2
  go_wp2_with fail
  refine (holds_is HT.out HL.out B2.out).mono ?_
  rintro e w5 ⟨rfl, c2⟩
  replace cc := cc.trans c2
  replace HT := hide (HT.out.grow c2)
  clear c2
  go_wp2_with fail
  refine (holds_is HT.out HL.out B3.out).mono ?_
  rintro e w6 ⟨rfl, c2⟩
  replace cc := cc.trans c2
  replace HT := hide (HT.out.grow c2)
  clear c2
  go_wp2_with fail
  refine (holds_is HT.out HL.out B4.out).mono ?_
  rintro e w7 ⟨rfl, c2⟩
  go_wp2
  go_ret
  exact ⟨rfl, (cc.trans c2).below (fun _ _ h => h) (Nat.le_refl _)⟩
set_option maxHeartbeats 2000000 in
theorem phan_zero (a : Option Addr) (len cap : Nat) (cs : List Cl) (N j : Nat) (K R D : Int) (f : Bool) (l : Int) (w : World) (h : IsCls w a len cap cs) (h0 : 0 < len) (hl : len ≤ 100) (hX : newX cs = 0) (hN : N ≤ 255) (hm : (N : Int) % (len : Int) = j) (hj : j < len) (hc : cs[j]? = some ⟨5, R, D, f⟩)  (hl2 : (l = 0)) :
    Calls Try.prog 6 #[.slice a len cap, .int .u8 N, .int .i64 l] w fun e w' => e = .returned (.bool true) ∧ Below w.heap.size w w' := by
  have HL := hide (show cs.length ≤ 100 by rw [h.len]; exact hl)
  have ho : clAt cs (1 + (j : Int)) = some ⟨5, R, D, f⟩ := by rw [Int.add_comm]; exact clAt_at hc
  have hi : isRf 5 = true := (rfl)
  have B0 := hide (show hoB (clAt cs (1 + (j : Int))) 0 = !true by rw [ho]; simp [hoB, hi])
  have B1 := hide (show hoB (clAt cs (1 + (j : Int))) 1 = true by rw [ho]; simp [hoB])
  have B2 := hide (show hoB (clAt cs (1 + (j : Int))) l = (!true) by rw [ho]; simp [hoB, hi]; omega)
  have B3 := hide (show hoB (clAt cs 0) l = false by rw [clAt_out (Or.inl (by omega))]; rfl)
  have B4 := hide (show hoB (clAt cs ((len : Int) + 1)) l = false by rw [clAt_out (Or.inr (by rw [h.len]; omega))]; rfl)
  have HX := hide hX
  have HC := hide hc
  clear hX hc ho hi
  (subst hl2)
  skip
  have H := hide h
  have h0' : ((len : Int) == 0) = false := by simp; omega
  have hl' : decide ((len : Int) > 100) = false := by simp; omega
  clear h
  go_enter Try.func6, Try.ntmps6
  go_wp2_with fail
  refine (awake_any _).mono ?_
  rintro e wa ⟨rfl, ca⟩
  go_wp2_with fail
  refine (new_yes _ (H.out.chg ca (fun _ _ => id)) hl HX.out).mono ?_
  rintro e w1 ⟨g, v, rfl, ht, c1⟩
  have cc := ca.trans c1
  have HT := hide ht
  clear ht ca c1
  obtain ⟨b, off, c, rfl, hc', ⟨e0, e1, e2, e3⟩, -⟩ := (H.out.chg cc (fun _ _ => id)).at_ hj
  rw [HC.out] at hc'
  injection hc' with hc'
  subst hc'
  dsimp only at e0 e1 e2 e3
  clear H
  have cb := Grow.box w1 (.cells [.int .i64 5, .int .i64 R, .int .i64 D, .bool f].toArray 26)
  replace HT := hide (HT.out.grow cb)
  replace cc := cc.trans cb
  clear cb
  go_wp2_with fail
  clear e0 e1 e2 e3
  generalize w1.alloc (.cells #[.int .i64 5, .int .i64 R, .int .i64 D, .bool f] 26) = w2 at *
  refine (holds_is HT.out HL.out B0.out).mono ?_
  rintro e w3 ⟨rfl, c2⟩
  replace cc := cc.trans c2
  replace HT := hide (HT.out.grow c2)
  clear c2
  go_wp2_with fail
  refine (holds_is HT.out HL.out B1.out).mono ?_
  rintro e w4 ⟨rfl, c2⟩
  replace cc := cc.trans c2
  replace HT := hide (HT.out.grow c2)
  clear c2
  go_wp2_with fail
  refine (holds_is HT.out HL.out B2.out).mono ?_
  rintro e w5 ⟨rfl, c2⟩
  replace cc := cc.trans c2
  replace HT := hide (HT.out.grow c2)
  clear c2
  go_wp2_with fail
  refine (holds_is HT.out HL.out B3.out).mono ?_
  rintro e w6 ⟨rfl, c2⟩
  replace cc := cc.trans c2
  replace HT := hide (HT.out.grow c2)
  clear c2
  go_wp2_with fail
  refine (holds_is HT.out HL.out B4.out).mono ?_
  rintro e w7 ⟨rfl, c2⟩
  go_wp2
  go_ret
  exact ⟨rfl, (cc.trans c2).below (fun _ _ h => h) (Nat.le_refl _)⟩
set_option maxHeartbeats 2000000 in
theorem phan_pos (a : Option Addr) (len cap : Nat) (cs : List Cl) (N j : Nat) (K R D : Int) (f : Bool) (l : Int) (w : World) (h : IsCls w a len cap cs) (h0 : 0 < len) (hl : len ≤ 100) (hX : newX cs = 0) (hN : N ≤ 255) (hm : (N : Int) % (len : Int) = j) (hj : j < len) (hc : cs[j]? = some ⟨5, R, D, f⟩)  (hl2 : (0 < l)) :
    Calls Try.prog 6 #[.slice a len cap, .int .u8 N, .int .i64 l] w fun e w' => e = .returned (.bool true) ∧ Below w.heap.size w w' := by
  have HL := hide (show cs.length ≤ 100 by rw [h.len]; exact hl)
  have ho : clAt cs (1 + (j : Int)) = some ⟨5, R, D, f⟩ := by rw [Int.add_comm]; exact clAt_at hc
  have hi : isRf 5 = true := (rfl)
  have B0 := hide (show hoB (clAt cs (1 + (j : Int))) 0 = !true by rw [ho]; simp [hoB, hi])
  have B1 := hide (show hoB (clAt cs (1 + (j : Int))) 1 = true by rw [ho]; simp [hoB])
  have B2 := hide (show hoB (clAt cs (1 + (j : Int))) l = true by rw [ho]; simp [hoB, hi]; omega)
  have B3 := hide (show hoB (clAt cs 0) l = false by rw [clAt_out (Or.inl (by omega))]; rfl)
  have B4 := hide (show hoB (clAt cs ((len : Int) + 1)) l = false by rw [clAt_out (Or.inr (by rw [h.len]; omega))]; rfl)
  have HX := hide hX
  have HC := hide hc
  clear hX hc ho hi
  skip
  skip
  have H := hide h
  have h0' : ((len : Int) == 0) = false := by simp; omega
  have hl' : decide ((len : Int) > 100) = false := by simp; omega
  clear h
  go_enter Try.func6, Try.ntmps6
  go_wp2_with fail
  refine (awake_any _).mono ?_
  rintro e wa ⟨rfl, ca⟩
  go_wp2_with fail
  refine (new_yes _ (H.out.chg ca (fun _ _ => id)) hl HX.out).mono ?_
  rintro e w1 ⟨g, v, rfl, ht, c1⟩
  have cc := ca.trans c1
  have HT := hide ht
  clear ht ca c1
  obtain ⟨b, off, c, rfl, hc', ⟨e0, e1, e2, e3⟩, -⟩ := (H.out.chg cc (fun _ _ => id)).at_ hj
  rw [HC.out] at hc'
  injection hc' with hc'
  subst hc'
  dsimp only at e0 e1 e2 e3
  clear H
  have cb := Grow.box w1 (.cells [.int .i64 5, .int .i64 R, .int .i64 D, .bool f].toArray 26)
  replace HT := hide (HT.out.grow cb)
  replace cc := cc.trans cb
  clear cb
  go_wp2_with fail
  clear e0 e1 e2 e3
  generalize w1.alloc (.cells #[.int .i64 5, .int .i64 R, .int .i64 D, .bool f] 26) = w2 at *
  refine (holds_is HT.out HL.out B0.out).mono ?_
  rintro e w3 ⟨rfl, c2⟩
  replace cc := cc.trans c2
  replace HT := hide (HT.out.grow c2)
  clear c2
  go_wp2_with fail
  refine (holds_is HT.out HL.out B1.out).mono ?_
  rintro e w4 ⟨rfl, c2⟩
  replace cc := cc.trans c2
  replace HT := hide (HT.out.grow c2)
  clear c2
  go_wp2_with fail
  refine (holds_is HT.out HL.out B2.out).mono ?_
  rintro e w5 ⟨rfl, c2⟩
  replace cc := cc.trans c2
  replace HT := hide (HT.out.grow c2)
  clear c2
  go_wp2_with fail
  refine (holds_is HT.out HL.out B3.out).mono ?_
  rintro e w6 ⟨rfl, c2⟩
  replace cc := cc.trans c2
  replace HT := hide (HT.out.grow c2)
  clear c2
  go_wp2_with fail
  refine (holds_is HT.out HL.out B4.out).mono ?_
  rintro e w7 ⟨rfl, c2⟩
  go_wp2
  go_ret
  exact ⟨rfl, (cc.trans c2).below (fun _ _ h => h) (Nat.le_refl _)⟩
set_option maxHeartbeats 2000000 in
theorem other_neg (a : Option Addr) (len cap : Nat) (cs : List Cl) (N j : Nat) (K R D : Int) (f : Bool) (l : Int) (w : World) (h : IsCls w a len cap cs) (h0 : 0 < len) (hl : len ≤ 100) (hX : newX cs = 0) (hN : N ≤ 255) (hm : (N : Int) % (len : Int) = j) (hj : j < len) (hc : cs[j]? = some ⟨K, R, D, f⟩) (hk : isRf K = false) (k3 : (K == 3) = false) (k4 : (K == 4) = false) (k5 : (K == 5) = false) (hl2 : (l < 0)) :
    Calls Try.prog 6 #[.slice a len cap, .int .u8 N, .int .i64 l] w fun e w' => e = .returned (.bool true) ∧ Below w.heap.size w w' := by
  have HL := hide (show cs.length ≤ 100 by rw [h.len]; exact hl)
  have ho : clAt cs (1 + (j : Int)) = some ⟨K, R, D, f⟩ := by rw [Int.add_comm]; exact clAt_at hc
  have hi : isRf K = false := (hk)
  have B0 := hide (show hoB (clAt cs (1 + (j : Int))) 0 = !false by rw [ho]; simp [hoB, hi])
  have B1 := hide (show hoB (clAt cs (1 + (j : Int))) 1 = true by rw [ho]; simp [hoB])
  have B2 := hide (show hoB (clAt cs (1 + (j : Int))) l = false by rw [ho]; simp [hoB, hi]; omega)
  have B3 := hide (show hoB (clAt cs 0) l = false by rw [clAt_out (Or.inl (by omega))]; rfl)
  have B4 := hide (show hoB (clAt cs ((len : Int) + 1)) l = false by rw [clAt_out (Or.inr (by rw [h.len]; omega))]; rfl)
  have HX := hide hX
  have HC := hide hc
  clear hX hc ho hi
  (have q1 : decide (0 < l) = false := by simp; omega)
  (have q2 : (l == 0) = false := by simp; omega)
  have H := hide h
  have h0' : ((len : Int) == 0) = false := by simp; omega
  have hl' : decide ((len : Int) > 100) = false := by simp; omega
  clear h
  go_enter Try.func6, Try.ntmps6
  go_wp2_with fail
  refine (awake_any _).mono ?_
  rintro e wa ⟨rfl, ca⟩
  go_wp2_with fail
  refine (new_yes _ (H.out.chg ca (fun _ _ => id)) hl HX.out).mono ?_
  rintro e w1 ⟨g, v, rfl, ht, c1⟩
  have cc := ca.trans c1
  have HT := hide ht
  clear ht ca c1
  obtain ⟨b, off, c, rfl, hc', ⟨e0, e1, e2, e3⟩, -⟩ := (H.out.chg cc (fun _ _ => id)).at_ hj
  rw [HC.out] at hc'
  injection hc' with hc'
  subst hc'
  dsimp only at e0 e1 e2 e3
  clear H
  have cb := Grow.box w1 (.cells [.int .i64 K, .int .i64 R, .int .i64 D, .bool f].toArray 26)
  replace HT := hide (HT.out.grow cb)
  replace cc := cc.trans cb
  clear cb
  go_wp2_with fail
  clear e0 e1 e2 e3
  generalize w1.alloc (.cells #[.int .i64 K, .int .i64 R, .int .i64 D, .bool f] 26) = w2 at *
  refine (holds_is HT.out HL.out B0.out).mono ?_
  rintro e w3 ⟨rfl, c2⟩
  replace cc := cc.trans c2
  replace HT := hide (HT.out.grow c2)
  clear c2
  go_wp2_with fail
  refine (holds_is HT.out HL.out B1.out).mono ?_
  rintro e w4 ⟨rfl, c2⟩
  replace cc := cc.trans c2
  replace HT := hide (HT.out.grow c2)
  clear c2
  go_wp2_with fail
  refine (holds_is HT.out HL.out B2.out).mono ?_
  rintro e w5 ⟨rfl, c2⟩
  replace cc := cc.trans c2
  replace HT := hide (HT.out.grow c2)
  clear c2
  go_wp2_with fail
  refine (holds_is HT.out HL.out B3.out).mono ?_
  rintro e w6 ⟨rfl, c2⟩
  replace cc := cc.trans c2
  replace HT := hide (HT.out.grow c2)
  clear c2
  go_wp2_with fail
  refine (holds_is HT.out HL.out B4.out).mono ?_
  rintro e w7 ⟨rfl, c2⟩
  go_wp2
  go_ret
  exact ⟨rfl, (cc.trans c2).below (fun _ _ h => h) (Nat.le_refl _)⟩
set_option maxHeartbeats 2000000 in
theorem other_zero (a : Option Addr) (len cap : Nat) (cs : List Cl) (N j : Nat) (K R D : Int) (f : Bool) (l : Int) (w : World) (h : IsCls w a len cap cs) (h0 : 0 < len) (hl : len ≤ 100) (hX : newX cs = 0) (hN : N ≤ 255) (hm : (N : Int) % (len : Int) = j) (hj : j < len) (hc : cs[j]? = some ⟨K, R, D, f⟩) (hk : isRf K = false) (k3 : (K == 3) = false) (k4 : (K == 4) = false) (k5 : (K == 5) = false) (hl2 : (l = 0)) :
    Calls Try.prog 6 #[.slice a len cap, .int .u8 N, .int .i64 l] w fun e w' => e = .returned (.bool true) ∧ Below w.heap.size w w' := by
  have HL := hide (show cs.length ≤ 100 by rw [h.len]; exact hl)
  have ho : clAt cs (1 + (j : Int)) = some ⟨K, R, D, f⟩ := by rw [Int.add_comm]; exact clAt_at hc
  have hi : isRf K = false := (hk)
  have B0 := hide (show hoB (clAt cs (1 + (j : Int))) 0 = !false by rw [ho]; simp [hoB, hi])
  have B1 := hide (show hoB (clAt cs (1 + (j : Int))) 1 = true by rw [ho]; simp [hoB])
  have B2 := hide (show hoB (clAt cs (1 + (j : Int))) l = (!false) by rw [ho]; simp [hoB, hi]; omega)
  have B3 := hide (show hoB (clAt cs 0) l = false by rw [clAt_out (Or.inl (by omega))]; rfl)
  have B4 := hide (show hoB (clAt cs ((len : Int) + 1)) l = false by rw [clAt_out (Or.inr (by rw [h.len]; omega))]; rfl)
  have HX := hide hX
  have HC := hide hc
  clear hX hc ho hi
  (subst hl2)
  skip
  have H := hide h
  have h0' : ((len : Int) == 0) = false := by simp; omega
  have hl' : decide ((len : Int) > 100) = false := by simp; omega
  clear h
  go_enter Try.func6, Try.ntmps6
  go_wp2_with fail
  refine (awake_any _).mono ?_
  rintro e wa ⟨rfl, ca⟩
  go_wp2_with fail
  refine (new_yes _ (H.out.chg ca (fun _ _ => id)) hl HX.out).mono ?_
  rintro e w1 ⟨g, v, rfl, ht, c1⟩
  have cc := ca.trans c1
  have HT := hide ht
  clear ht ca c1
  obtain ⟨b, off, c, rfl, hc', ⟨e0, e1, e2, e3⟩, -⟩ := (H.out.chg cc (fun _ _ => id)).at_ hj
  rw [HC.out] at hc'
  injection hc' with hc'
  subst hc'
  dsimp only at e0 e1 e2 e3
  clear H
  have cb := Grow.box w1 (.cells [.int .i64 K, .int .i64 R, .int .i64 D, .bool f].toArray 26)
  replace HT := hide (HT.out.grow cb)
  replace cc := cc.trans cb
  clear cb
  go_wp2_with fail
  clear e0 e1 e2 e3
  generalize w1.alloc (.cells #[.int .i64 K, .int .i64 R, .int .i64 D, .bool f] 26) = w2 at *
  refine (holds_is HT.out HL.out B0.out).mono ?_
  rintro e w3 ⟨rfl, c2⟩
  replace cc := cc.trans c2
  replace HT := hide (HT.out.grow c2)
  clear c2
  go_wp2_with fail
  refine (holds_is HT.out HL.out B1.out).mono ?_
  rintro e w4 ⟨rfl, c2⟩
  replace cc := cc.trans c2
  replace HT := hide (HT.out.grow c2)
  clear c2
  go_wp2_with fail
  refine (holds_is HT.out HL.out B2.out).mono ?_
  rintro e w5 ⟨rfl, c2⟩
  replace cc := cc.trans c2
  replace HT := hide (HT.out.grow c2)
  clear c2
  go_wp2_with fail
  refine (holds_is HT.out HL.out B3.out).mono ?_
  rintro e w6 ⟨rfl, c2⟩
  replace cc := cc.trans c2
  replace HT := hide (HT.out.grow c2)
  clear c2
  go_wp2_with fail
  refine (holds_is HT.out HL.out B4.out).mono ?_
  rintro e w7 ⟨rfl, c2⟩
  go_wp2
  go_ret
  exact ⟨rfl, (cc.trans c2).below (fun _ _ h => h) (Nat.le_refl _)⟩
set_option maxHeartbeats 2000000 in
theorem other_pos (a : Option Addr) (len cap : Nat) (cs : List Cl) (N j : Nat) (K R D : Int) (f : Bool) (l : Int) (w : World) (h : IsCls w a len cap cs) (h0 : 0 < len) (hl : len ≤ 100) (hX : newX cs = 0) (hN : N ≤ 255) (hm : (N : Int) % (len : Int) = j) (hj : j < len) (hc : cs[j]? = some ⟨K, R, D, f⟩) (hk : isRf K = false) (k3 : (K == 3) = false) (k4 : (K == 4) = false) (k5 : (K == 5) = false) (hl2 : (0 < l)) :
    Calls Try.prog 6 #[.slice a len cap, .int .u8 N, .int .i64 l] w fun e w' => e = .returned (.bool true) ∧ Below w.heap.size w w' := by
  have HL := hide (show cs.length ≤ 100 by rw [h.len]; exact hl)
  have ho : clAt cs (1 + (j : Int)) = some ⟨K, R, D, f⟩ := by rw [Int.add_comm]; exact clAt_at hc
  have hi : isRf K = false := (hk)
  have B0 := hide (show hoB (clAt cs (1 + (j : Int))) 0 = !false by rw [ho]; simp [hoB, hi])
  have B1 := hide (show hoB (clAt cs (1 + (j : Int))) 1 = true by rw [ho]; simp [hoB])
  have B2 := hide (show hoB (clAt cs (1 + (j : Int))) l = true by rw [ho]; simp [hoB, hi]; omega)
  have B3 := hide (show hoB (clAt cs 0) l = false by rw [clAt_out (Or.inl (by omega))]; rfl)
  have B4 := hide (show hoB (clAt cs ((len : Int) + 1)) l = false by rw [clAt_out (Or.inr (by rw [h.len]; omega))]; rfl)
  have HX := hide hX
  have HC := hide hc
  clear hX hc ho hi
  skip
  skip
  have H := hide h
  have h0' : ((len : Int) == 0) = false := by simp; omega
  have hl' : decide ((len : Int) > 100) = false := by simp; omega
  clear h
  go_enter Try.func6, Try.ntmps6
  go_wp2_with fail
  refine (awake_any _).mono ?_
  rintro e wa ⟨rfl, ca⟩
  go_wp2_with fail
  refine (new_yes _ (H.out.chg ca (fun _ _ => id)) hl HX.out).mono ?_
  rintro e w1 ⟨g, v, rfl, ht, c1⟩
  have cc := ca.trans c1
  have HT := hide ht
  clear ht ca c1
  obtain ⟨b, off, c, rfl, hc', ⟨e0, e1, e2, e3⟩, -⟩ := (H.out.chg cc (fun _ _ => id)).at_ hj
  rw [HC.out] at hc'
  injection hc' with hc'
  subst hc'
  dsimp only at e0 e1 e2 e3
  clear H
  have cb := Grow.box w1 (.cells [.int .i64 K, .int .i64 R, .int .i64 D, .bool f].toArray 26)
  replace HT := hide (HT.out.grow cb)
  replace cc := cc.trans cb
  clear cb
  go_wp2_with fail
  clear e0 e1 e2 e3
  generalize w1.alloc (.cells #[.int .i64 K, .int .i64 R, .int .i64 D, .bool f] 26) = w2 at *
  refine (holds_is HT.out HL.out B0.out).mono ?_
  rintro e w3 ⟨rfl, c2⟩
  replace cc := cc.trans c2
  replace HT := hide (HT.out.grow c2)
  clear c2
  go_wp2_with fail
  refine (holds_is HT.out HL.out B1.out).mono ?_
  rintro e w4 ⟨rfl, c2⟩
  replace cc := cc.trans c2
  replace HT := hide (HT.out.grow c2)
  clear c2
  go_wp2_with fail
  refine (holds_is HT.out HL.out B2.out).mono ?_
  rintro e w5 ⟨rfl, c2⟩
  replace cc := cc.trans c2
  replace HT := hide (HT.out.grow c2)
  clear c2
  go_wp2_with fail
  refine (holds_is HT.out HL.out B3.out).mono ?_
  rintro e w6 ⟨rfl, c2⟩
  replace cc := cc.trans c2
  replace HT := hide (HT.out.grow c2)
  clear c2
  go_wp2_with fail
  refine (holds_is HT.out HL.out B4.out).mono ?_
  rintro e w7 ⟨rfl, c2⟩
  go_wp2
  go_ret
  exact ⟨rfl, (cc.trans c2).below (fun _ _ h => h) (Nat.le_refl _)⟩
theorem walk_yes (a : Option Addr) (len cap : Nat) (cs : List Cl) (N j : Nat) (K R D : Int) (f : Bool) (l : Int) (w : World) (h : IsCls w a len cap cs) (h0 : 0 < len) (hl : len ≤ 100) (hX : newX cs = 0) (hN : N ≤ 255) (hm : (N : Int) % (len : Int) = j) (hj : j < len) (hc : cs[j]? = some ⟨K, R, D, f⟩) :
    Calls Try.prog 6 #[.slice a len cap, .int .u8 N, .int .i64 l] w fun e w' => e = .returned (.bool true) ∧ Below w.heap.size w w' := by
  by_cases h1 : l < 0
  · by_cases k3 : K = 3
    · subst k3; exact soft_neg a len cap cs N j 3 R D f l w h h0 hl hX hN hm hj hc h1
    · by_cases k4 : K = 4
      · subst k4; exact weak_neg a len cap cs N j 4 R D f l w h h0 hl hX hN hm hj hc h1
      · by_cases k5 : K = 5
        · subst k5; exact phan_neg a len cap cs N j 5 R D f l w h h0 hl hX hN hm hj hc h1
        · exact other_neg a len cap cs N j K R D f l w h h0 hl hX hN hm hj hc (by simp [isRf, k3, k4, k5]) (by simpa using k3) (by simpa using k4) (by simpa using k5) h1
  · by_cases h2 : l = 0
    · by_cases k3 : K = 3
      · subst k3; exact soft_zero a len cap cs N j 3 R D f l w h h0 hl hX hN hm hj hc h2
      · by_cases k4 : K = 4
        · subst k4; exact weak_zero a len cap cs N j 4 R D f l w h h0 hl hX hN hm hj hc h2
        · by_cases k5 : K = 5
          · subst k5; exact phan_zero a len cap cs N j 5 R D f l w h h0 hl hX hN hm hj hc h2
          · exact other_zero a len cap cs N j K R D f l w h h0 hl hX hN hm hj hc (by simp [isRf, k3, k4, k5]) (by simpa using k3) (by simpa using k4) (by simpa using k5) h2
    · have h3 : 0 < l := by omega
      by_cases k3 : K = 3
      · subst k3; exact soft_pos a len cap cs N j 3 R D f l w h h0 hl hX hN hm hj hc h3
      · by_cases k4 : K = 4
        · subst k4; exact weak_pos a len cap cs N j 4 R D f l w h h0 hl hX hN hm hj hc h3
        · by_cases k5 : K = 5
          · subst k5; exact phan_pos a len cap cs N j 5 R D f l w h h0 hl hX hN hm hj hc h3
          · exact other_pos a len cap cs N j K R D f l w h h0 hl hX hN hm hj hc (by simp [isRf, k3, k4, k5]) (by simpa using k3) (by simpa using k4) (by simpa using k5) h3
theorem walk (a : Option Addr) (len cap : Nat) (cs : List Cl) (n l : Int) (w : World) (h : IsCls w a len cap cs) (wn : (Lit.int .u8 n).wf = true) (wl : (Lit.int .i64 l).wf = true) :
    Calls Try.prog 6 #[.slice a len cap, .int .u8 n, .int .i64 l] w fun e w' => e = .returned (.bool true) ∧ Below w.heap.size w w' := by
  have hb := bounds_u8 wn
  obtain ⟨N, rfl⟩ : ∃ N : Nat, n = N := ⟨n.toNat, by omega⟩
  by_cases hl : len ≤ 100
  · rcases Nat.eq_zero_or_pos len with h0 | h0
    · subst h0; exact walk_nil a cap N l w
    · by_cases hX : newX cs = 0
      · have hj : N % len < len := Nat.mod_lt _ h0
        have hj' : N % len < cs.length := by rw [h.len]; exact hj
        exact walk_yes a len cap cs N (N % len) _ _ _ _ l w h h0 hl hX (by omega) (by simp) hj (List.getElem?_eq_getElem hj')
      · exact walk_no a len cap cs N l w h h0 hl hX
  · exact walk_long a len cap N l w (by omega)

theorem own : ownKnob Try.prog.godebug = none := by kernel_rfl
theorem laidOut : laidOutB Try.prog = true := by kernel_rfl

set_option maxRecDepth 100000 in
theorem lifted (os : Os) (started : os.Started) (H : Type) (enc : TypeId × Value → H) :
    ReturnsInHanded {} Try.checked os 6 .any (Rows.classHoldsSpec.pre6 enc Try.prog Try.f6 Rows.classHoldsRow.domain false) (Rows.classHoldsSpec.post enc Try.prog Try.f6 false true false false) := by
  refine returnsInHanded_of_change (C := Try.checked) own started (by kernel_rfl) Try.func6
    (ChangeSpec.witness6 (enc := enc) (C := Try.checked) false ⟨#[], #[.slice none 0 0, .int .u8 0, .int .i64 0], []⟩ 8 (by kernel_rfl) (by kernel_rfl) (by kernel_rfl) (by kernel_rfl)) ?_
  intro W base args ds gs before hval0 hW hcnd _
  have hval : ∀ (j : Nat) t v, Try.f6.params[j]? = some t → args[j]? = some v → Value.okWide Try.prog W .any base t v := hval0
  have hW' := hW
  obtain ⟨p, q, hA0, hV, rfl, hfz, hnd⟩ := hW
  have hA : DataW.TrodAll enc Try.prog W 0 (fun _ => true) true Try.f6.params.toList args.toList ds p := hA0
  rw [Try.params6] at hA hval
  obtain ⟨v0, vs0, d0, ds0, p0, q0, hargs, rfl, rfl, h0, r0⟩ := trodAll_cons hA
  obtain ⟨v1, vs1, d1, ds1, p1, q1, rfl, rfl, rfl, h1, r1⟩ := trodAll_cons r0
  obtain ⟨v2, vs2, d2, ds2, p2, q2, rfl, rfl, rfl, h2, r2⟩ := trodAll_cons r1
  obtain ⟨rfl, rfl, rfl⟩ := trodAll_nil r2
  obtain rfl : args = #[v0, v1, v2] := by cases args; simp_all
  obtain ⟨rfl, rfl⟩ := trodVars_none hV
  have k0 := h0
  have lt0 : ∀ x ∈ p0, x.block < W.heap.size := by obtain ⟨m, hm⟩ := k0; exact DataW.trod_lt m _ _ _ hm
  obtain ⟨a0, len0, cap0, cs0, rfl, w0⟩ := open_cls (hval 0 22 v0 rfl rfl) h0
  obtain ⟨a1, rfl, rfl, rfl, w1⟩ := open_int Try.underlying5 (hval 1 5 v1 rfl rfl) h1
  obtain ⟨a2, rfl, rfl, rfl, w2⟩ := open_int Try.underlying3 (hval 2 3 v2 rfl rfl) h2
  clear hA0 hval0
  refine (walk a0 len0 cap0 cs0 a1 a2 W w0 w1 w2).mono fun e W' ⟨he, bel⟩ => ?_
  subst he
  exact ⟨_, rfl, _, _, _, [], _, [], hW', trodAll_mk1 (shut_bool Try.underlying4 _), (trodAll_cons_mk (Below.trod laidOut (by kernel_rfl) (of_decide_eq_true (by kernel_rfl)) k0 bel lt0) (trodAll_cons_mk (shut_int Try.underlying5 w1) (trodAll_cons_mk (shut_int Try.underlying3 w2) trodAll_mk0))), rfl, bel.frame _, fun h => by cases h⟩

theorem over : Rows.classHoldsRow.holds Try.pinned (OpenSpec.ofChange Rows.classHoldsSpec) :=
  OpenClaim.holds_of_wide 6 Try.f6 rfl rfl rfl rfl rfl rfl rfl ⟨rfl, rfl, rfl, rfl, rfl⟩ rfl rfl rfl rfl rfl (by kernel_rfl) Try.func6 (by kernel_rfl)
    (of_decide_eq_true (by kernel_rfl)) (by unfold Func.isWrapper; first | (rw [if_pos (by decide +kernel)]; kernel_rfl) | (rw [if_neg (by decide +kernel)]; exact ⟨rfl, rfl⟩))
    (fun os started H enc _ => lifted os started H enc)

/-- The statement. -/
theorem proved : Rows.ClassHoldsSaid := over
#print axioms proved
end Go.Proofs.Ythgijkikaboegaa.classHolds


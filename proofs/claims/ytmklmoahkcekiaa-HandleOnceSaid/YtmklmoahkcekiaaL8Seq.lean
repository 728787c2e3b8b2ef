/- Tables of handles: the iterator over the handles, and what a range over it gives: Len, and All by slices.Collect and AppendSeq. Conditions: a slot was used at most 1000000 times. -/
import Derived.RangeFuncBox
import Derived.RangeFuncNested
import Derived.RangeFuncBound
import Derived.RangeFuncCalls
import Derived.RangeFuncLeaves
import Derived.Shelf.Abstract
import Derived.Shelf.RegionOpen
import Derived.OwnWalkIn
import Derived.TacticsInMore
import Derived.LoopNIn
import Derived.LoopIn
import Derived.Maps.AppendAt
import Derived.Test.YtmklmoahkcekiaaL8Call
namespace Go.Proofs.Ytmklmoahkcekiaa.L8
open Go.ChangeShapes Go.WideShapes Go.ChangeAt Go.RowKit Go.Shelf
set_option linter.unusedVariables false
attribute [local go_sem] Oper.semAt_some

/-- The handles of the taken slots ahead of the k-th. -/
def hs (S : Nat → Sl) : Nat → List Int
  | 0 => []
  | k + 1 => if (S k).t then hs S k ++ [(hd S k : Int)] else hs S k
theorem hs_length (S : Nat → Sl) (k : Nat) : (hs S k).length ≤ k := by
  induction k with
  | zero => exact Nat.le_refl _
  | succ k ih => unfold hs; split <;> (try simp) <;> omega
theorem hs_yes {S : Nat → Sl} {k : Nat} (h : (S k).t = true) : hs S (k + 1) = hs S k ++ [(hd S k : Int)] := by simp [hs, h]
theorem hs_not {S : Nat → Sl} {k : Nat} (h : (S k).t = false) : hs S (k + 1) = hs S k := by simp [hs, h]
theorem _root_.Go.Proofs.Ytmklmoahkcekiaa.Grow.grownBy {w w' : World} (c : Grow w w') : w.grownBy w' none := ⟨c.os, c.tape, c.output, c.size, fun k hk _ => c.block k hk id⟩

set_option maxHeartbeats 1000000 in
theorem seq_in (w : World) (a : Option Addr) : Calls Try.prog 29 #[.pointer a] w fun e w' => e = .returned (.func (.func 31) #[] #[.pointer (some ⟨w.heap.size, 0, none⟩)]) ∧ w' = w.alloc (.cells #[.pointer a] 24) := by
  go_enter Try.func29, Try.ntmps29
  go_wp2
  go_ret
  exact ⟨rfl, rfl⟩

set_option maxRecDepth 100000 in
set_option maxHeartbeats 2000000 in
theorem seq1_in (n : Nat) (hn : 2 ≤ n) (l Bx n₀ p : Nat) (S : Nat → Sl) (hB : Bd S 1000000) (hp : p < n₀) (J Jx : List Int → World → Prop) (W : World) (hJ : AbidesFrom W.heap.size J) (hn₀ : n₀ ≤ W.heap.size)
    (hY : ∀ pre x W, J pre W → pre.length < 64 → YieldAt Fence.wide (n - 1) Try.prog l #[.int .i64 x] W fun e W' =>
      (e = .returned (.bool true) ∧ J (pre ++ [x]) W' ∧ Below n₀ W W') ∨ (e = .returned (.bool false) ∧ Jx (pre ++ [x]) W'))
    (hx : W.cell? ⟨Bx, 0, none⟩ = some (ptr p)) (hT : Tb W p S) (h0 : J [] W) :
    CallsIn Fence.wide n Try.prog 31 #[.func (.yield l) #[] #[], .pointer (some ⟨Bx, 0, none⟩)] W fun e W' => (∃ v, e = .returned v) ∧
      ((∃ ys, ys = hs S 64 ∧ J ys W') ∨ (∃ pre, True ∧ Jx pre W')) := by
  have HA := hide (all_any W p hT)
  have HB := hide hB
  clear hB
  refine callsIn_of_wp Try.func31 rfl trivial ?_ rfl
  simp only [Try.ntmps31, List.size_toArray, List.length_cons, List.length_nil, Nat.reduceAdd, Nat.reduceSub, Array.replicate_succ, Array.replicate_zero, List.push_toArray, List.append_toArray, List.nil_append, List.cons_append]
  have h1 : 1 ≤ n := by omega
  have t1 : Fence.wide.fn 24 := trivial
  have t2 : Fence.wide.fn 27 := trivial
  gi_wp2_with (gi_at_call 24; refine (callsIn_wide.2 HA.out).mono ?_; rintro e w1 ⟨rfl, rfl⟩)
  gi_loopw [8] (fun k wr => ∃ i : Nat, k = .int .i64 (i : Int) ∧ i ≤ 64 ∧ J (hs S i) wr ∧ Below n₀ W wr) (fun k _ => 64 - (intOf k).toNat)
  case atStart => exact ⟨0, rfl, by omega, h0, Below.refl _ _⟩
  case round =>
    obtain ⟨i, rfl, hi, hJs, hb⟩ := hrel
    by_cases hlt : i < 64
    · have hT1 : Tb wr p S := by
        obtain ⟨cs, e1, r⟩ := hT
        exact ⟨cs, (hb.block p hp).trans e1, r⟩
      have c0 := hT1.c0 hlt
      have c1 := hT1.c1 hlt
      have c2 := hT1.c2 hlt
      have he := HB.out i hlt
      have HL : Hid ((hs S i).length < 64) := hide (Nat.lt_of_le_of_lt (hs_length S i) hlt)
      have HJ := hide hJ
      have HY := hide hY
      have H0 : Hid ((S i).t = true → hs S (i + 1) = hs S i ++ [(hd S i : Int)]) := hide hs_yes
      have H1 : Hid ((S i).t = false → hs S (i + 1) = hs S i) := hide hs_not
      obtain ⟨y, hy⟩ : ∃ y, hd S i = y := ⟨_, rfl⟩
      have HH : Hid (∀ W, Calls Try.prog 27 #[(S i).val, .int .i64 (i : Int)] W fun e w' => e = .returned (.int .i64 (y : Int)) ∧ Grow W w') := hide fun W => hd_any W (S i) i _ hlt he hy.symm
      rw [hy] at H0
      have HNB := hide (show n₀ ≤ wr.heap.size from Nat.le_trans hn₀ hb.size)
      have HJ1 := hide (fun W' (c : Grow wr W') => hJ _ _ _ none hJs c.grownBy (fun r e => by cases e))
      obtain ⟨⟨se, st, sv⟩, es⟩ : ∃ s, S i = s := ⟨_, rfl⟩
      rw [es] at c0 c1 c2 H0 H1 HH
      dsimp only at c0 c1 c2 H0 H1
      clear es
      clear hT1 hy he hJ hY hJs
      cases st with
      | false =>
        clear H0
        gi_wp2
        refine ⟨fun _ h => (by cases h), ?_⟩
        gi_wp2
        go_roundw
        case rel => exact ⟨i + 1, by simp, by omega, by rw [H1.out trivial]; exact HJ1.out _ (Grow.box _ _), hb.trans ((Below.refl _ _).alloc HNB.out _)⟩
        case measure => simp [intOf]; omega
      | true =>
        gi_wp2_with (gi_at_call 27; refine (callsIn_wide.2 (HH.out _)).mono ?_; rintro e w1 ⟨rfl, c⟩; obtain ⟨fn, tmps, assign, body, hy, hR⟩ := HY.out _ (y : Int) w1 (HJ1.out _ ((Grow.box _ _).trans c)) HL.out)
        have hb2 : Below n₀ W w1 := hb.trans ((((Grow.box wr (.cells #[.int .i64 (se : Int), .bool true, .int .i64 sv] 26)).trans c)).below (fun _ _ h => h) HNB.out)
        refine hR.mono ?_
        rintro e W3 (⟨rfl, hJ3, hk3⟩ | ⟨rfl, hJx3⟩)
        · gi_wp2
          go_roundw
          case rel => exact ⟨i + 1, by simp, by omega, by rw [H0.out trivial]; exact hJ3, hb2.trans hk3⟩
          case measure => simp [intOf]; omega
        · gi_wp2
          refine bodyPost_ret (results_none rfl _ _ _) rfl ?_
          exact ⟨⟨_, rfl⟩, .inr ⟨_, trivial, hJx3⟩⟩
    · obtain rfl : i = 64 := by omega
      gi_wp2
      go_end0
      exact ⟨⟨_, rfl⟩, .inl ⟨_, rfl, hJs⟩⟩

set_option maxRecDepth 100000 in
set_option maxHeartbeats 2000000 in
/-- The iterator of the nil table: no round. -/
theorem seq1_nil (n : Nat) (hn : 2 ≤ n) (l Bx : Nat) (J : List Int → World → Prop) (W : World) (hx : W.cell? ⟨Bx, 0, none⟩ = some (.pointer none)) (h0 : J [] W) :
    CallsIn Fence.wide n Try.prog 31 #[.func (.yield l) #[] #[], .pointer (some ⟨Bx, 0, none⟩)] W fun e W' => (∃ v, e = .returned v) ∧ J [] W' := by
  refine callsIn_of_wp Try.func31 rfl trivial ?_ rfl
  simp only [Try.ntmps31, List.size_toArray, List.length_cons, List.length_nil, Nat.reduceAdd, Nat.reduceSub, Array.replicate_succ, Array.replicate_zero, List.push_toArray, List.append_toArray, List.nil_append, List.cons_append]
  have h1 : 1 ≤ n := by omega
  have t1 : Fence.wide.fn 24 := trivial
  gi_wp2_with (gi_at_call 24; refine (callsIn_wide.2 (all_nil _)).mono ?_; rintro e w1 ⟨rfl, rfl⟩)
  gi_loopw [8] (fun k wr => k = .int .i64 0 ∧ J [] wr) (fun k _ => 0)
  case atStart => exact ⟨rfl, h0⟩
  case round =>
    obtain ⟨rfl, hJs⟩ := hrel
    gi_wp2
    go_end0
    exact ⟨⟨_, rfl⟩, hJs⟩

theorem seq_stops (n : Nat) (hn : 2 ≤ n) (Bx n₀ p : Nat) (S : Nat → Sl) (hB : Bd S 1000000) (w : World) (hBx : Bx < w.heap.size) (hn₀ : n₀ ≤ w.heap.size) (hp : p < n₀)
    (hc : w.cell? ⟨Bx, 0, none⟩ = some (ptr p)) (hT : Tb w p S) :
    SeqStopsK Fence.wide n Try.prog 31 #[.pointer (some ⟨Bx, 0, none⟩)] (fun x : Int => #[Value.int .i64 x]) (Below n₀) (fun ys => ys = hs S 64) (fun _ => True) 64 w := fun l J Jx W hW hJ _ hY h0 => by
  have hT' : Tb W p S := by
    obtain ⟨cs, e1, r⟩ := hT
    exact ⟨cs, (hW.block p (Nat.lt_of_lt_of_le hp hn₀)).trans e1, r⟩
  exact seq1_in n hn l Bx n₀ p S hB hp J Jx W hJ (Nat.le_trans hn₀ hW.size) hY ((hW.cell (p := ⟨Bx, 0, none⟩) hBx).trans hc) hT' h0
theorem seq_stops_nil (n : Nat) (hn : 2 ≤ n) (Bx n₀ : Nat) (w : World) (hBx : Bx < w.heap.size) (hc : w.cell? ⟨Bx, 0, none⟩ = some (.pointer none)) :
    SeqStopsK Fence.wide n Try.prog 31 #[.pointer (some ⟨Bx, 0, none⟩)] (fun x : Int => #[Value.int .i64 x]) (Below n₀) (fun ys => ys = []) (fun _ => True) 0 w := fun l J Jx W hW hJ _ hY h0 =>
  (seq1_nil n hn l Bx J W ((hW.cell (p := ⟨Bx, 0, none⟩) hBx).trans hc) h0).mono fun e W' ⟨he, hj⟩ => ⟨he, .inl ⟨_, rfl, hj⟩⟩
end Go.Proofs.Ytmklmoahkcekiaa.L8

/- Nodes that say the same are told to be alike. Conditions: lists of at most 1000000 numbers. -/
import Derived.Test.YtcinielgigdhmaaL1Ref01
import Derived.Test.YtcinielgigdhmaaL9Any
namespace Go.Proofs.Ytcinielgigdhmaa.L9
open Go.ChangeShapes Go.WideShapes Go.ChangeAt Go.RowKit
set_option linter.unusedVariables false
theorem own_rd {w : World} {base : Nat} {a : Option Addr} {n c : Nat} {xs : List Int} (h : w.ownsRow base 3 1 (.slice a n c) n (ints xs)) : L1.Rd w a n xs := by
  have hl : xs.length = n := by have := h.1; rw [ints_length] at this; omega
  refine ⟨hl, fun hn => ?_⟩
  obtain ⟨g, cap, e, _, _, _, _, hc⟩ := own_ints h hn
  injection e with e1 e2 e3
  subst e1
  exact ⟨_, rfl, fun i hi => by rw [addr_add, Nat.zero_add]; exact hc i hi⟩
theorem L1.Rd.chg {S : Nat → Prop} {w w' : World} {a : Option Addr} {n : Nat} {xs : List Int} (h : L1.Rd w a n xs) (c : Chg S w w') (hs : ∀ i, i < w.heap.size → ¬ S i) : L1.Rd w' a n xs := by
  refine ⟨h.1, fun hn => ?_⟩
  obtain ⟨x, rfl, hx⟩ := h.2 hn
  exact ⟨x, rfl, fun i hi => c.cell (hx i hi) (hs _ (cell_lt (hx i hi)))⟩
section
variable {w : World} {n m : Nat} {xs ys : List Int}
set_option maxRecDepth 100000 in
set_option maxHeartbeats 1000000 in
theorem same_nd (i c : Int) (fb : Bool) {ar ad br bd : Option Addr} (cr cd cr' cd' : Nat) (h1 : L1.Rd w ar n xs) (h2 : L1.Rd w ad m ys) (h3 : L1.Rd w br n xs) (h4 : L1.Rd w bd m ys) (hn : n ≤ 1000000) (hm : m ≤ 1000000) :
    Calls Try.prog 33 #[.agg #[.int .i64 i, .int .i64 c, .slice ar n cr, .slice ad m cd, .bool fb], .agg #[.int .i64 i, .int .i64 c, .slice br n cr', .slice bd m cd', .bool fb]] w fun e w' => e = .returned (.bool true) ∧ Grow w w' := by
  obtain ⟨e4, e7, gB, F4, F7, hne⟩ := boxes2 w 45 [.int .i64 i, .int .i64 c, .slice ar n cr, .slice ad m cd, .bool fb] 45 [.int .i64 i, .int .i64 c, .slice br n cr', .slice bd m cd', .bool fb]
  have H1 := hide (L1.Rd.chg h1 gB fun _ _ => id)
  have H2 := hide (L1.Rd.chg h2 gB fun _ _ => id)
  have H3 := hide (L1.Rd.chg h3 gB fun _ _ => id)
  have H4 := hide (L1.Rd.chg h4 gB fun _ _ => id)
  clear h1 h2 h3 h4 F4 F7
  go_enter Try.func33, Try.ntmps33
  go_wp2_with fail
  generalize (w.alloc (.cells #[.int .i64 i, .int .i64 c, .slice ar n cr, .slice ad m cd, .bool fb] 45)).alloc (.cells #[.int .i64 i, .int .i64 c, .slice br n cr', .slice bd m cd', .bool fb] 45) = w2 at *
  have x0 : w2.cell? ⟨w.heap.size, 0, none⟩ = some (.int .i64 i) := e4.cell 0
  have x1 : w2.cell? ⟨w.heap.size, 1, none⟩ = some (.int .i64 c) := e4.cell 1
  have x2 : w2.cell? ⟨w.heap.size, 2, none⟩ = some (.slice ar n cr) := e4.cell 2
  have x3 : w2.cell? ⟨w.heap.size, 3, none⟩ = some (.slice ad m cd) := e4.cell 3
  have x4 : w2.cell? ⟨w.heap.size, 4, none⟩ = some (.bool fb) := e4.cell 4
  have y0 : w2.cell? ⟨w.heap.size + 1, 0, none⟩ = some (.int .i64 i) := e7.cell 0
  have y1 : w2.cell? ⟨w.heap.size + 1, 1, none⟩ = some (.int .i64 c) := e7.cell 1
  have y2 : w2.cell? ⟨w.heap.size + 1, 2, none⟩ = some (.slice br n cr') := e7.cell 2
  have y3 : w2.cell? ⟨w.heap.size + 1, 3, none⟩ = some (.slice bd m cd') := e7.cell 3
  have y4 : w2.cell? ⟨w.heap.size + 1, 4, none⟩ = some (.bool fb) := e7.cell 4
  clear e4 e7
  go_wp2_with fail
  go_loopw [47] (fun v wr => ∃ k q : Nat, k ≤ n ∧ v = .int .i64 k ∧ wr = w2.drewN q) (fun v _ => n - (Go.RowKit.intOf v).toNat)
  case atStart => exact ⟨0, 0, Nat.zero_le _, rfl, rfl⟩
  case round =>
    obtain ⟨k, q, hk, rfl, rfl⟩ := hrel
    rcases Nat.eq_or_lt_of_le hk with rfl | hlt
    · have q2 : decide ((k : Int) < k) = false := by simp
      go_wp2_with fail
      go_loopw [65] (fun v wr => ∃ j q : Nat, j ≤ m ∧ v = .int .i64 j ∧ wr = w2.drewN q) (fun v _ => m - (Go.RowKit.intOf v).toNat)
      case atStart => exact ⟨0, q, Nat.zero_le _, rfl, rfl⟩
      case round =>
        obtain ⟨j, q', hj, rfl, rfl⟩ := hrel
        rcases Nat.eq_or_lt_of_le hj with rfl | hlt
        · have q3 : decide ((j : Int) < j) = false := by simp
          go_wp2
          go_ret
          exact ⟨rfl, gB.drewN _⟩
        · have q3 : decide ((j : Int) < m) = true := by simp; omega
          obtain ⟨x, rfl, hx⟩ := H2.out.at_ hlt
          obtain ⟨y, rfl, hy⟩ := H4.out.at_ hlt
          have hw : IntKind.i64.wrap ((j : Int) + 1) = ((j + 1 : Nat) : Int) := (IntWalk.i64_in _ (by omega)).trans (by omega)
          generalize ys.getD j 0 = u at *
          go_wp2_with fail
          go_quiet (fail)
          go_wp2
          go_roundw
          case rel => exact ⟨j + 1, _, by omega, rfl, rfl⟩
          case measure => simp [Go.RowKit.intOf]; omega
    · have q2 : decide ((k : Int) < n) = true := by simp; omega
      obtain ⟨x, rfl, hx⟩ := H1.out.at_ hlt
      obtain ⟨y, rfl, hy⟩ := H3.out.at_ hlt
      have hw : IntKind.i64.wrap ((k : Int) + 1) = ((k + 1 : Nat) : Int) := (IntWalk.i64_in _ (by omega)).trans (by omega)
      generalize xs.getD k 0 = u at *
      go_wp2_with fail
      go_quiet (fail)
      go_wp2
      go_roundw
      case rel => exact ⟨k + 1, _, by omega, rfl, rfl⟩
      case measure => simp [Go.RowKit.intOf]; omega
end
end Go.Proofs.Ytcinielgigdhmaa.L9

/- Lists of ints that the program makes: make, append's own ones. Conditions: the seat has int and []int. -/
import Derived.Test.YtogfjclmohpjkaaGreatDoorKit
namespace Go.Proofs.YtogfjclmohpjkaaGreatDoor
open Go.ChangeShapes Go.WideShapes Go.ChangeAt Go.RowKit
set_option linter.unusedVariables false

theorem Tryz.infoInt : (Tryz.prog.info? 3).map (fun i => (i.zero, i.size, i.bytes)) = some (some (.int .i64 0), 1, 8) := by kernel_rfl
/-- make([]int, x). -/
theorem mk_ints (x : Int) (h0 : 0 ≤ x) (h1 : x ≤ 1099511627776) (W : World) :
    (Instr.makeSlice 37 (.int .i64 x) (.int .i64 x)).run Tryz.prog W = .ok (.slice (some ⟨W.heap.size, 0, none⟩) x.toNat x.toNat) (W.alloc (.cells (ints (zeros x.toNat)).toArray 3)) := by
  obtain ⟨i, hi, hz, hs, hb⟩ := info_parts Tryz.infoInt
  rw [run_make (P := Tryz.prog) W 37 3 i _ Tryz.underlying37 hi hz .i64 .i64 x x h0 (Int.le_refl _) (by rw [hb]; omega) (by omega)]
  have e : madeCells (Value.int .i64 0).cells (x.toNat * i.size) = (ints (zeros x.toNat)).toArray := by
    apply Array.ext'
    rw [hs, Nat.mul_one]
    show (madeCells #[.int .i64 0] x.toNat).toList = _
    rw [toList_madeCells_one]
    simp [ints, zeros]
  rw [e]
theorem Tryz.sizeInt : (Tryz.prog.info? 3).map (·.size) = some 1 := by kernel_rfl
/-- What a list that append made holds. -/
theorem own_ints {w : World} {base : Nat} {v : Value} {n : Nat} {xs : List Int} (h : w.ownsRow base 3 1 v n (ints xs)) (hn : 0 < n) :
    ∃ g cap, v = .slice (some ⟨g, 0, none⟩) n cap ∧ base ≤ g ∧ g < w.heap.size ∧ n ≤ cap ∧ xs.length = n ∧ ∀ i, i < n → w.cell? ⟨g, i, none⟩ = some (.int .i64 (xs.getD i 0)) := by
  have hl : xs.length = n := by have := h.1; rw [ints_length] at this; omega
  rcases h.2 with ⟨_, h0⟩ | ⟨g, cap, cur, rfl, hge, hh, hnc, _, _, _⟩
  · omega
  · refine ⟨g, cap, rfl, hge, (h.lt g rfl).2, hnc, hl, fun i hi => ?_⟩
    have := h.cells (g := g) rfl i _ (ints_get xs i (by omega))
    rwa [addr_add, Nat.zero_add] at this
end Go.Proofs.YtogfjclmohpjkaaGreatDoor

/- Nodes that say the same are told to be alike. Conditions: lists of at most 1000000 numbers. -/
import Derived.Test.YtjofdamobnemcaaL1Ref01
import Derived.Test.YtjofdamobnemcaaL9Any
namespace Go.Proofs.Ytjofdamobnemcaa.L9
open Go.ChangeShapes Go.WideShapes Go.ChangeAt Go.RowKit
set_option linter.unusedVariables false
theorem own_rd {w : World} {base : Nat} {a : Option Addr} {n c : Nat} {xs : List Int} (h : w.ownsRow base 3 1 (.slice a n c) n (ints xs)) : L1.Rd w a n xs := by
  have hl : xs.length = n := by have := h.1; rw [ints_length] at this; omega
  refine ⟨hl, fun hn => ?_⟩
  obtain ⟨g, cap, e, _, _, _, _, hc⟩ := own_ints h hn
  injection e with e1 e2 e3
  subst e1
  exact ⟨_, rfl, fun i hi => by rw [addr_add, Nat.zero_add]; exact hc i hi⟩
theorem L1.Rd.chg {S : Nat → Prop} {w w' : World} {a : Option Addr} {n : Nat} {xs : List Int} (h : L1.Rd w a n xs) (c : Chg S w w') (hs : ∀ i, i < w.heap.size → ¬ S i) : L1.Rd w' a n xs := by
  refine ⟨h.1, fun hn => ?_⟩
  obtain ⟨x, rfl, hx⟩ := h.2 hn
  exact ⟨x, rfl, fun i hi => c.cell (hx i hi) (hs _ (cell_lt (hx i hi)))⟩
section
variable {w : World} {n m : Nat} {xs ys : List Int}
end
end Go.Proofs.Ytjofdamobnemcaa.L9

/- The calls of package bits with their answers given beside them. Conditions: as in the texts before. -/
import Derived.Test.YtobecefikkgelaaDoorMs
namespace Go.Proofs.YtobecefikkgelaaDoor
open Go.ChangeShapes Go.WideShapes Go.ChangeAt Go.RowKit
set_option linter.unusedVariables false

section
variable {w : World} {p g n : Nat} {S T : Nat → Bool} {i a b : Int} {v : Int} {c : Bool}
theorem has_is (h : Ms w p g n S) (hv : hasI S n i = c) : Calls Tryd.prog 16 #[ptr p, .int .i64 i] w fun e w' => e = .returned (.bool c) ∧ Grow w w' := hv ▸ ms_has i h
theorem next_is (h : Ms w p g n S) (ht : Tab w) (hv : nx S n i = v) : Calls Tryd.prog 18 #[ptr p, .int .i64 i] w fun e w' => e = .returned (.int .i64 v) ∧ Grow w w' := hv ▸ ms_next i h ht
theorem count_is (h : Ms w p g n S) (hv : (cnt S n : Int) = v) : Calls Tryd.prog 23 #[ptr p] w fun e w' => e = .returned (.int .i64 v) ∧ Grow w w' := hv ▸ ms_count h
theorem between_is (h : Ms w p g n S) (hv : (btw S n a b : Int) = v) : Calls Tryd.prog 20 #[ptr p, .int .i64 a, .int .i64 b] w fun e w' => e = .returned (.int .i64 v) ∧ Grow w w' := hv ▸ ms_between a b h
theorem set_is (h : Ms w p g n S) (hv : (exB n i && !S i.toNat) = c) (hT : setI S n i true = T) : Calls Tryd.prog 13 #[ptr p, .int .i64 i] w fun e w' => e = .returned (.bool c) ∧ Ms w' p g n T ∧ Chg (· = g) w w' := hv ▸ hT ▸ ms_set i h
theorem clear_is (h : Ms w p g n S) (hv : hasI S n i = c) (hT : setI S n i false = T) : Calls Tryd.prog 15 #[ptr p, .int .i64 i] w fun e w' => e = .returned (.bool c) ∧ Ms w' p g n T ∧ Chg (· = g) w w' := hv ▸ hT ▸ ms_clear i h
end

/-- None is set. -/
abbrev no : Nat → Bool := fun _ => false
theorem cnt_no (n : Nat) : cnt no n = 0 := cnt_none fun _ _ => rfl
theorem nx_no (n : Nat) (i : Int) : nx no n i = -1 := nx_none fun _ _ _ => rfl
theorem exB_in {n k : Nat} (h : k < n) : exB n (k : Int) = true := by simp [exB]; omega
theorem exB_out {n : Nat} {i : Int} (h : i < 0 ∨ n ≤ i) : exB n i = false := by unfold exB; rw [decide_eq_false_iff_not]; omega
theorem setI_in {S : Nat → Bool} {n k : Nat} {b : Bool} (h : k < n) : setI S n (k : Int) b = upd S k b := by simp [setI, exB_in h]
theorem setI_out {S : Nat → Bool} {n : Nat} {i : Int} {b : Bool} (h : exB n i = false) : setI S n i b = S := by simp [setI, h]
theorem upd_at (S : Nat → Bool) (k : Nat) (b : Bool) : upd S k b k = b := by simp [upd]
theorem upd_ne {S : Nat → Bool} {k j : Nat} {b : Bool} (h : j ≠ k) : upd S k b j = S j := by simp [upd, h]
theorem upd_upd (S : Nat → Bool) (k : Nat) (a b : Bool) : upd (upd S k a) k b = upd S k b := by
  funext j
  unfold upd
  split <;> rfl

theorem Chg.new {w w' w'' : World} {g : Nat} (c : Chg (fun _ => False) w w') (h : w.heap.size ≤ g) (k : Chg (· = g) w' w'') : Grow w w'' := Grow.new c h k
theorem Chg.under {w w' : World} (c : Chg (fun _ => False) w w') : Below w.heap.size w w' := c.below (fun _ _ h => h) (Nat.le_refl _)

/-- What is set behind the first k of a list. -/
def setTo (S : Nat → Bool) (zs : List Int) : Nat → Nat → Bool
  | 0 => S
  | k + 1 => setI (setTo S zs k) 4096 (zs.getD k 0) true
/-- A list that came in is there still. -/
theorem IsRow.grow {k : IntKind} {w w' : World} {a : Option Addr} {len cap : Nat} {zs : List Int} (h : IsRow k w a len cap zs) (c : Grow w w') : IsRow k w' a len cap zs := h.chg c fun _ _ => id
end Go.Proofs.YtobecefikkgelaaDoor

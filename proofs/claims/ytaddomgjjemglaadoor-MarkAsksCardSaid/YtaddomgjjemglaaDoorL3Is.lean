/- The calls of package bits with their answers given beside them. Conditions: as in the texts before. -/
import Derived.Test.YtaddomgjjemglaaDoorL3Ms
namespace Go.Proofs.YtaddomgjjemglaaDoor.L3
open Go.ChangeShapes Go.WideShapes Go.ChangeAt Go.RowKit
set_option linter.unusedVariables false

section
variable {w : World} {p g n : Nat} {S T : Nat → Bool} {i a b : Int} {v : Int} {c : Bool}
theorem has_is (h : Ms w p g n S) (hv : hasI S n i = c) : Calls Tryd.prog 18 #[ptr p, .int .i64 i] w fun e w' => e = .returned (.bool c) ∧ Grow w w' := hv ▸ ms_has i h
theorem next_is (h : Ms w p g n S) (ht : Tab w) (hv : nx S n i = v) : Calls Tryd.prog 37 #[ptr p, .int .i64 i] w fun e w' => e = .returned (.int .i64 v) ∧ Grow w w' := hv ▸ ms_next i h ht
theorem count_is (h : Ms w p g n S) (hv : (cnt S n : Int) = v) : Calls Tryd.prog 19 #[ptr p] w fun e w' => e = .returned (.int .i64 v) ∧ Grow w w' := hv ▸ ms_count h
theorem set_is (h : Ms w p g n S) (hv : (exB n i && !S i.toNat) = c) (hT : setI S n i true = T) : Calls Tryd.prog 36 #[ptr p, .int .i64 i] w fun e w' => e = .returned (.bool c) ∧ Ms w' p g n T ∧ Chg (· = g) w w' := hv ▸ hT ▸ ms_set i h
end

/-- None is set. -/
abbrev no : Nat → Bool := fun _ => false
theorem cnt_no (n : Nat) : cnt no n = 0 := cnt_none fun _ _ => rfl
theorem nx_no (n : Nat) (i : Int) : nx no n i = -1 := nx_none fun _ _ _ => rfl
theorem exB_in {n k : Nat} (h : k < n) : exB n (k : Int) = true := by simp [exB]; omega
theorem exB_out {n : Nat} {i : Int} (h : i < 0 ∨ n ≤ i) : exB n i = false := by unfold exB; rw [decide_eq_false_iff_not]; omega
theorem setI_in {S : Nat → Bool} {n k : Nat} {b : Bool} (h : k < n) : setI S n (k : Int) b = upd S k b := by simp [setI, exB_in h]
theorem setI_out {S : Nat → Bool} {n : Nat} {i : Int} {b : Bool} (h : exB n i = false) : setI S n i b = S := by simp [setI, h]
theorem upd_at (S : Nat → Bool) (k : Nat) (b : Bool) : upd S k b k = b := by simp [upd]
theorem upd_ne {S : Nat → Bool} {k j : Nat} {b : Bool} (h : j ≠ k) : upd S k b j = S j := by simp [upd, h]
theorem upd_upd (S : Nat → Bool) (k : Nat) (a b : Bool) : upd (upd S k a) k b = upd S k b := by
  funext j
  unfold upd
  split <;> rfl

theorem _root_.Go.Proofs.YtaddomgjjemglaaDoor.Chg.new {w w' w'' : World} {g : Nat} (c : Chg (fun _ => False) w w') (h : w.heap.size ≤ g) (k : Chg (· = g) w' w'') : Grow w w'' := Grow.new c h k
theorem _root_.Go.Proofs.YtaddomgjjemglaaDoor.Chg.under {w w' : World} (c : Chg (fun _ => False) w w') : Below w.heap.size w w' := c.below (fun _ _ h => h) (Nat.le_refl _)

/-- What is set behind the first k of a list. -/
def setTo (S : Nat → Bool) (zs : List Int) : Nat → Nat → Bool
  | 0 => S
  | k + 1 => setI (setTo S zs k) 4096 (zs.getD k 0) true
theorem setI_on {S : Nat → Bool} {n : Nat} {i : Int} {j : Nat} (h : S j = true) : setI S n i true j = true := by
  unfold setI
  split
  · unfold upd; split
    · rfl
    · exact h
  · exact h
theorem setTo_on {S : Nat → Bool} {zs : List Int} {j : Nat} (h : S j = true) (k : Nat) : setTo S zs k j = true := by
  induction k with
  | zero => exact h
  | succ k ih => exact setI_on ih
/-- What was in the list is set, where it can be. -/
theorem setTo_has {S : Nat → Bool} {zs : List Int} {i k : Nat} (hi : i < k) (h0 : 0 ≤ zs.getD i 0) : hasI (setTo S zs k) 4096 (zs.getD i 0) = decide (zs.getD i 0 < 4096) := by
  by_cases h : zs.getD i 0 < 4096
  · have hx : exB 4096 (zs.getD i 0) = true := by unfold exB; rw [decide_eq_true_eq]; omega
    have : setTo S zs k (zs.getD i 0).toNat = true := by
      induction k with
      | zero => omega
      | succ k ih =>
        by_cases e : i = k
        · subst e
          show setI (setTo S zs i) 4096 (zs.getD i 0) true _ = true
          unfold setI
          rw [hx, if_pos rfl]
          exact upd_at _ _ _
        · exact setI_on (ih (by omega))
    unfold hasI
    rw [hx, this, decide_eq_true h]
    rfl
  · unfold hasI
    rw [exB_out (.inr (by omega)), decide_eq_false h]
    rfl
theorem setI_cnt (S : Nat → Bool) (n : Nat) (i : Int) : cnt (setI S n i true) n = cnt S n + if (exB n i && !S i.toNat) = true then 1 else 0 := by
  unfold setI
  cases hx : exB n i with
  | false => simp
  | true =>
    obtain ⟨k, rfl, hk⟩ := exB_nat hx
    simp only [if_true, Int.toNat_natCast, Bool.true_and]
    cases hs : S k with
    | true => rw [upd_same hs]; rfl
    | false => rw [cnt_on (S := S) hk hs (upd_at _ _ _) fun j hj => upd_ne hj]; rfl
theorem setTo_cnt (zs : List Int) (k : Nat) : cnt (setTo no zs k) 4096 ≤ k := by
  induction k with
  | zero => exact Nat.le_of_eq (cnt_no 4096)
  | succ k ih =>
    show cnt (setI (setTo no zs k) 4096 _ true) 4096 ≤ _
    rw [setI_cnt]
    split <;> omega
theorem cnt_s (S : Nat → Bool) (n : Nat) : cnt S (n + 1) = cnt S n + (S n).toNat := by
  show cnt S n + (if S n = true then 1 else 0) = _
  cases S n <;> rfl
/-- How many are set of those from a place on, below another. -/
theorem cnt_range (S : Nat → Bool) (A B m : Nat) : cnt (fun i => S i && decide (A ≤ i ∧ i < B)) m = cnt S (min m B) - cnt S (min m A) := by
  induction m with
  | zero => simp [cnt]
  | succ m ih =>
    rw [cnt_s, ih]
    by_cases h1 : m < A
    · rw [decide_eq_false (show ¬ (A ≤ m ∧ m < B) by omega), Bool.and_false]
      have e1 : cnt S (min (m + 1) B) ≤ cnt S (min (m + 1) A) := cnt_mono S (by omega)
      have e2 : cnt S (min m B) ≤ cnt S (min m A) := cnt_mono S (by omega)
      rw [Bool.toNat_false]
      omega
    · rw [show min (m + 1) A = A by omega, show min m A = A by omega]
      by_cases h2 : m < B
      · rw [show min (m + 1) B = m + 1 by omega, show min m B = m by omega, decide_eq_true (show A ≤ m ∧ m < B by omega), Bool.and_true, cnt_s]
        have := cnt_mono S (show A ≤ m by omega)
        omega
      · rw [show min (m + 1) B = B by omega, show min m B = B by omega, decide_eq_false (show ¬ (A ≤ m ∧ m < B) by omega), Bool.and_false, Bool.toNat_false]
        rfl
theorem btw_range (S : Nat → Bool) (n : Nat) (a b : Int) : btw S n a b = cnt (fun i => S i && decide (a ≤ (i : Int) ∧ (i : Int) < b)) n := by
  have e : cnt (fun i => S i && decide (a ≤ (i : Int) ∧ (i : Int) < b)) n = cnt (fun i => S i && decide (cl n a ≤ i ∧ i < cl n b)) n := cnt_congr fun i hi => by
    show (S i && _) = (S i && _)
    rw [show (decide (a ≤ (i : Int) ∧ (i : Int) < b)) = decide (cl n a ≤ i ∧ i < cl n b) from decide_eq_decide.2 (by unfold cl; omega)]
  unfold btw
  rw [e, cnt_range, show min n (cl n b) = cl n b by unfold cl; omega, show min n (cl n a) = cl n a by unfold cl; omega]
/-- A list that came in is there still. -/
theorem _root_.Go.Proofs.YtaddomgjjemglaaDoor.IsRow.grow {k : IntKind} {w w' : World} {a : Option Addr} {len cap : Nat} {zs : List Int} (h : IsRow k w a len cap zs) (c : Grow w w') : IsRow k w' a len cap zs := h.chg c fun _ _ => id
end Go.Proofs.YtaddomgjjemglaaDoor.L3

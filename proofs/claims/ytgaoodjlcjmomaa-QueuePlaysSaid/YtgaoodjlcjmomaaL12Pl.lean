/- What QueuePlays does to both sets, as lists. Conditions: none; nothing here speaks of the program. -/
import Derived.Test.YtgaoodjlcjmomaaL12RefA
import Derived.Deep.RegionHeld3
namespace Go.Proofs.Ytgaoodjlcjmomaa.L12
open Go.ChangeShapes Go.WideShapes Go.ChangeAt Go.RowKit
set_option linter.unusedVariables false
section
variable {w w' : World} {z p N i : Nat} {S T : Nat → Prop} {Q Q' : Nat → List Int} {E : List Int} {x m : Int}
theorem QS.congr (h : QS w z S p Q E) (e : ∀ i, i < 4 → Q i = Q' i) : QS w z S p Q' E := by
  obtain ⟨v, h⟩ := h
  exact ⟨v, h.blk, h.ls.congr e, h.ev, h.sp, h.sq, h.sm, h.s, h.wf, fun i hi x hx => h.inn i hi x (by rw [e i hi]; exact hx)⟩
theorem cat_in (hi : i < 4) (hx : x ∈ Q i) : x ∈ cat Q 4 := (cat_mem x 4).2 ⟨i, hi, hx⟩
theorem keep_rnQ (hi : i < 4) : rnQ (keepF (cat Q 4) m) Q i = Q i := by
  unfold rnQ
  have : (Q i).map (keepF (cat Q 4) m) = (Q i).map id := List.map_congr_left fun x hx => if_pos (cat_in hi hx)
  rw [this, List.map_id]
theorem add0_rnQ : rnQ (adF 0) Q = Q := by
  funext i
  unfold rnQ
  have : adF 0 = id := by funext x; simp [adF]
  rw [this, List.map_id]
/-- What is kept when all below m that is in no queue is forgotten. -/
def kpE (m : Int) (Q : Nat → List Int) (E : List Int) : List Int := E.filter fun x => decide (x ∈ cat Q 4) || decide (m ≤ x)
theorem keep_rnE (h : ∀ x ∈ E, 1 ≤ x) : rnE (keepF (cat Q 4) m) Q E = kpE m Q E := by
  unfold rnE kpE
  have e1 : (E.filter fun x => !decide (keepF (cat Q 4) m x = 0) || decide (x ∈ cat Q 4)) = E.filter fun x => decide (x ∈ cat Q 4) || decide (m ≤ x) := by
    refine List.filter_congr fun x hx => ?_
    have h1 := h x hx
    unfold keepF
    by_cases e : x ∈ cat Q 4
    · simp [e]
    · by_cases e2 : x < m
      · simp [e, e2]
      · have e3 : m ≤ x := by omega
        have e4 : ¬ x = 0 := by omega
        simp [e, e2, e3, e4]
  rw [e1]
  have : (E.filter fun x => decide (x ∈ cat Q 4) || decide (m ≤ x)).map (keepF (cat Q 4) m) = (E.filter fun x => decide (x ∈ cat Q 4) || decide (m ≤ x)).map id := List.map_congr_left fun x hx => by
    have h2 := (List.mem_filter.1 hx).2
    unfold keepF
    by_cases e : x ∈ cat Q 4
    · rw [if_pos e]; rfl
    · rw [if_neg e]
      simp [e] at h2
      rw [if_neg (by omega)]; rfl
  rw [this, List.map_id]
theorem add0_adR : adR 0 m Q E = kpE m Q E := by
  unfold adR kpE
  have e0 : adF 0 = id := by funext x; simp [adF]
  rw [e0, List.map_id, List.map_id]
  simp
theorem up_rnE (h : ∀ x ∈ E, 1 ≤ x) (hm : 0 ≤ m) : rnE (adF m) Q E = E.map (adF m) := rnE_all fun x hx => by have := h x hx; unfold adF; omega
theorem up_adR (h : ∀ x ∈ E, 1 ≤ x) : adR m 0 Q E = E.map (adF m) := by
  unfold adR
  rw [List.filter_eq_self.2 fun x hx => by have := h x hx; simp; omega]
theorem kp_all {P : Int → Prop} (h : ∀ x ∈ E, P x) : ∀ x ∈ kpE m Q E, P x := fun x hx => h x (List.mem_filter.1 hx).1
theorem few_kp (h : Few Q E N) : Few Q (kpE m Q E) N := ⟨Nat.le_trans (List.length_filter_le _ _) h.1, h.2⟩
theorem few_up (h : Few Q E N) : Few (rnQ (adF m) Q) (E.map (adF m)) N := ⟨by rw [List.length_map]; exact h.1, fun i hi => by unfold rnQ; rw [List.length_map]; exact h.2 i hi⟩
theorem ql_rd {a : Option Addr} {n c : Nat} {xs : List Int} (h : QL w z (.slice a n c) xs) (hn : xs.length = n) : L1.Rd w a n xs := by
  subst hn
  obtain ⟨a', c', e, hr⟩ := h.form
  injection e with e1 e2 e3
  rw [e1]
  exact hr
/-- All queues' lengths, from 0 to 5. -/
def sumL (Q : Nat → List Int) : Nat → Int
  | 0 => 0
  | k + 1 => sumL Q k + lnV Q k
theorem sumL_six (Q : Nat → List Int) : sumL Q 6 = ((cat Q 4).length : Int) := by
  have l0 : lnV Q ((0 : Nat) : Int) = 0 := rfl
  have l5 : lnV Q ((5 : Nat) : Int) = 0 := rfl
  have l1 : lnV Q ((1 : Nat) : Int) = ((Q 0).length : Int) := rfl
  have l2 : lnV Q ((2 : Nat) : Int) = ((Q 1).length : Int) := rfl
  have l3 : lnV Q ((3 : Nat) : Int) = ((Q 2).length : Int) := rfl
  have l4 : lnV Q ((4 : Nat) : Int) = ((Q 3).length : Int) := rfl
  simp only [sumL, l0, l1, l2, l3, l4, l5, cat, List.length_append, List.length_nil]
  omega
theorem sumL_bd (h : Few Q E N) (hN : N ≤ 1000) : ∀ k, k ≤ 6 → 0 ≤ sumL Q k ∧ sumL Q k ≤ k * 1000
  | 0, _ => by simp [sumL]
  | k + 1, hk => by
    have ih := sumL_bd h hN k (by omega)
    have h1 : 0 ≤ lnV Q (k : Int) ∧ lnV Q (k : Int) ≤ 1000 := by
      unfold lnV
      split
      · rename_i hq
        have := h.2 _ (isQ_yes hq).1
        omega
      · omega
    unfold sumL
    omega
end
end Go.Proofs.Ytgaoodjlcjmomaa.L12

/- What QueueNames does to a set, as lists. Conditions: none; nothing here speaks of the program. -/
import Derived.Test.YtgaoodjlcjmomaaL12Fg
namespace Go.Proofs.Ytgaoodjlcjmomaa.L12
open Go.ChangeShapes Go.WideShapes Go.ChangeAt Go.RowKit
set_option linter.unusedVariables false
section
variable {Q : Nat → List Int} {E : List Int} {q x y n : Int} {f : Int → Int}
theorem pu_mem (h : isQ q = true) : x ∈ puE E q x := by
  unfold puE puB
  rw [h]
  by_cases e : x ∈ E <;> simp [e]
theorem pu_old (h : y ∈ E) : y ∈ puE E q x := by
  unfold puE
  split
  · exact List.mem_append_left _ h
  · exact h
theorem pu_all {p : Int → Prop} (h : ∀ y ∈ E, p y) (hx : p x) : ∀ y ∈ puE E q x, p y := by
  unfold puE
  split
  · intro y hy
    rcases List.mem_append.1 hy with hy | hy
    · exact h y hy
    · simp at hy; rw [hy]; exact hx
  · exact h
theorem rnE_all (h : ∀ x ∈ E, f x ≠ 0) : rnE f Q E = E.map f := by
  unfold rnE
  rw [List.filter_eq_self.2 fun x hx => by simp [h x hx]]
theorem cat_rn (f : Int → Int) (Q : Nat → List Int) : ∀ k, cat (rnQ f Q) k = (cat Q k).map f
  | 0 => rfl
  | k + 1 => by
    unfold cat
    rw [cat_rn f Q k, List.map_append]
    rfl
def upF (n x : Int) : Int := x + 1000 * n
def downF (n x : Int) : Int := x - 1000 * n + 500
def fiveF (x : Int) : Int := x - 500
theorem three (n : Int) (Q : Nat → List Int) : rnQ fiveF (rnQ (downF n) (rnQ (upF n) Q)) = Q := by
  funext i
  unfold rnQ
  rw [List.map_map, List.map_map]
  have : (fiveF ∘ downF n) ∘ upF n = id := by
    funext x
    simp only [Function.comp, fiveF, downF, upF, id]
    omega
  rw [this, List.map_id]
theorem three_mem (Q' : Nat → List Int) (h : y ∈ rnE fiveF Q' ((E.map (upF n)).map (downF n))) : y ∈ E := by
  unfold rnE at h
  obtain ⟨u, hu, rfl⟩ := List.mem_map.1 h
  have h1 := (List.mem_filter.1 hu).1
  rw [List.map_map] at h1
  obtain ⟨x, hx, rfl⟩ := List.mem_map.1 h1
  have : fiveF ((downF n ∘ upF n) x) = x := by
    simp only [Function.comp, fiveF, downF, upF]
    omega
  rw [this]
  exact hx
/-- The blocks that the law itself looks at: the box, two lists. -/
def tN (b : Nat) (a1 a2 : Option Addr) : Nat → Prop := fun k => k = b ∨ (∃ x, a1 = some x ∧ x.block = k) ∨ ∃ x, a2 = some x ∧ x.block = k
theorem few_put0 {N : Nat} (h : Few Q E N) (hm : x ∈ E) (q : Int) : Few (puQ Q E q x) (puE E q x) N := by
  have hb : puB E q x = false := by unfold puB; rw [decide_eq_true hm, Bool.and_comm]; rfl
  unfold puQ puE
  rw [hb]
  exact h
end
section
variable {w : World} {z p : Nat} {S : Nat → Prop} {Q : Nat → List Int} {E : List Int} {x q : Int}
/-- What was in ever is put again: nothing but new memory. -/
theorem put_old (h : QS w z S p Q E) (hx : In64 x) (hm : x ∈ E) (hq : isQ q = true) :
    Calls Try.prog 11 #[ptr p, .int .i64 q, .int .i64 x] w fun e w' => e = .returned (.tuple #[.bool false, .int .i64 0]) ∧ Grow w w' := by
  obtain ⟨hi, e⟩ := isQ_yes hq
  obtain ⟨v, h⟩ := h
  have := put_was h hi hx hm
  rw [← e] at this
  exact this
end
end Go.Proofs.Ytgaoodjlcjmomaa.L12

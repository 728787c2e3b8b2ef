/- Graphs: what the reading calls answer, as plain functions of the list of nodes. Conditions: none; nothing here speaks of the program. -/
import Derived.Test.YtjofdamobnemcaaL9Gr
namespace Go.Proofs.Ytjofdamobnemcaa.L9
open Go.ChangeShapes Go.WideShapes Go.ChangeAt Go.RowKit Go.Maps
open Go.Proofs.Ytjofdamobnemcaa.L5 (Cl clV rtB Tb clAt shX shR shD woV hoB IsCls newX isRf)
set_option linter.unusedVariables false

/-- The kind of a class; is it a reference class? -/
def kd (o : Option Cl) : Int := match o with
  | none => 0
  | some c => c.k
/-- What a node holds, where it aims. -/
def hld (r : Bool) (l : List Int) : List Int := (if r then l.drop 1 else l).filter fun x => decide (x ≠ 0)
def hldX (cs : List Cl) (L : List Nd) (i : Int) : List Int := match nd L i with
  | none => []
  | some x => hld (isRf (kd (clAt cs x.c))) x.refs
def aimX (cs : List Cl) (L : List Nd) (i : Int) : Int × Int := match nd L i with
  | none => (0, 0)
  | some x => if isRf (kd (clAt cs x.c)) then (x.refs.getD 0 0, kd (clAt cs x.c)) else (0, 0)
def wos (L : List Nd) : Nat := (L.map Nd.wo).sum
theorem hld_step (r : Bool) (l : List Int) (k : Nat) (hk : k < l.length) : hld r (l.take (k + 1)) = hld r (l.take k) ++ (if (decide (0 < k) || !r) && decide (l.getD k 0 ≠ 0) then [l.getD k 0] else []) := by
  have e : l.take (k + 1) = l.take k ++ [l.getD k 0] := by
    rw [List.take_add_one, List.getElem?_eq_getElem hk, List.getD_eq_getElem?_getD, List.getElem?_eq_getElem hk]
    rfl
  have hl : (l.take k).length = k := by simp; omega
  unfold hld
  rw [e]
  obtain ⟨q, hq⟩ : ∃ q, l.getD k 0 = q := ⟨_, rfl⟩
  rw [hq] at e ⊢
  cases r with
  | false => by_cases h0 : q = 0 <;> simp [h0]
  | true =>
    rcases Nat.eq_zero_or_pos k with rfl | hp
    · simp
    · have : List.drop 1 (l.take k ++ [q]) = List.drop 1 (l.take k) ++ [q] := List.drop_append_of_le_length (by omega)
      simp only [if_true, this]
      by_cases h0 : q = 0 <;> simp [h0, hp]
theorem hld_len (r : Bool) (l : List Int) : (hld r l).length ≤ l.length := by
  unfold hld
  refine Nat.le_trans (List.length_filter_le _ _) ?_
  cases r <;> simp
/-- The words of those that have come: one more. -/
theorem wos_step {L : List Nd} (hs : Srt L) {p : Int → Bool} {x : Nd} (hx : x ∈ L) (hp : p x.id = false) : wos (L.filter fun y => p y.id || decide (y.id = x.id)) = wos (L.filter fun y => p y.id) + x.wo := by
  unfold wos
  induction L with
  | nil => cases hx
  | cons a l ih =>
    obtain ⟨h1, h2⟩ := List.pairwise_cons.1 hs
    rcases List.mem_cons.1 hx with rfl | hx'
    · have e : (l.filter fun y => p y.id || decide (y.id = x.id)) = l.filter fun y => p y.id := by
        refine List.filter_congr fun y hy => ?_
        have := h1 y hy
        have : ¬ y.id = x.id := by omega
        simp [this]
      simp only [List.filter_cons, hp, Bool.false_or, decide_true, if_true, e]
      simp [Nat.add_comm]
    · have hne : ¬ a.id = x.id := by have := h1 x hx'; omega
      simp only [List.filter_cons, hne, decide_false, Bool.or_false]
      have := ih h2 hx'
      split
      · simp only [List.map_cons, List.sum_cons, this]; omega
      · exact this
theorem wos_le {cs : List Cl} {L : List Nd} (h : ∀ x ∈ L, x.Ok cs) : wos L ≤ 62 * L.length := by
  unfold wos
  induction L with
  | nil => simp
  | cons a l ih =>
    have h1 := ih fun x hx => h x (List.mem_cons_of_mem _ hx)
    have h2 := (h a List.mem_cons_self).rl
    have h3 := (h a List.mem_cons_self).dl
    simp only [List.map_cons, List.sum_cons, List.length_cons]
    have : a.wo = 2 + a.refs.length + a.data.length := rfl
    omega
theorem len_step {L : List Nd} (hs : Srt L) {p : Int → Bool} {x : Nd} (hx : x ∈ L) (hp : p x.id = false) : (L.filter fun y => p y.id || decide (y.id = x.id)).length = (L.filter fun y => p y.id).length + 1 := by
  induction L with
  | nil => cases hx
  | cons a l ih =>
    obtain ⟨h1, h2⟩ := List.pairwise_cons.1 hs
    rcases List.mem_cons.1 hx with rfl | hx'
    · have e : (l.filter fun y => p y.id || decide (y.id = x.id)) = l.filter fun y => p y.id := by
        refine List.filter_congr fun y hy => ?_
        have := h1 y hy
        have : ¬ y.id = x.id := by omega
        simp [this]
      simp only [List.filter_cons, hp, Bool.false_or, decide_true, if_true, e]
      simp
    · have hne : ¬ a.id = x.id := by have := h1 x hx'; omega
      simp only [List.filter_cons, hne, decide_false, Bool.or_false]
      have := ih h2 hx'
      split
      · simp only [List.length_cons, this]
      · exact this
end Go.Proofs.Ytjofdamobnemcaa.L9

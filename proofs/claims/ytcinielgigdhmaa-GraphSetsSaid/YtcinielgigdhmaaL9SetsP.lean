/- GraphSets: what a node is behind SetRef and SetNum. Conditions: none. -/
import Derived.Test.YtcinielgigdhmaaL9Start
import Derived.Test.YtcinielgigdhmaaL9Tn
namespace Go.Proofs.Ytcinielgigdhmaa.graphSets
open Go.ChangeShapes Go.WideShapes Go.ChangeAt Go.RowKit Go.Proofs.Ytcinielgigdhmaa.L9
open Go.Proofs.Ytcinielgigdhmaa.L5 (Cl clAt IsCls newX)
set_option linter.unusedVariables false
/-- A node behind SetRef and, where odd, SetNum. -/
def bR (L : List Nd) (o : Oq) (x : Nd) : Bool := decide (x.id = o.a) && decide (srX L o.a o.b o.c = 0)
def bD (L : List Nd) (o : Oq) (odd : Bool) (x : Nd) : Bool := decide (x.id = o.a) && (odd && decide (snX (srL L o.a o.b o.c) o.a o.b = 0))
def seL (L : List Nd) (o : Oq) (odd : Bool) : List Nd := if odd then snL (srL L o.a o.b o.c) o.a o.b o.c else srL L o.a o.b o.c
def seN (L : List Nd) (o : Oq) (odd : Bool) (x : Nd) : Nd := { x with refs := if bR L o x then x.refs.set o.b.toNat o.c else x.refs, data := if bD L o odd x then x.data.set o.b.toNat o.c else x.data }
theorem sr_nd (L : List Nd) (o : Oq) {x : Nd} (hx : nd L x.id = some x) : nd (srL L o.a o.b o.c) x.id = some { x with refs := if bR L o x then x.refs.set o.b.toNat o.c else x.refs } := by
  unfold srL bR
  by_cases h0 : srX L o.a o.b o.c = 0
  · rw [if_pos h0, nd_upd (fun x : Nd => { x with refs := x.refs.set o.b.toNat o.c }) (fun _ => rfl), hx]
    by_cases e : x.id = o.a
    · simp [e, h0]
    · simp [e]
  · rw [if_neg h0, hx]
    simp [h0]
theorem se_nd (L : List Nd) (o : Oq) (odd : Bool) {x : Nd} (hx : nd L x.id = some x) : nd (seL L o odd) x.id = some (seN L o odd x) := by
  have h1 := sr_nd L o hx
  unfold seL seN bD
  cases odd with
  | false => simpa using h1
  | true =>
    simp only [if_true, Bool.true_and]
    unfold snL
    by_cases h0 : snX (srL L o.a o.b o.c) o.a o.b = 0
    · rw [if_pos h0, nd_upd (fun x : Nd => { x with data := x.data.set o.b.toNat o.c }) (fun _ => rfl), h1]
      by_cases e : x.id = o.a
      · simp [e, h0]
      · simp [e]
    · rw [if_neg h0, h1]
      simp [h0]
theorem bR_in {L : List Nd} {o : Oq} {x : Nd} (hx : nd L x.id = some x) (h : bR L o x = true) : 0 ≤ o.b ∧ o.b.toNat < x.refs.length := by
  unfold bR at h
  simp at h
  obtain ⟨e, h⟩ := h
  unfold srX at h
  rw [← e, hx] at h
  simp only at h
  by_cases h1 : o.b < 0 ∨ (x.refs.length : Int) ≤ o.b
  · rw [if_pos h1] at h; cases h
  · omega
theorem bD_in {L : List Nd} {o : Oq} {odd : Bool} {x : Nd} (hx : nd L x.id = some x) (h : bD L o odd x = true) : 0 ≤ o.b ∧ o.b.toNat < x.data.length := by
  unfold bD at h
  simp at h
  obtain ⟨e, _, h⟩ := h
  have h1 := sr_nd L o hx
  unfold snX at h
  rw [← e] at h
  rw [← e] at h1
  rw [h1] at h
  simp only at h
  by_cases h1 : o.b < 0 ∨ (x.data.length : Int) ≤ o.b
  · rw [if_pos h1] at h; cases h
  · omega
theorem seN_len (L : List Nd) (o : Oq) (odd : Bool) (x : Nd) : (seN L o odd x).refs.length = x.refs.length ∧ (seN L o odd x).data.length = x.data.length := by
  unfold seN
  constructor
  · show (if _ then _ else _ : List Int).length = _
    split <;> simp
  · show (if _ then _ else _ : List Int).length = _
    split <;> simp
end Go.Proofs.Ytcinielgigdhmaa.graphSets

/- Graphs: Words: the sum over all nodes. Conditions: a graph has fewer than 1000000 nodes. -/
import Derived.Test.YtjofdamobnemcaaL9Rg
import Derived.Test.YtjofdamobnemcaaL9Sp
import Derived.Test.YtjofdamobnemcaaL9Call
namespace Go.Proofs.Ytjofdamobnemcaa.L9
open Go.ChangeShapes Go.WideShapes Go.ChangeAt Go.RowKit Go.Maps
open Go.Proofs.Ytjofdamobnemcaa.L5 (Cl clV rtB Tb clAt shX shR shD woV hoB IsCls newX isRf)
set_option linter.unusedVariables false
section
variable {w : World} {z p m tb : Nat} {S : Nat → Prop} {f : Int → Option Nat} {ow : Nat → Int} {cs : List Cl} {L : List Nd}
/-- Who has come. -/
def came (left : Int → Bool) (y : Nd) : Bool := !left y.id
theorem came_start (h : Gr w z S p m tb f ow cs L) : L.filter (came fun x => (f x).isSome) = [] := by
  refine List.filter_eq_nil_iff.2 fun y hy => ?_
  obtain ⟨b, hb, _⟩ := h.nds y hy
  simp [came, hb]
theorem came_end {left : Int → Bool} (hl : ∀ x, left x = false) : L.filter (came left) = L := List.filter_eq_self.2 fun y _ => by simp [came, hl]
theorem came_step (left : Int → Bool) (x : Int) : came (fun y => left y && !decide (y = x)) = fun y => came left y || decide (y.id = x) := by
  funext y
  unfold came
  by_cases e : y.id = x <;> cases hl : left y.id <;> simp [e, hl]
theorem wos_came (h : Gr w z S p m tb f ow cs L) {left : Int → Bool} {x : Nd} (hx : x ∈ L) (hp : left x.id = true) : wos (L.filter (came fun y => left y && !decide (y = x.id))) = wos (L.filter (came left)) + x.wo := by
  rw [came_step]
  exact wos_step h.srt (p := fun i => !left i) hx (by simp [hp])
theorem wos_bd (h : Gr w z S p m tb f ow cs L) (left : Int → Bool) : wos (L.filter (came left)) ≤ 62 * L.length := by
  refine Nat.le_trans (wos_le (cs := cs) fun x hx => h.ok x (List.mem_filter.1 hx).1) ?_
  have := List.length_filter_le (came left) L
  omega
end
end Go.Proofs.Ytjofdamobnemcaa.L9

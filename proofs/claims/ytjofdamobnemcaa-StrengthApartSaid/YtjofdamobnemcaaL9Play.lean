/- Graphs: a list of calls played; and that the program is awake. Conditions: at most 1000 calls. -/
import Derived.Test.YtjofdamobnemcaaL9Any
import Derived.Test.YtjofdamobnemcaaL9Few
import Derived.StillTailTactics
namespace Go.Proofs.Ytjofdamobnemcaa.L9
open Go.ChangeShapes Go.WideShapes Go.ChangeAt Go.RowKit
open Go.Proofs.Ytjofdamobnemcaa.L5 (Cl clV rtB Tb clAt shX shR shD woV hoB IsCls newX isRf)
set_option linter.unusedVariables false

def opL (cs : List Cl) (L : List Nd) (o : Oq) : List Nd := if o.k = 1 then adL cs L o.a o.b o.c else if o.k = 2 then srL L o.a o.b o.c else if o.k = 3 then snL L o.a o.b o.c else if o.k = 4 then dnL L o.a else L
def plL (cs : List Cl) (L : List Nd) (l : List Oq) : List Nd := l.foldl (opL cs) L
theorem opL_len (cs : List Cl) (L : List Nd) (o : Oq) : (opL cs L o).length ≤ L.length + 1 := by
  unfold opL
  split
  · exact adL_len _ _ _ _ _
  · split
    · rw [srL_len]; omega
    · split
      · rw [snL_len]; omega
      · split
        · rw [dnL_len]; omega
        · omega
theorem plL_len (cs : List Cl) (l : List Oq) : ∀ L : List Nd, (plL cs L l).length ≤ L.length + l.length := by
  induction l with
  | nil => intro L; exact Nat.le_refl _
  | cons o l ih =>
    intro L
    have h1 := ih (opL cs L o)
    have h2 := opL_len cs L o
    show (plL cs (opL cs L o) l).length ≤ _
    simp only [List.length_cons]
    omega
theorem plL_step (cs : List Cl) (L : List Nd) (l : List Oq) (k : Nat) (hk : k < l.length) : plL cs L (l.take (k + 1)) = opL cs (plL cs L (l.take k)) (l.getD k o0) := by
  unfold plL
  rw [List.take_add_one, List.getElem?_eq_getElem hk, List.foldl_append, List.getD_eq_getElem?_getD, List.getElem?_eq_getElem hk]
  rfl
section
variable {w0 w : World} {z p : Nat} {S : Nat → Prop} {cs : List Cl} {L : List Nd} {a : Option Addr} {len cap : Nat} {l : List Oq}
/-- What stands between two calls. -/
def Pl (w wr : World) (z : Nat) (S : Nat → Prop) (p : Nat) (cs : List Cl) (L : List Nd) : Prop :=
  ∃ S', GS wr z S' p cs L ∧ Chg S w wr ∧ ∀ k, S' k → S k ∨ w.heap.size ≤ k
theorem Pl.same {wr w' : World} {L' : List Nd} {S1 : Nat → Prop} (hs : ∀ k, S1 k → S k ∨ w.heap.size ≤ k) (hcc : Chg S w wr) (hc : Chg S1 wr w') (hg : GS w' z S1 p cs L') : Pl w w' z S p cs L' :=
  ⟨S1, hg, hcc.step hc fun i hi hk => by rcases hs i hk with h | h; exact h; omega, hs⟩
theorem Pl.more {wr w' : World} {L' : List Nd} {S1 S' : Nat → Prop} (hs : ∀ k, S1 k → S k ∨ w.heap.size ≤ k) (hcc : Chg S w wr) (hc : Chg S1 wr w') (hg : GS w' z S' p cs L') (hs' : ∀ k, S' k → S1 k ∨ wr.heap.size ≤ k) : Pl w w' z S p cs L' :=
  ⟨S', hg, hcc.step hc (fun i hi hk => by rcases hs i hk with h | h; exact h; omega), fun k hk => by
    rcases hs' k hk with h | h
    · exact hs k h
    · exact .inr (Nat.le_trans hcc.size h)⟩
end
end Go.Proofs.Ytjofdamobnemcaa.L9

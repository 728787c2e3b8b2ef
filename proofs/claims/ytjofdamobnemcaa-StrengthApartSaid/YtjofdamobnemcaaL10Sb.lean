/- Maps from numbers to bools that a call makes: what a look says of each number, what a store does. Conditions: the numbers fit an int. -/
import Derived.Test.YtjofdamobnemcaaL9Mn
namespace Go.Proofs.Ytjofdamobnemcaa.L10
open Go.ChangeShapes Go.WideShapes Go.ChangeAt Go.RowKit Go.Maps
open Go.Proofs.Ytjofdamobnemcaa.L9 (keyI keyL)
set_option linter.unusedVariables false
theorem zeroB (w : World) : (zeroValue 4).run Try.prog w = .ok (.bool false) w := by kernel_rfl
/-- Block m is a map of at most n entries; a look at x says q x. -/
def Sb (w : World) (m n : Nat) (q : Int → Bool) : Prop := ∃ D : DataW Unit, w.ownsMap Try.prog 3 (plainElem Try.prog 4) m n D ∧ ∀ x : Int, (has D (.int .i64 x) = true ∧ ∀ z, D.atKey (.int .i64 x) z = .lit (.bool (q x))) ∨ (has D (.int .i64 x) = false ∧ q x = false)
section
variable {w w' : World} {m n : Nat} {q : Int → Bool} {C : Nat → Prop}
theorem Sb.made (w : World) : Sb (w.alloc (.map #[] 0)) w.heap.size 0 fun _ => false :=
  ⟨_, World.ownsMap_made _ _ _ _, fun x => .inr ⟨rfl, rfl⟩⟩
theorem Sb.lt (h : Sb w m n q) : m < w.heap.size := by obtain ⟨D, h1, _⟩ := h; exact h1.lt
theorem Sb.chg (h : Sb w m n q) (c : Chg C w w') (hb : ¬ C m) : Sb w' m n q := by
  have hlt := h.lt
  obtain ⟨D, ⟨es, clock, e1, r⟩, hk⟩ := h
  exact ⟨D, ⟨es, clock, (c.block m hlt hb).trans e1, r⟩, hk⟩
theorem Sb.grow (h : Sb w m n q) (c : Grow w w') : Sb w' m n q := h.chg c id
set_option maxRecDepth 100000 in
theorem Sb.look (h : Sb w m n q) {x : Int} (hx : (Lit.int .i64 x).wf = true) :
    (Instr.lookup 40 (.map (some m)) (.int .i64 x) false).run Try.prog w = .ok (.bool (q x)) w := by
  obtain ⟨D, ho, hk⟩ := h
  obtain ⟨v, ps, hrun, hv⟩ := ho.lookup keyI Try.underlying40 (zeroB w) (plainElem_bool Try.underlying4 false) (keyOf_int_mk Try.underlying3 hx)
  rw [hrun]
  have inv : ∀ y, plainElem (H := Unit) Try.prog 4 v = some (.lit (.bool y), ps) → v = .bool y := by
    intro y hy
    unfold plainElem at hy
    rw [Try.underlying4] at hy
    cases v <;> simp_all
  rcases hk x with ⟨h1, h2⟩ | ⟨h1, h2⟩
  · rw [h2] at hv
    rw [inv _ hv]
  · rw [atKey_of_not_has h1] at hv
    rw [inv _ hv, h2]
set_option maxRecDepth 100000 in
theorem Sb.put (h : Sb w m n q) {x : Int} (hx : (Lit.int .i64 x).wf = true) (hn : n < maxLen) (b : Bool) :
    ∃ w', (Instr.mapUpdate 40 (.map (some m)) (.int .i64 x) (.bool b)).run Try.prog w = .ok () w' ∧ Sb w' m (n + 1) (fun y => if y = x then b else q y) ∧ Chg (· = m) w w' := by
  obtain ⟨D, ho, hk⟩ := h
  have hkey := keyOf_int_mk Try.underlying3 hx
  obtain ⟨w', hrun, ho', hg⟩ := ho.update keyI Try.underlying40 hn hkey (plainElem_bool Try.underlying4 b)
  refine ⟨w', hrun, ⟨_, ho', fun y => ?_⟩, hg.os, hg.tape, hg.output, hg.size, fun i hi hne => hg.block i hi (fun e => hne (by injection e))⟩
  have ht := ho.isMap
  by_cases hy : y = x
  · subst hy
    left
    rw [show ((fun z : Int => if z = y then b else q z) y) = b from if_pos rfl]
    exact ⟨has_put_same ht (keyL _) _, fun z => atKey_put_same ht (keyL _) _ z⟩
  · have hne : (Lit.int .i64 y) ≠ .int .i64 x := fun e => hy (by injection e)
    rw [show ((fun z : Int => if z = x then b else q z) y) = q y from if_neg hy, has_put_other hne]
    rcases hk y with ⟨h1, h2⟩ | h
    · exact .inl ⟨h1, fun z => by rw [atKey_put_other hne]; exact h2 z⟩
    · exact .inr h
end
end Go.Proofs.Ytjofdamobnemcaa.L10

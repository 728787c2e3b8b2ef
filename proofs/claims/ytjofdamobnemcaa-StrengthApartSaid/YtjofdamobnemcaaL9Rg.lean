/- Ranges over a map of nodes: what is still to come, what the map says; the laws at the operations. Conditions: none. -/
import Derived.Test.YtjofdamobnemcaaL9Gr
namespace Go.Proofs.Ytjofdamobnemcaa.L9
open Go.ChangeShapes Go.WideShapes Go.ChangeAt Go.RowKit Go.Maps
set_option linter.unusedVariables false

/-- A range over the map in block m is under way, its iterator is block r; left: who is still to come. -/
def Rg (w : World) (m r : Nat) (f : Int → Option Nat) (left : Int → Bool) (cnt : Nat) : Prop :=
  ∃ (D : DataW Unit) (n : Nat) (lf : Lit → Bool), w.ranges Try.prog 3 ptrE m r n D lf cnt ∧ Says D f ∧ ∀ x : Int, lf (.int .i64 x) = left x
section
variable {w w' : World} {m r : Nat} {f : Int → Option Nat} {left : Int → Bool} {cnt : Nat} {C : Nat → Prop}
theorem Rg.mn (h : Rg w m r f left cnt) : Mn w m f := by
  obtain ⟨D, n, lf, h1, h2, h3⟩ := h
  exact ⟨D, owns_size h1.owns, h2⟩
theorem Rg.left_eq (h : Rg w m r f left cnt) : w.rangeLeft m r = cnt := by
  obtain ⟨D, n, lf, h1, h2, h3⟩ := h
  exact h1.left_eq
theorem Rg.ne (h : Rg w m r f left cnt) : r ≠ m := by
  obtain ⟨D, n, lf, h1, h2, h3⟩ := h
  exact h1.ne
theorem Rg.lt (h : Rg w m r f left cnt) : r < w.heap.size := by
  obtain ⟨D, n, lf, h1, h2, h3⟩ := h
  exact h1.lt
theorem Rg.chg (h : Rg w m r f left cnt) (c : Chg C w w') (hm : ¬ C m) (hr : ¬ C r) : Rg w' m r f left cnt := by
  have l1 := h.mn.lt
  have l2 := h.lt
  obtain ⟨D, n, lf, ⟨es, clock, since, seen, c0, hb, F, hs, hD, hr', rest⟩, h2, h3⟩ := h
  exact ⟨D, n, lf, ⟨es, clock, since, seen, c0, (c.block m l1 hm).trans hb, F, hs, hD, (c.block r l2 hr).trans hr', rest⟩, h2, h3⟩
theorem Rg.grow (h : Rg w m r f left cnt) (c : Grow w w') : Rg w' m r f left cnt := h.chg c id id
theorem strikes (y x : Int) : (Lit.int .i64 y).sameKey (.int .i64 x) = decide (y = x) := by
  by_cases e : y = x
  · subst e
    rw [WideAt.sameKey_self (keyL _)]
    simp
  · rw [sameKey_ne (fun h => e (by injection h))]
    simp [e]
variable {ops : Array Oper} {rest : List Oper} {o : Oper} {a : Act} {Q : Exit → Act → World → Prop}
/-- 'range m'. -/
theorem rg_range (hg : o.guard = none) (mo : Operand) (hop : o.op = Op.range 76 mo) (hm : a.eval mo = .map (some m)) (h : Mn w m f)
    (hK : ∀ w' cnt, Rg w' m w.heap.size f (fun x => (f x).isSome) cnt → Grow w w' → w'.heap.size = w.heap.size + 1 → wpList Try.prog ops Q rest (a.put o.dst (.pointer (some ⟨w.heap.size, 0, none⟩))) w') :
    wpList Try.prog ops Q (o :: rest) a w := by
  obtain ⟨D, ho, hs⟩ := h
  refine wpList_range_own w hg mo _ hop _ _ keyI Try.underlying76 ptrE m (size D) D hm ho fun w' hr hgr hsz => ?_
  refine hK w' _ ⟨D, _, _, hr, hs, fun x => ?_⟩ ⟨hgr.os, hgr.tape, hgr.output, hgr.size, fun i hi _ => hgr.block i hi (by simp)⟩ hsz
  cases hf : f x with
  | none => rw [(hs x).2 hf]; simp [hf]
  | some b => rw [((hs x).1 b hf).1]; simp [hf]
set_option maxRecDepth 100000 in
/-- The step. -/
theorem rg_next (hg : o.guard = none) (it : Operand) (hop : o.op = Op.next it false) (hit : a.eval it = .pointer (some ⟨r, 0, none⟩)) (h : Rg w m r f left cnt)
    (hDone : (∀ x, left x = false) → wpList Try.prog ops Q rest (a.put o.dst (.tuple #[.bool false])) w)
    (hMore : ∀ (x : Int) (b : Nat) (w' : World) (cnt' : Nat), In64 x → left x = true → f x = some b → Rg w' m r f (fun y => left y && !decide (y = x)) cnt' → cnt' < cnt → Chg (· = r) w w' → w'.heap.size = w.heap.size →
      (Instr.entry (.pointer (some ⟨r, 0, none⟩))).run Try.prog w' = .ok (.tuple #[.int .i64 x, .pointer (some ⟨b, 0, none⟩)]) w' → wpList Try.prog ops Q rest (a.put o.dst (.tuple #[.bool true, .int .i64 x, .pointer (some ⟨b, 0, none⟩)])) w') :
    wpList Try.prog ops Q (o :: rest) a w := by
  obtain ⟨D, n, lf, h1, h2, h3⟩ := h
  refine wpList_next_ranges w hg it hop _ keyI ptrE (Value.int .i64) (fun b : Nat => .pointer (some ⟨b, 0, none⟩)) (fun key kl hk => ?_) (fun v y hv => ?_) m r n D lf cnt hit h1 (fun _ hl => hDone fun x => by rw [← h3, hl]) ?_
  · obtain ⟨x, e, _⟩ := Maps.keyOf_int_inv Try.underlying3 hk
    exact ⟨x, e⟩
  · obtain ⟨b, e, _⟩ := ptrE_inv hv
    exact ⟨b, e⟩
  · intro x b kl y w' cnt' hk hl hR hat hr hlt hgr hsz hen
    obtain ⟨x', e, rfl, hx⟩ := Maps.keyOf_int_inv Try.underlying3 hk
    injection e with _ e
    subst e
    obtain ⟨b', e', rfl⟩ := ptrE_inv hR
    have hb' : b = b' := by injection e' with e'; injection e' with e'; injection e'
    subst hb'
    refine hMore x b w' cnt' hx (by rw [← h3]; exact hl) ?_ ⟨D, n, _, hr, h2, fun z => by rw [strikes, h3]⟩ hlt ⟨hgr.os, hgr.tape, hgr.output, hgr.size, fun i hi hne => hgr.block i hi (fun e => hne (by injection e))⟩ hsz hen
    cases hf : f x with
    | none =>
      have h4 := atKey_of_not_has ((h2 x).2 hf) (.agg [])
      rw [hat] at h4
      exact absurd h4 (by simp)
    | some b2 =>
      have h4 := ((h2 x).1 b2 hf).2 (.agg [])
      rw [hat] at h4
      have : b = b2 := by
        simp at h4
        exact Int.ofNat.inj h4
      rw [this]
set_option maxRecDepth 100000 in
/-- A delete in the round. -/
theorem rg_del (hg : o.guard = none) (mo xo : Operand) (hop : o.op = Op.call { callee := Callee.builtin Builtin.delete, args := #[mo, xo], argTypes := #[76, 3] }) (hm : a.eval mo = .map (some m)) {x : Int} (hx : a.eval xo = .int .i64 x) (hxi : In64 x) (h : Rg w m r f left cnt)
    (hK : ∀ w' cnt', Rg w' m r (fun y => if y = x then none else f y) (fun y => left y && !decide (y = x)) cnt' → cnt' ≤ cnt → Chg (· = m) w w' → wpList Try.prog ops Q rest (a.put o.dst (.tuple #[])) w') :
    wpList Try.prog ops Q (o :: rest) a w := by
  obtain ⟨D, n, lf, h1, h2, h3⟩ := h
  refine wpList_delete_ranges w hg mo xo _ _ hop _ keyI Try.underlying76 ptrE m r n D lf cnt hm h1 _ _ hx (keyOf_int_mk Try.underlying3 hxi) fun w' cnt' hr hle ht => ?_
  have hgr := ht.grown
  exact hK w' cnt' ⟨_, n, _, hr, h2.del x, fun z => by rw [strikes, h3]⟩ hle ⟨hgr.os, hgr.tape, hgr.output, hgr.size, fun i hi hne => hgr.block i hi (fun e => hne (by injection e))⟩
end
end Go.Proofs.Ytjofdamobnemcaa.L9

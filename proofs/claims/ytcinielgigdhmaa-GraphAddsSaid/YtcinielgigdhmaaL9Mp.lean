/- Sets of numbers as maps to true that a call makes: what stands in them, what a look and a store do. Conditions: the numbers fit an int. -/
import Derived.Test.YtcinielgigdhmaaL9Mn
namespace Go.Proofs.Ytcinielgigdhmaa.L9
open Go.ChangeShapes Go.WideShapes Go.ChangeAt Go.RowKit Go.Maps
set_option linter.unusedVariables false

theorem zeroB (w : World) : (zeroValue 4).run Try.prog w = .ok (.bool false) w := by kernel_rfl
/-- The entries of a set: the keys are just what p says, each leads to true; they are N. -/
def Ks (D : DataW Unit) (N : Nat) (p : Int → Prop) : Prop := size D = N ∧ ∀ x : Int, (p x → has D (.int .i64 x) = true ∧ ∀ z, D.atKey (.int .i64 x) z = .lit (.bool true)) ∧ (¬ p x → has D (.int .i64 x) = false)
/-- Block b is such a set, of at most n entries. -/
def Mp (w : World) (b n N : Nat) (p : Int → Prop) : Prop := ∃ D : DataW Unit, w.ownsMap Try.prog 3 (plainElem Try.prog 4) b n D ∧ Ks D N p
section
variable {w w' : World} {b n N : Nat} {p : Int → Prop} {C : Nat → Prop}
theorem Mp.made (w : World) : Mp (w.alloc (.map #[] 0)) w.heap.size 0 0 fun _ => False :=
  ⟨_, World.ownsMap_made _ _ _ _, rfl, fun x => ⟨fun h => h.elim, fun _ => rfl⟩⟩
theorem Mp.lt (h : Mp w b n N p) : b < w.heap.size := by obtain ⟨D, h1, _⟩ := h; exact h1.lt
theorem Mp.chg (h : Mp w b n N p) (c : Chg C w w') (hb : ¬ C b) : Mp w' b n N p := by
  have hlt := h.lt
  obtain ⟨D, ⟨es, clock, e1, r⟩, hk⟩ := h
  exact ⟨D, ⟨es, clock, (c.block b hlt hb).trans e1, r⟩, hk⟩
theorem Mp.grow (h : Mp w b n N p) (c : Grow w w') : Mp w' b n N p := h.chg c id
theorem Mp.iff (h : Mp w b n N p) {q : Int → Prop} (e : ∀ x, q x ↔ p x) : Mp w b n N q := by
  obtain ⟨D, h1, h2, h3⟩ := h
  exact ⟨D, h1, h2, fun x => ⟨fun hx => (h3 x).1 ((e x).1 hx), fun hx => (h3 x).2 (fun hp => hx ((e x).2 hp))⟩⟩
set_option maxRecDepth 100000 in
theorem Mp.look (h : Mp w b n N p) {x : Int} (hx : (Lit.int .i64 x).wf = true) {c : Bool} (h1 : p x → c = true) (h2 : ¬ p x → c = false) :
    (Instr.lookup 65 (.map (some b)) (.int .i64 x) false).run Try.prog w = .ok (.bool c) w := by
  obtain ⟨D, ho, _, hk⟩ := h
  obtain ⟨v, ps, hrun, hv⟩ := ho.lookup keyI Try.underlying65 (zeroB w) (plainElem_bool Try.underlying4 false) (keyOf_int_mk Try.underlying3 hx)
  rw [hrun]
  have inv : ∀ y, plainElem (H := Unit) Try.prog 4 v = some (.lit (.bool y), ps) → v = .bool y := by
    intro y hy
    unfold plainElem at hy
    rw [Try.underlying4] at hy
    cases v <;> simp_all
  by_cases hp : p x
  · rw [((hk x).1 hp).2] at hv
    rw [inv _ hv, h1 hp]
  · rw [atKey_of_not_has ((hk x).2 hp)] at hv
    rw [inv _ hv, h2 hp]
theorem Ks.put {D : DataW Unit} (h : Ks D N p) (ht : Tidy D) {x : Int} (hx : WideAt.IsKeyLit (.int .i64 x)) (hp : ¬ p x) : Ks (D.put (.int .i64 x) (.lit (.bool true))) (N + 1) fun y => p y ∨ y = x := by
  obtain ⟨h1, h2⟩ := h
  refine ⟨?_, fun y => ?_⟩
  · rw [size_put ht, (h2 x).2 hp, h1]
    rfl
  · by_cases hy : y = x
    · subst hy
      refine ⟨fun _ => ⟨has_put_same ht.isMap hx _, fun z => atKey_put_same ht.isMap hx _ z⟩, fun hn => absurd (.inr rfl) hn⟩
    · have hne : (Lit.int .i64 y) ≠ .int .i64 x := fun e => hy (by injection e)
      rw [has_put_other hne]
      refine ⟨fun hq => ⟨((h2 y).1 (hq.resolve_right hy)).1, fun z => by rw [atKey_put_other hne]; exact ((h2 y).1 (hq.resolve_right hy)).2 z⟩, fun hq => (h2 y).2 fun e => hq (.inl e)⟩
set_option maxRecDepth 100000 in
theorem Mp.put (h : Mp w b n N p) {x : Int} (hx : (Lit.int .i64 x).wf = true) (hp : ¬ p x) (hn : n < maxLen) :
    ∃ w', (Instr.mapUpdate 65 (.map (some b)) (.int .i64 x) (.bool true)).run Try.prog w = .ok () w' ∧ Mp w' b (n + 1) (N + 1) (fun y => p y ∨ y = x) ∧ Chg (· = b) w w' := by
  obtain ⟨D, ho, hk⟩ := h
  have hkey := keyOf_int_mk Try.underlying3 hx
  obtain ⟨w', hrun, ho', hg⟩ := ho.update keyI Try.underlying65 hn hkey (plainElem_bool Try.underlying4 true)
  exact ⟨w', hrun, ⟨_, ho', hk.put (ho.tidy keyI) trivial hp⟩, hg.os, hg.tape, hg.output, hg.size, fun i hi hne => hg.block i hi (fun e => hne (by injection e))⟩
theorem Mp.len (h : Mp w b n N p) (ty : TypeId) : (Builtin.len_ #[65] ty #[.map (some b)]).run Try.prog w = .ok (.int .i64 N) w := by
  obtain ⟨D, ho, hs, _⟩ := h
  rw [ho.len Try.underlying65 ty, hs]
end
end Go.Proofs.Ytcinielgigdhmaa.L9

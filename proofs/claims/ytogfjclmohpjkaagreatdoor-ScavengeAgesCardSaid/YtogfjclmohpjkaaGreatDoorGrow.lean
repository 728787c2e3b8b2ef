/- Calls that only make new memory: a region that draws its order and holds such calls is walked once, in the order of the text. Conditions: none; nothing here speaks of the program. -/
import Derived.Test.YtogfjclmohpjkaaGreatDoorKit
namespace Go.Proofs.YtogfjclmohpjkaaGreatDoor
open Go.ChangeShapes Go.WideShapes Go.ChangeAt Go.RowKit
set_option linter.unusedVariables false

/-- w' is w and new blocks. -/
abbrev Grow (w w' : World) : Prop := Chg (fun _ => False) w w'
theorem Grow.cell {w w' : World} (c : Grow w w') {p : Addr} {v : Value} (h : w.cell? p = some v) : w'.cell? p = some v := Chg.cell c h id
theorem Grow.drewN {w w' : World} (c : Grow w w') (n : Nat) : Grow w (w'.drewN n) := Chg.drewN c n
theorem Grow.box (w : World) (o : Obj) : Grow w (w.alloc o) := (Chg.refl _ _).alloc _
/-- A block that w has not yet. -/
def Fresh (w : World) (g : Nat) : Prop := w.heap.size ≤ g
theorem Fresh.put {w w' : World} {g : Nat} (h : Fresh w g) (c : Grow w w') (i : Nat) (u : Value) : Grow w (w'.setCell ⟨g, i, none⟩ u) :=
  Chg.setCell c (fun h' => absurd h' (by show ¬ g < w.heap.size; unfold Fresh at h; omega)) u
theorem Blk.cell_new {w : World} {g : Nat} {t : TypeId} {cs : List Value} (h : Blk w g t cs) (o : Obj) (i : Nat) {v : Value} (hv : cs[i]? = some v) : (w.alloc o).drew.cell? ⟨g, i, none⟩ = some v := ((h.alloc o).cell i).trans hv

section
variable {P : Program} {ops : Array Oper} {C : World → Prop}
theorem quiet_yes {o : Oper} {a : Act} {K : Act → Prop} (v : Value) (hw : Region.wanted o (yielded ops a.tmps) = true) (hq : ∀ w, C w → o.quietAt P a C w v) (h : K (a.put o.dst v)) :
    if Region.wanted o (yielded ops a.tmps) then o.quiet P a C K else K (a.put o.dst undef) := by
  rw [if_pos hw]
  exact ⟨v, hq, h⟩
theorem quiet_ex {o : Oper} {a : Act} {K : Act → Prop} (hw : Region.wanted o (yielded ops a.tmps) = true) (h : ∃ v, (∀ w, C w → o.quietAt P a C w v) ∧ K (a.put o.dst v)) :
    if Region.wanted o (yielded ops a.tmps) then o.quiet P a C K else K (a.put o.dst undef) := by
  rw [if_pos hw]
  exact h
theorem quiet_not {o : Oper} {a : Act} {K : Act → Prop} (hw : Region.wanted o (yielded ops a.tmps) = false) (h : K (a.put o.dst undef)) :
    if Region.wanted o (yielded ops a.tmps) then o.quiet P a C K else K (a.put o.dst undef) := by
  rw [if_neg (by simp [hw])]
  exact h
theorem quiet_free {o : Oper} {a : Act} {K : Act → Prop} (hg : o.guard = none) (h : ∃ v, (∀ w, C w → o.quietAt P a C w v) ∧ K (a.put o.dst v)) :
    if Region.wanted o (yielded ops a.tmps) then o.quiet P a C K else K (a.put o.dst undef) :=
  quiet_ex (by simp [Region.wanted, hg]) h
theorem quiet_on {o : Oper} {a : Act} {K : Act → Prop} {j : Nat} {b : Bool} (hg : o.guard = some (j, b)) (hy : ∃ b', yielded ops a.tmps j = some b' ∧ b' = b) (h : ∃ v, (∀ w, C w → o.quietAt P a C w v) ∧ K (a.put o.dst v)) :
    if Region.wanted o (yielded ops a.tmps) then o.quiet P a C K else K (a.put o.dst undef) := by
  obtain ⟨b', hy, rfl⟩ := hy
  exact quiet_ex (by simp [Region.wanted, hg, hy]) h
theorem quiet_offT {o : Oper} {a : Act} {K : Act → Prop} {j : Nat} (hg : o.guard = some (j, true)) (hy : ∃ b', yielded ops a.tmps j = some b' ∧ b' = false) (h : K (a.put o.dst undef)) :
    if Region.wanted o (yielded ops a.tmps) then o.quiet P a C K else K (a.put o.dst undef) := by
  obtain ⟨b', hy, rfl⟩ := hy
  exact quiet_not (by simp_all [Region.wanted]) h
theorem quiet_offF {o : Oper} {a : Act} {K : Act → Prop} {j : Nat} (hg : o.guard = some (j, false)) (hy : ∃ b', yielded ops a.tmps j = some b' ∧ b' = true) (h : K (a.put o.dst undef)) :
    if Region.wanted o (yielded ops a.tmps) then o.quiet P a C K else K (a.put o.dst undef) := by
  obtain ⟨b', hy, rfl⟩ := hy
  exact quiet_not (by simp_all [Region.wanted]) h
theorem quiet_offN {o : Oper} {a : Act} {K : Act → Prop} {j : Nat} {b : Bool} (hg : o.guard = some (j, b)) (hy : yielded ops a.tmps j = none) (h : K (a.put o.dst undef)) :
    if Region.wanted o (yielded ops a.tmps) then o.quiet P a C K else K (a.put o.dst undef) :=
  quiet_not (by simp [Region.wanted, hg, hy]) h
theorem wp_region_grow {id : Nat} {Q : Exit → Act → World → Prop} {a : Act} {w : World} {l : List Oper} (hm : P.follows .mixedOrders = true) (hB : Region.lexB .any l.toArray = true)
    (h : wpQuiet P l.toArray (Grow w) (fun a' => ∀ w', Grow w w' → Q .normal a' w') l a) : (Code.region id l.toArray true).wp P Q a w :=
  wp_region_quiet (C := Grow w) hm hB ⟨rfl, rfl, rfl, Nat.le_refl _, fun _ _ _ => rfl⟩ (by simpa using h)
theorem grown_call {f : FuncId} {args : Array Value} {w w0 : World} {v : Value} (c : Grow w0 w) (h : Calls P f args w fun e w' => e = .returned v ∧ Grow w w') : Calls P f args w fun e w' => e = .returned v ∧ Grow w0 w' :=
  h.mono fun _ _ ⟨he, h'⟩ => ⟨he, c.trans h'⟩
/-- A call that leaves the world as it is, in a region. -/
theorem grown_same {f : FuncId} {args : Array Value} {w w0 : World} {v : Value} (c : Grow w0 w) (h : Calls P f args w fun e w' => e = .returned v ∧ w = w') : Calls P f args w fun e w' => e = .returned v ∧ Grow w0 w' :=
  h.mono fun _ _ ⟨he, h'⟩ => ⟨he, h' ▸ c⟩
end
/-- One, two, three new blocks, one behind the other. -/
theorem boxes1 (w : World) (t1 : TypeId) (c1 : List Value) : Blk (w.alloc (.cells c1.toArray t1)) w.heap.size t1 c1 ∧ Grow w (w.alloc (.cells c1.toArray t1)) ∧ Fresh w w.heap.size :=
  ⟨Blk.new w t1 c1, Grow.box _ _, Nat.le_refl _⟩
theorem boxes2 (w : World) (t1 : TypeId) (c1 : List Value) (t2 : TypeId) (c2 : List Value) :
    Blk ((w.alloc (.cells c1.toArray t1)).alloc (.cells c2.toArray t2)) w.heap.size t1 c1 ∧ Blk ((w.alloc (.cells c1.toArray t1)).alloc (.cells c2.toArray t2)) (w.heap.size + 1) t2 c2 ∧
      Grow w ((w.alloc (.cells c1.toArray t1)).alloc (.cells c2.toArray t2)) ∧ Fresh w w.heap.size ∧ Fresh w (w.heap.size + 1) ∧ ¬ w.heap.size = w.heap.size + 1 := by
  have e : (w.alloc (.cells c1.toArray t1)).heap.size = w.heap.size + 1 := by simp
  have h := Blk.new (w.alloc (.cells c1.toArray t1)) t2 c2
  rw [e] at h
  exact ⟨(Blk.new w t1 c1).alloc _, h, (Grow.box _ _).alloc _, Nat.le_refl _, by show w.heap.size ≤ w.heap.size + 1; omega, by omega⟩
theorem boxes3 (w : World) (t1 : TypeId) (c1 : List Value) (t2 : TypeId) (c2 : List Value) (t3 : TypeId) (c3 : List Value) :
    Blk (((w.alloc (.cells c1.toArray t1)).alloc (.cells c2.toArray t2)).alloc (.cells c3.toArray t3)) w.heap.size t1 c1 ∧ Blk (((w.alloc (.cells c1.toArray t1)).alloc (.cells c2.toArray t2)).alloc (.cells c3.toArray t3)) (w.heap.size + 1) t2 c2 ∧
      Blk (((w.alloc (.cells c1.toArray t1)).alloc (.cells c2.toArray t2)).alloc (.cells c3.toArray t3)) (w.heap.size + 1 + 1) t3 c3 ∧
      Grow w (((w.alloc (.cells c1.toArray t1)).alloc (.cells c2.toArray t2)).alloc (.cells c3.toArray t3)) ∧ Fresh w w.heap.size ∧ Fresh w (w.heap.size + 1) ∧ Fresh w (w.heap.size + 1 + 1) ∧
      ¬ w.heap.size = w.heap.size + 1 ∧ ¬ w.heap.size = w.heap.size + 1 + 1 ∧ ¬ w.heap.size + 1 = w.heap.size + 1 + 1 := by
  obtain ⟨h1, h2, h3, h4, h5, h6⟩ := boxes2 w t1 c1 t2 c2
  have e : ((w.alloc (.cells c1.toArray t1)).alloc (.cells c2.toArray t2)).heap.size = w.heap.size + 1 + 1 := by simp
  have h := Blk.new ((w.alloc (.cells c1.toArray t1)).alloc (.cells c2.toArray t2)) t3 c3
  rw [e] at h
  exact ⟨h1.alloc _, h2.alloc _, h, h3.alloc _, h4, h5, by show w.heap.size ≤ w.heap.size + 1 + 1; omega, h6, by omega, by omega⟩
end Go.Proofs.YtogfjclmohpjkaaGreatDoor

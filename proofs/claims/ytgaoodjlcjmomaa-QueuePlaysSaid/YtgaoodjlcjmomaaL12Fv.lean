/- Five lists in a row of cells: what stands in them, what an append does; sets of blocks that are apart. Conditions: at most 1000000 things a list. -/
import Derived.Test.YtgaoodjlcjmomaaL12Ops
namespace Go.Proofs.Ytgaoodjlcjmomaa.L12
open Go.ChangeShapes Go.WideShapes Go.ChangeAt Go.RowKit
set_option linter.unusedVariables false

/-- No block of both. -/
def Apart (S T : Nat → Prop) : Prop := ∀ k, S k → ¬ T k
theorem Apart.symm {S T : Nat → Prop} (h : Apart S T) : Apart T S := fun k ht hs => h k hs ht
theorem Apart.more {S S' T : Nat → Prop} {n : Nat} (h : Apart S T) (hs : ∀ k, S' k → S k ∨ n ≤ k) (ht : ∀ k, T k → k < n) : Apart S' T := fun k hk hT => by
  rcases hs k hk with h' | h'
  · exact h k h' hT
  · have := ht k hT; omega
/-- Five lists in block g, a row of type t; their blocks are S. -/
structure Fv (w : World) (z g : Nat) (t : TypeId) (S : Nat → Prop) (v : Nat → Value) (Q : Nat → List Int) : Prop where
  blk : Blk w g t (five v)
  ls : Ls w z 5 v Q
  sg : S g
  sq : ∀ i, i < 5 → ∀ k, (v i).ownBlock = some k → S k
  s : ∀ k, S k → z ≤ k ∧ k < w.heap.size
def FS (w : World) (z g : Nat) (t : TypeId) (S : Nat → Prop) (Q : Nat → List Int) : Prop := ∃ v, Fv w z g t S v Q
section
variable {w w' W : World} {z g n i : Nat} {t : TypeId} {S T : Nat → Prop} {v : Nat → Value} {Q : Nat → List Int} {E : List Int} {x q : Int}
theorem Fv.chg (h : Fv w z g t S v Q) (c : Chg T w w') (hT : Apart S T) : Fv w' z g t S v Q where
  blk := h.blk.chg c (hT _ h.sg)
  ls := h.ls.chg c fun i hi k hk => hT k (h.sq i hi k hk)
  sg := h.sg
  sq := h.sq
  s := fun k hk => ⟨(h.s k hk).1, Nat.lt_of_lt_of_le (h.s k hk).2 c.size⟩
theorem Fv.grow (h : Fv w z g t S v Q) (c : Grow w w') : Fv w' z g t S v Q := h.chg c fun _ _ h => h
theorem FS.chg (h : FS w z g t S Q) (c : Chg T w w') (hT : Apart S T) : FS w' z g t S Q := by
  obtain ⟨v, h⟩ := h
  exact ⟨v, h.chg c hT⟩
theorem FS.grow (h : FS w z g t S Q) (c : Grow w w') : FS w' z g t S Q := h.chg c fun _ _ h => h
theorem FS.s (h : FS w z g t S Q) {k : Nat} (hk : S k) : z ≤ k ∧ k < w.heap.size := by
  obtain ⟨v, h⟩ := h
  exact h.s k hk
theorem FS.congr {Q' : Nat → List Int} (h : FS w z g t S Q) (e : ∀ i, i < 5 → Q i = Q' i) : FS w z g t S Q' := by
  obtain ⟨v, h⟩ := h
  exact ⟨v, h.blk, h.ls.congr e, h.sg, h.sq, h.s⟩
theorem Fv.cell (h : Fv w z g t S v Q) (hi : i < 5) : w.cell? ⟨g, i, none⟩ = some (v i) := by rw [h.blk.cell, five_get v hi]
/-- Five nil lists. -/
theorem fs_new (w : World) (t : TypeId) : FS (w.alloc (.cells #[.slice none 0 0, .slice none 0 0, .slice none 0 0, .slice none 0 0, .slice none 0 0] t)) w.heap.size w.heap.size t (· = w.heap.size) noQ := by
  refine ⟨fun _ => .slice none 0 0, Blk.new w t [.slice none 0 0, .slice none 0 0, .slice none 0 0, .slice none 0 0, .slice none 0 0], ⟨fun i hi => ql_nil _ _, fun i j hi hj hij k hk => (by cases hk)⟩, rfl, fun i hi k hk => (by cases hk), fun k hk => ?_⟩
  subst hk
  simp
/-- The list in a place anew. -/
theorem Fv.put {u : Value} {l : List Int} (h : Fv w z g t S v Q) (ht : 3 ≠ t) (hi : i < 5) (hq : QL w' z u l) (c : Chg T w w') (hT : ∀ k, S k → T k → (v i).ownBlock = some k) (hu : ∀ k, u.ownBlock = some k → (v i).ownBlock = some k ∨ w.heap.size ≤ k) :
    Fv (w'.setCell ⟨g, i, none⟩ u) z g t (fun k => S k ∨ u.ownBlock = some k) (L12.upd v i u) (L12.upd Q i l) := by
  have hp : ∀ j, j < 5 → (v j).ownBlock ≠ some g := fun j hj => (h.ls.ql j hj).ne h.blk ht
  have hTp : ¬ T g := fun ht => hp i hi (hT g h.sg ht)
  have cp : Chg (· = g) w' (w'.setCell ⟨g, i, none⟩ u) := (Chg.refl _ _).set1 _ _
  have hup : u.ownBlock ≠ some g := fun e => by
    rcases hu g e with e | e
    · exact hp i hi e
    · have := h.blk.lt; omega
  refine ⟨?_, ?_, .inl h.sg, fun j hj k hk => ?_, fun k hk => ?_⟩
  · rw [← five_set v hi]
    exact (h.blk.chg c hTp).set_ i u
  · refine (h.ls.upd hi (hq.chg cp fun k hk e => hup (by rw [hk, e])) (T := fun k => T k ∨ k = g) ?_ (fun j hj hji k hk ht => ?_) hu)
    · exact (c.mono fun _ _ => .inl).step (cp.mono fun _ _ => .inr) fun _ _ h => h
    · rcases ht with ht | rfl
      · exact h.ls.ap j i hj hi hji k hk (hT k (h.sq j hj k hk) ht)
      · exact hp j hj hk
  · by_cases e : j = i
    · subst e
      rw [upd_at] at hk
      exact .inr hk
    · rw [upd_ne _ _ e] at hk
      exact .inl (h.sq j hj k hk)
  · have e : (w'.setCell ⟨g, i, none⟩ u).heap.size = w'.heap.size := by simp [World.setCell]
    rw [e]
    rcases hk with hk | hk
    · exact ⟨(h.s k hk).1, Nat.lt_of_lt_of_le (h.s k hk).2 c.size⟩
    · exact hq.lt k hk
theorem Fv.ext (h : Fv w z g t T v Q) (hs : ∀ k, T k ↔ S k) : Fv w z g t S v Q :=
  ⟨h.blk, h.ls, (hs _).1 h.sg, fun i hi k hk => (hs _).1 (h.sq i hi k hk), fun k hk => h.s k ((hs _).2 hk)⟩
/-- One thing behind a list: W is the world with a list of it alone, at block b. -/
theorem Fv.adds {W : World} {b : Nat} (h : Fv w z g t S v Q) (ht : 3 ≠ t) (hi : i < 5) (hc : (Q i).length < 1000000) (hg : Grow w W) (hr : L1.Rd W (some ⟨b, 0, none⟩) 1 [x]) :
    ∃ a c W4, w.cell? ⟨g, i, none⟩ = some (v i) ∧ (Builtin.append_ #[25, 25] 25 #[v i, .slice (some ⟨b, 0, none⟩) 1 1]).run Try.prog W = .ok (.slice a ((Q i).length + 1) c) W4 ∧ (W4.cell? ⟨g, i, none⟩ = some (v i) ∧ W4.frozen? ⟨g, i, none⟩ = false) ∧
      Chg S w W4 ∧ Chg S w (W4.setCell ⟨g, i, none⟩ (.slice a ((Q i).length + 1) c)) ∧ ∃ S', FS (W4.setCell ⟨g, i, none⟩ (.slice a ((Q i).length + 1) c)) z g t S' (upd Q i (Q i ++ [x])) ∧ ∀ k, S' k → S k ∨ w.heap.size ≤ k := by
  have hz := h.s g h.sg
  have hQ3 := h.grow hg
  obtain ⟨u, W4, h5, h6, h7, h8⟩ := (hQ3.ls.ql i hi).app (c := 1) (by have := hg.size; omega) hr (by omega)
  have hc1 : Chg (fun k => (v i).ownBlock = some k) W W4 := ⟨h7.os, h7.tape, h7.output, h7.size, fun k hk hne => h7.block k hk fun e => hne e.symm⟩
  have hc2 : Chg (fun k => (v i).ownBlock = some k) w W4 := (hg.mono fun _ _ h => h.elim).trans hc1
  have hu : ∀ k, u.ownBlock = some k → (v i).ownBlock = some k ∨ w.heap.size ≤ k := fun k hk => by
    rcases h8 with e | e
    · rw [e] at hk; exact .inl hk
    · rw [e] at hk; injection hk with hk; right; have := hg.size; omega
  have hF := h.put ht hi h6 hc2 (fun k _ hk => hk) hu
  have hP4 : Blk W4 g t (five v) := h.blk.chg hc2 fun hk => (h.ls.ql i hi).ne h.blk ht hk
  have hcS : Chg S w W4 := hc2.mono fun k _ hk => h.sq i hi k hk
  obtain ⟨a, c, e, -⟩ := h6.form
  rw [List.length_append, List.length_singleton] at e
  subst e
  refine ⟨a, c, W4, h.cell hi, h5, ⟨by rw [hP4.cell, five_get v hi], hP4.frozen i⟩, hcS, hcS.setCell (p := ⟨g, i, none⟩) (fun _ => h.sg) _, _, ⟨_, hF⟩, fun k hk => ?_⟩
  rcases hk with hk | hk
  · exact .inl hk
  · rcases hu k hk with hk | hk
    · exact .inl (h.sq i hi k hk)
    · exact .inr hk
end
end Go.Proofs.Ytgaoodjlcjmomaa.L12

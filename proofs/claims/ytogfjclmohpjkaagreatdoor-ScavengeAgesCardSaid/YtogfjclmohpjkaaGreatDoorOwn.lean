/- Lists that append made: what stays of them, and what they hold. Conditions: none; nothing here speaks of the program. -/
import Derived.Test.YtogfjclmohpjkaaGreatDoorGrow
import Derived.Laws.OwnMore
namespace Go.Proofs.YtogfjclmohpjkaaGreatDoor
open Go.ChangeShapes Go.WideShapes Go.ChangeAt Go.RowKit
set_option linter.unusedVariables false

section
variable {w w' : World} {base : Nat} {e : TypeId} {size : Nat} {v : Value} {n : Nat} {xs : List Value} {S : Nat → Prop}
theorem own_chg (h : w.ownsRow base e size v n xs) (c : Chg S w w') (hs : ∀ k, v.ownBlock = some k → ¬ S k) : w'.ownsRow base e size v n xs := by
  obtain ⟨h1, h2⟩ := h
  refine ⟨h1, ?_⟩
  rcases h2 with h2 | ⟨g, cap, cur, rfl, hb, hh, h3, h4, h5, h6⟩
  · exact .inl h2
  · refine .inr ⟨g, cap, cur, rfl, hb, ?_, h3, h4, h5, h6⟩
    rw [c.block g ?_ (hs g rfl)]
    · exact hh
    · rcases Nat.lt_or_ge g w.heap.size with hlt | hge
      · exact hlt
      · rw [Array.getElem?_eq_none hge] at hh; cases hh
theorem own_grow (h : w.ownsRow base e size v n xs) (c : Grow w w') : w'.ownsRow base e size v n xs := own_chg h c fun _ _ => id
theorem own_form (h : w.ownsRow base e size v n xs) (hn : 0 < n) : ∃ g cap, v = .slice (some ⟨g, 0, none⟩) n cap ∧ base ≤ g ∧ g < w.heap.size ∧ n ≤ cap ∧ cap ≤ maxLen := by
  rcases h.2 with ⟨_, h0⟩ | ⟨g, cap, cur, rfl, hge, hh, hnc, hm, _, _⟩
  · omega
  · exact ⟨g, cap, rfl, hge, (h.lt g rfl).2, hnc, hm⟩
theorem own_len (h : w.ownsRow base e size v n xs) : ∃ a cap, v = .slice a n cap := by
  rcases h.2 with ⟨rfl, rfl⟩ | ⟨g, cap, cur, rfl, _⟩
  · exact ⟨_, _, rfl⟩
  · exact ⟨_, _, rfl⟩
theorem own_old (h : w.ownsRow base e size v n xs) {b : Nat} (hb : w.heap.size ≤ b) : some b ≠ v.ownBlock := by
  intro e
  have := (h.lt b e.symm).2
  omega
theorem Chg.grownOwn {a b c : World} (h : Grow a b) (ho : b.ownsRow base e size v n xs) (hb : a.heap.size ≤ base) (hg : b.grownBy c v.ownBlock) : Grow a c :=
  h.grown hg fun k hk e => absurd (ho.lt k e).1 (by omega)
theorem Blk.grownOwn {g : Nat} {t : TypeId} {cs : List Value} (h : Blk w g t cs) (hg : w.grownBy w' v.ownBlock) (hne : some g ≠ v.ownBlock) : Blk w' g t cs :=
  (hg.block g h.lt hne).trans h
end
end Go.Proofs.YtogfjclmohpjkaaGreatDoor

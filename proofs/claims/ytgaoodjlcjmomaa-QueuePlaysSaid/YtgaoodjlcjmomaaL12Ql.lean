/- Lists of numbers that a set or a call keeps: cut at the front, appended to, written into. Conditions: at most 100000000 numbers. -/
import Derived.Test.YtgaoodjlcjmomaaInts
import Derived.Test.YtgaoodjlcjmomaaOwn
import Derived.Test.YtgaoodjlcjmomaaL1Ref01
import Derived.Deep.AppendSrc
import Derived.Laws.IdiomCopy
import Derived.Maps.AppendAt
namespace Go.Proofs.Ytgaoodjlcjmomaa.L12
open Go.ChangeShapes Go.WideShapes Go.ChangeAt Go.RowKit
set_option linter.unusedVariables false

/-- The list v, its block behind z, says xs. -/
def QL (w : World) (z : Nat) (v : Value) (xs : List Int) : Prop :=
  (v = .slice none 0 0 ∧ xs = []) ∨
    ∃ g off cap cs, v = .slice (some ⟨g, off, none⟩) xs.length cap ∧ z ≤ g ∧ Blk w g 3 cs ∧ xs.length ≤ cap ∧ cap ≤ maxLen ∧ off + cap ≤ cs.length ∧ ∀ k, k < xs.length → cs[off + k]? = some (.int .i64 (xs.getD k 0))
section
variable {w w' W W' : World} {z g n c k off cap : Nat} {v : Value} {x : Int} {xs ys : List Int} {a : Option Addr} {S : Nat → Prop}
theorem ql_nil (w : World) (z : Nat) : QL w z (.slice none 0 0) [] := .inl ⟨rfl, rfl⟩
theorem QL.form (h : QL w z v xs) : ∃ a c, v = .slice a xs.length c ∧ L1.Rd w a xs.length xs := by
  rcases h with ⟨rfl, rfl⟩ | ⟨g, off, cap, cs, rfl, h1, h2, h3, h4, h5, h6⟩
  · exact ⟨none, 0, rfl, L1.Rd.nothing⟩
  · refine ⟨_, _, rfl, rfl, fun _ => ⟨_, rfl, fun i hi => ?_⟩⟩
    rw [addr_add, h2.cell, h6 i hi]
theorem QL.pos (h : QL w z v xs) (hn : 0 < xs.length) : ∃ g off cap, v = .slice (some ⟨g, off, none⟩) xs.length cap ∧ z ≤ g ∧ g < w.heap.size ∧ xs.length ≤ cap ∧ cap ≤ maxLen := by
  rcases h with ⟨rfl, rfl⟩ | ⟨g, off, cap, cs, rfl, h1, h2, h3, h4, h5, h6⟩
  · cases hn
  · exact ⟨g, off, cap, rfl, h1, h2.lt, h3, h4⟩
theorem QL.cell (h : QL w z (.slice (some ⟨g, off, none⟩) n cap) xs) (hk : k < xs.length) : w.cell? ⟨g, off + k, none⟩ = some (.int .i64 (xs.getD k 0)) ∧ w.frozen? ⟨g, off + k, none⟩ = false := by
  rcases h with ⟨h, rfl⟩ | ⟨g', off', cap', cs, e, h1, h2, h3, h4, h5, h6⟩
  · cases hk
  · injection e with e1 e2 e3
    injection e1 with e1
    injection e1 with e4 e5
    subst e4
    subst e5
    exact ⟨by rw [h2.cell, h6 k hk], h2.frozen _⟩
theorem QL.lt (h : QL w z v xs) (k : Nat) (hk : v.ownBlock = some k) : z ≤ k ∧ k < w.heap.size := by
  rcases h with ⟨rfl, rfl⟩ | ⟨g, off, cap, cs, rfl, h1, h2, h3, h4, h5, h6⟩
  · cases hk
  · injection hk with hk
    subst hk
    exact ⟨h1, h2.lt⟩
theorem QL.chg (h : QL w z v xs) (d : Chg S w w') (hs : ∀ k, v.ownBlock = some k → ¬ S k) : QL w' z v xs := by
  rcases h with ⟨rfl, rfl⟩ | ⟨g, off, cap, cs, rfl, h1, h2, h3, h4, h5, h6⟩
  · exact ql_nil _ _
  · exact .inr ⟨g, off, cap, cs, rfl, h1, h2.chg d (hs g rfl), h3, h4, h5, h6⟩
theorem QL.grow (h : QL w z v xs) (d : Grow w w') : QL w' z v xs := h.chg d fun _ _ => id
theorem QL.lower {z' : Nat} (h : QL w z v xs) (hb : z' ≤ z) : QL w z' v xs := by
  rcases h with h | ⟨g, off, cap, cs, rfl, h1, h2⟩
  · exact .inl h
  · exact .inr ⟨g, off, cap, cs, rfl, by omega, h2⟩
theorem QL.raise {z' : Nat} (h : QL w z v xs) (hb : ∀ k, v.ownBlock = some k → z' ≤ k) : QL w z' v xs := by
  rcases h with h | ⟨g, off, cap, cs, rfl, h1, h2⟩
  · exact .inl h
  · exact .inr ⟨g, off, cap, cs, rfl, hb g rfl, h2⟩
theorem QL.ne {t : TypeId} {cs : List Value} (h : QL w z v xs) (hb : Blk w g t cs) (hne : 3 ≠ t) : v.ownBlock ≠ some g := by
  rcases h with ⟨rfl, rfl⟩ | ⟨g', off, cap, cs, rfl, h1, h2, h3⟩
  · intro e; cases e
  · intro e
    injection e with e
    exact h2.ne_ hb hne e
theorem QL.ne_map {x : Array _} {y : Nat} (h : QL w z v xs) (hb : w.heap[g]? = some (.map x y)) : v.ownBlock ≠ some g := by
  rcases h with ⟨rfl, rfl⟩ | ⟨g', off, cap, cs, rfl, h1, h2, h3⟩
  · intro e; cases e
  · intro e
    injection e with e
    unfold Blk at h2
    subst e
    rw [hb] at h2
    cases h2
theorem QL.old (h : QL w z v xs) {b : Nat} (hb : w.heap.size ≤ b) : some b ≠ v.ownBlock := by
  intro e
  have := (h.lt b e.symm).2
  omega
theorem own_ql {z : Nat} (h : w.ownsRow z 3 1 v xs.length (ints xs)) : QL w z v xs := by
  rcases h.2 with ⟨rfl, h0⟩ | ⟨g, cap, cur, rfl, h1, h2, h3, h4, h5, h6⟩
  · exact .inl ⟨rfl, List.eq_nil_of_length_eq_zero h0⟩
  · refine .inr ⟨g, 0, cap, cur.toList, rfl, h1, by unfold Blk; rw [h2], h3, h4, by simp [h5], fun k hk => ?_⟩
    have := ints_get xs k hk
    rw [← h6] at this
    rw [Nat.zero_add, ← this, List.getElem?_take_of_lt (by omega)]
/-- The first goes. -/
theorem QL.tail (h : QL w z (.slice (some ⟨g, off, none⟩) (xs.length + 1) cap) (x :: xs)) : QL w z (.slice (some ⟨g, (if cap = 1 then off else off + 1), none⟩) xs.length (cap - 1)) xs := by
  rcases h with ⟨h, _⟩ | ⟨g', off', cap', cs, e, h1, h2, h3, h4, h5, h6⟩
  · cases h
  · injection e with e1 e2 e3
    injection e1 with e1
    injection e1 with e4 e5
    subst e4 e5 e3
    simp only [List.length_cons] at h3 h6
    refine .inr ⟨_, _, _, cs, rfl, h1, h2, by omega, by omega, by split <;> omega, fun k hk => ?_⟩
    have := h6 (k + 1) (by omega)
    rw [if_neg (by omega), show off + 1 + k = off + (k + 1) by omega, this]
    rfl
/-- One is written over. -/
theorem QL.set (h : QL w z (.slice (some ⟨g, off, none⟩) n cap) xs) (hk : k < xs.length) (u : Int) : QL (w.setCell ⟨g, off + k, none⟩ (.int .i64 u)) z (.slice (some ⟨g, off, none⟩) n cap) (xs.set k u) := by
  rcases h with ⟨h, _⟩ | ⟨g', off', cap', cs, e, h1, h2, h3, h4, h5, h6⟩
  · cases h
  · injection e with e1 e2 e3
    injection e1 with e1
    injection e1 with e4 e5
    subst e4 e5 e3
    refine .inr ⟨g, off, cap, _, by rw [e2, List.length_set], h1, h2.set_ _ _, by simpa using h3, h4, by simpa using h5, fun i hi => ?_⟩
    rw [List.length_set] at hi
    rw [List.getElem?_set]
    split
    · rename_i e
      obtain rfl : k = i := by omega
      rw [if_pos (by omega)]
      simp [List.getD_eq_getElem?_getD, hi]
    · rename_i e
      rw [h6 i hi, List.getD_eq_getElem?_getD, List.getD_eq_getElem?_getD, List.getElem?_set_ne (by omega)]
theorem setCells_at {t : TypeId} : ∀ (us cs : List Value) (o : Nat) (w : World), Blk w g t cs → o + us.length ≤ cs.length →
    ∃ cs', Blk (w.setCells g o us) g t cs' ∧ cs'.length = cs.length ∧ (∀ i, i < o → cs'[i]? = cs[i]?) ∧ (∀ j, j < us.length → cs'[o + j]? = us[j]?) ∧ Chg (· = g) w (w.setCells g o us) := by
  intro us
  induction us with
  | nil => exact fun cs o w h _ => ⟨cs, h, rfl, fun _ _ => rfl, fun j hj => absurd hj (by simp), Chg.refl _ _⟩
  | cons u us ih =>
    intro cs o w h hl
    simp only [List.length_cons] at hl
    obtain ⟨cs', h1, h2, h3, h4, h5⟩ := ih (cs.set o u) (o + 1) _ (h.set_ o u) (by rw [List.length_set]; omega)
    refine ⟨cs', h1, by simpa using h2, fun i hi => ?_, fun j hj => ?_, ((Chg.refl _ w).set1 o u).trans h5⟩
    · rw [h3 i (by omega), List.getElem?_set_ne (by omega)]
    · cases j with
      | zero =>
        have ho : o < cs.length := by omega
        rw [Nat.add_zero, h3 o (Nat.lt_succ_self o)]
        simp [ho]
      | succ j =>
        have := h4 j (by simpa using hj)
        rw [show o + (j + 1) = o + 1 + j by omega, this]
        simp
theorem rd_src (hs : L1.Rd w a n ys) : Src Try.prog 1 25 (.slice a n c) n (ints ys) w := by
  have hl := hs.1
  cases a with
  | none =>
    have h0 : n = 0 := by
      rcases Nat.eq_zero_or_pos n with h | h
      · exact h
      · obtain ⟨x, e, _⟩ := hs.2 h
        exact absurd e (by simp)
    subst h0
    obtain rfl : ys = [] := List.eq_nil_of_length_eq_zero hl
    exact Src.ofNil w Try.underlying25 c
  | some ad =>
    refine Src.ofSlice w Try.underlying25 ad n c (ints ys) (by rw [ints_length, hl, Nat.mul_one]) (fun j u hu => ?_) (ints_one ys)
    have hj : j < n := by have := (List.getElem?_eq_some_iff.1 hu).1; rw [ints_length] at this; omega
    obtain ⟨x, e, hx⟩ := hs.at_ hj
    injection e with e
    subst e
    rw [hx, ← ints_get ys j (by omega), hu]
set_option maxRecDepth 100000 in
/-- append, by what it comes to. -/
theorem QL.app (h : QL w z v xs) (hz : z ≤ w.heap.size) (hs : L1.Rd w a n ys) (hn : xs.length + n ≤ 100000000) :
    ∃ v' w', (Builtin.append_ #[25, 25] 25 #[v, .slice a n c]).run Try.prog w = .ok v' w' ∧ QL w' z v' (xs ++ ys) ∧ w.grownBy w' v.ownBlock ∧ (v'.ownBlock = v.ownBlock ∨ v'.ownBlock = some w.heap.size) := by
  obtain ⟨i0, hi0, hz0, hz1, hz2⟩ := info_parts Try.infoInt
  have hl := hs.1
  have hsrc : Src Try.prog i0.size 25 (.slice a n c) n (ints ys) w := by rw [hz1]; exact rd_src hs
  have hrd := h.form
  -- a new block
  have grown : ∀ (base : Option Addr) (cap : Nat), v = .slice base xs.length cap → cap < xs.length + n →
      ∃ v' w', (Builtin.append_ #[25, 25] 25 #[v, .slice a n c]).run Try.prog w = .ok v' w' ∧ QL w' z v' (xs ++ ys) ∧ w.grownBy w' v.ownBlock ∧ (v'.ownBlock = v.ownBlock ∨ v'.ownBlock = some w.heap.size) := by
    intro base cap hv hcap
    obtain ⟨a1, c1, hv1, hr1⟩ := hrd
    rw [hv] at hv1
    injection hv1 with e1 e2 e3
    subst e1
    have hold : (Builtin.firstCells i0.size xs.length (.slice base xs.length cap)).run Try.prog w.drew = .ok (ints xs).toArray w.drew := by
      rw [hz1]
      exact (rd_src (c := cap) hr1).cellsD
    have hr := run_append_grow_src (P := Try.prog) w 25 25 25 3 i0 (.int .i64 0) Try.underlying25 hi0 hz0 base xs.length cap (ints xs) hold (.slice a n c) n (ints ys) hsrc hcap (by omega) (growslice_fits (by omega) (by rw [hz2]; omega))
    have hge := grownCap_ge w (xs.length + n) cap 3
    have hle := grownCap_le_maxLen w (xs.length + n) cap 3 (by unfold maxLen; omega)
    rw [hv]
    refine ⟨_, _, hr, .inr ⟨w.heap.size, 0, grownCap w (xs.length + n) cap 3, ints xs ++ ints ys ++ (Builtin.zeroCells (Value.int .i64 0).cells (grownCap w (xs.length + n) cap 3 - (xs.length + n))).toList, ?_, hz, ?_, ?_, hle, ?_, fun k hk => ?_⟩, ⟨rfl, rfl, rfl, by simp, fun k hk _ => heap_alloc_old w.drew _ hk⟩, .inr rfl⟩
    · rw [List.length_append, hl]
    · have := Blk.new w.drew 3 (ints xs ++ ints ys ++ (Builtin.zeroCells (Value.int .i64 0).cells (grownCap w (xs.length + n) cap 3 - (xs.length + n))).toList)
      have e : (ints xs ++ ints ys ++ (Builtin.zeroCells (Value.int .i64 0).cells (grownCap w (xs.length + n) cap 3 - (xs.length + n))).toList).toArray = (ints xs ++ ints ys).toArray ++ Builtin.zeroCells (Value.int .i64 0).cells (grownCap w (xs.length + n) cap 3 - (xs.length + n)) := by
        apply Array.ext'
        simp
      rw [e] at this
      exact this
    · rw [List.length_append, hl]; exact hge
    · simp only [List.length_append, ints_length, hl, Array.length_toList, Builtin.zeroCells]
      simp [Value.cells]
      omega
    · rw [Nat.zero_add, List.getElem?_append_left (by rw [List.length_append, ints_length, ints_length]; simpa using hk), show ints xs ++ ints ys = ints (xs ++ ys) by simp [ints], ints_get _ _ hk]
  rcases h with ⟨rfl, rfl⟩ | ⟨g, off, cap, cs, rfl, h1, h2, h3, h4, h5, h6⟩
  · rcases Nat.eq_zero_or_pos n with rfl | hp
    · obtain rfl : ys = [] := List.eq_nil_of_length_eq_zero hl
      refine ⟨.slice none 0 0, w, ?_, ql_nil _ _, ⟨rfl, rfl, rfl, Nat.le_refl _, fun _ _ _ => rfl⟩, .inl rfl⟩
      have hc := hsrc.cells
      simp [Builtin.append_, run_underlying Try.underlying25, sizeOf, typeInfo, hi0, Builtin.lenOf, hc]
    · exact grown none 0 rfl (by simpa using hp)
  · by_cases hroom : xs.length + n ≤ cap
    · have hr := run_append_room_src (P := Try.prog) w 25 25 25 3 i0 Try.underlying25 hi0 g off xs.length cap (.slice a n c) n (ints ys) hsrc hroom (fun j hj => by
        rw [h2.cell, List.getElem?_eq_getElem (by rw [ints_length] at hj; rw [hz1]; omega)]; rfl) (fun j hj => h2.frozen _)
      rw [hz1, Nat.mul_one] at hr
      obtain ⟨cs', k1, k2, k3, k4, k5⟩ := setCells_at (ints ys) cs (off + xs.length) w h2 (by rw [ints_length]; omega)
      refine ⟨_, _, hr, .inr ⟨g, off, cap, cs', by rw [List.length_append, hl], h1, k1, by rw [List.length_append, hl]; exact hroom, h4, by omega, fun k hk => ?_⟩, ⟨k5.os, k5.tape, k5.output, k5.size, fun i hi hne => k5.block i hi fun e => hne (by rw [e]; rfl)⟩, .inl rfl⟩
      rw [List.length_append] at hk
      rcases Nat.lt_or_ge k xs.length with hlt | hge
      · rw [k3 _ (by omega), h6 k hlt]
        simp [List.getD_eq_getElem?_getD, List.getElem?_append_left hlt]
      · have := k4 (k - xs.length) (by rw [ints_length]; omega)
        rw [show off + xs.length + (k - xs.length) = off + k by omega, ints_get _ _ (by omega)] at this
        rw [this]
        simp [List.getD_eq_getElem?_getD, List.getElem?_append_right hge]
    · exact grown (some ⟨g, off, none⟩) cap rfl (by omega)
end
end Go.Proofs.Ytgaoodjlcjmomaa.L12

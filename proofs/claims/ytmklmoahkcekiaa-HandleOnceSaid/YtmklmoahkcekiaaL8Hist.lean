/- Tables of handles: which handles were told ever, and which are gone; how many there are. Conditions: none. -/
import Derived.Test.YtmklmoahkcekiaaL8Maps
namespace Go.Proofs.Ytmklmoahkcekiaa.L8
open Go.ChangeShapes Go.WideShapes Go.ChangeAt Go.RowKit
set_option linter.unusedVariables false

/-- x was a handle and is none. -/
def gn (S : Nat → Sl) (x : Int) : Prop := ∃ i e, i < 64 ∧ e < (S i).e ∧ x = ((64 * e + i + 1 : Nat) : Int)
/-- x was told. -/
def sn (S : Nat → Sl) (x : Int) : Prop := gn S x ∨ ∃ i, Of S i x
section
variable {S : Nat → Sl} {x : Int} {m : Nat} {v : Int}
theorem gn_not (h : gn S x) (i : Nat) : ¬ Of S i x := by
  rintro ⟨h1, _, h3⟩
  obtain ⟨j, e, h4, h5, h6⟩ := h
  unfold hd at h3
  have hji : j = i := by omega
  subst hji
  omega
theorem new_gn (h : (S m).t = false) : gn (upd S m ⟨(S m).e, true, v⟩) x ↔ gn S x := by
  have he : ∀ i, (upd S m ⟨(S m).e, true, v⟩ i).e = (S i).e := fun i => by
    by_cases hi : i = m
    · subst hi; rw [upd_same]
    · rw [upd_ne S _ hi]
  unfold gn
  simp only [he]
theorem hd_upd (S : Nat → Sl) {i j : Nat} (s : Sl) (h : j ≠ i) : hd (upd S i s) j = hd S j := by unfold hd; rw [upd_ne S _ h]
theorem new_sn (hm : m < 64) (h : (S m).t = false) : sn (upd S m ⟨(S m).e, true, v⟩) x ↔ sn S x ∨ x = (hd S m : Nat) := by
  unfold sn
  rw [new_gn h]
  constructor
  · rintro (hg | ⟨i, h1, h2, h3⟩)
    · exact .inl (.inl hg)
    · by_cases hi : i = m
      · subst hi
        refine .inr ?_
        rw [h3]
        unfold hd
        rw [upd_same]
      · rw [upd_ne S _ hi] at h2
        rw [hd_upd S _ hi] at h3
        exact .inl (.inr ⟨i, h1, h2, h3⟩)
  · rintro ((hg | ⟨i, h1, h2, h3⟩) | rfl)
    · exact .inl hg
    · have hi : i ≠ m := by rintro rfl; rw [h] at h2; cases h2
      exact .inr ⟨i, h1, by rw [upd_ne S _ hi]; exact h2, by rw [hd_upd S _ hi]; exact h3⟩
    · exact .inr ⟨m, hm, by rw [upd_same], by unfold hd; rw [upd_same]⟩
theorem new_fresh (hm : m < 64) (h : (S m).t = false) : ¬ sn S (hd S m : Nat) := by
  rintro (⟨i, e, h1, h2, h3⟩ | ⟨i, h1, h2, h3⟩)
  · unfold hd at h3
    have : i = m := by omega
    subst this
    omega
  · unfold hd at h3
    have : i = m := by omega
    subst this
    rw [h] at h2
    cases h2
theorem drop_gn (hm : m < 64) : gn (upd S m ⟨(S m).e + 1, false, 0⟩) x ↔ gn S x ∨ x = (hd S m : Nat) := by
  unfold gn
  constructor
  · rintro ⟨i, e, h1, h2, h3⟩
    by_cases hi : i = m
    · subst hi
      rw [upd_same] at h2
      dsimp only at h2
      by_cases he : e = (S i).e
      · subst he
        exact .inr h3
      · exact .inl ⟨i, e, h1, by omega, h3⟩
    · rw [upd_ne S _ hi] at h2
      exact .inl ⟨i, e, h1, h2, h3⟩
  · rintro (⟨i, e, h1, h2, h3⟩ | rfl)
    · refine ⟨i, e, h1, ?_, h3⟩
      by_cases hi : i = m
      · subst hi
        rw [upd_same]
        dsimp only
        omega
      · rw [upd_ne S _ hi]
        exact h2
    · exact ⟨m, (S m).e, hm, by rw [upd_same]; exact Nat.lt_succ_self _, rfl⟩
theorem drop_sn (hm : m < 64) (ht : (S m).t = true) : sn (upd S m ⟨(S m).e + 1, false, 0⟩) x ↔ sn S x := by
  unfold sn
  rw [drop_gn hm]
  constructor
  · rintro ((hg | rfl) | ⟨i, h1, h2, h3⟩)
    · exact .inl hg
    · exact .inr ⟨m, hm, ht, rfl⟩
    · by_cases hi : i = m
      · subst hi
        rw [upd_same] at h2
        cases h2
      · rw [upd_ne S _ hi] at h2
        rw [hd_upd S _ hi] at h3
        exact .inr ⟨i, h1, h2, h3⟩
  · rintro (hg | ⟨i, h1, h2, h3⟩)
    · exact .inl (.inl hg)
    · by_cases hi : i = m
      · subst hi
        exact .inl (.inr h3)
      · exact .inr ⟨i, h1, by rw [upd_ne S _ hi]; exact h2, by rw [hd_upd S _ hi]; exact h3⟩
theorem drop_fresh (hm : m < 64) (ht : (S m).t = true) : ¬ gn S (hd S m : Nat) := fun h => gn_not h m ⟨hm, ht, rfl⟩
/-- One more, one less. -/
theorem ix_more {s : Sl} (n : Nat) (h : (S m).t = false) (hs : s.t = true) : (ix (upd S m s) n).length = (ix S n).length + if m < n then 1 else 0 := by
  induction n with
  | zero => simp [ix]
  | succ n ih =>
    have e : ∀ T : Nat → Sl, (ix T (n + 1)).length = (ix T n).length + if (T n).t = true then 1 else 0 := fun T => by
      unfold ix
      rw [List.range_succ, List.filter_append, List.length_append]
      cases ht : (T n).t <;> simp [ht]
    rw [e, e, ih]
    by_cases hn : n = m
    · subst hn
      rw [upd_same, h, hs]
      simp
    · rw [upd_ne S _ hn]
      by_cases h1 : m < n
      · have a1 : (if m < n then 1 else 0) = 1 := if_pos h1
        have a2 : (if m < n + 1 then 1 else 0) = 1 := if_pos (by omega)
        rw [a1, a2]
        omega
      · have a1 : (if m < n then 1 else 0) = 0 := if_neg h1
        have a2 : (if m < n + 1 then 1 else 0) = 0 := if_neg (by omega)
        rw [a1, a2]
        omega
theorem ix_less {s : Sl} (n : Nat) (h : (S m).t = true) (hs : s.t = false) : (ix (upd S m s) n).length + (if m < n then 1 else 0) = (ix S n).length := by
  have h1 := ix_more (S := upd S m s) (m := m) (s := S m) n (by rw [upd_same]; exact hs) h
  rw [upd_upd] at h1
  have e : upd S m (S m) = S := by
    funext j
    unfold upd
    split
    · rename_i hj; rw [hj]
    · rfl
  rw [e] at h1
  exact h1.symm
theorem ix_full (h : ∀ j, j < 64 → (S j).t = true) : (ix S 64).length = 64 := by
  unfold ix
  rw [List.filter_eq_self.2 (fun i hi => h i (by simpa using hi))]
  simp
end
theorem zero_gn (x : Int) : ¬ gn (fun _ => zero) x := by
  rintro ⟨i, e, _, h, _⟩
  exact absurd h (Nat.not_lt_zero _)
theorem zero_sn (x : Int) : ¬ sn (fun _ => zero) x := by
  rintro (h | ⟨i, _, h, _⟩)
  · exact zero_gn x h
  · cases h
theorem zero_ix : (ix (fun _ => zero) 64).length = 0 := by
  unfold ix
  rw [List.filter_eq_nil_iff.2 (fun i _ => by simp [zero])]
  rfl
theorem Mp.mono {w : World} {b n n' N : Nat} {p : Int → Prop} (h : Mp w b n N p) (hn : n ≤ n') : Mp w b n' N p := by
  obtain ⟨D, h1, h2⟩ := h
  exact ⟨D, h1.mono hn, h2⟩
theorem Mp.le {w : World} {b n N : Nat} {p : Int → Prop} (h : Mp w b n N p) : N ≤ n := by
  obtain ⟨D, h1, h2, _⟩ := h
  exact h2 ▸ h1.size_le
end Go.Proofs.Ytmklmoahkcekiaa.L8

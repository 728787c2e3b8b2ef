/- The plain set: length, All, Poll. Conditions: at most 1000000 things. -/
import Derived.Test.YtgaoodjlcjmomaaL12Fz
namespace Go.Proofs.Ytgaoodjlcjmomaa.L12
open Go.ChangeShapes Go.WideShapes Go.ChangeAt Go.RowKit
set_option linter.unusedVariables false
/-- The plain set at block p. -/
abbrev RS (w : World) (z p : Nat) (S : Nat → Prop) (Q : Nat → List Int) (E : List Int) : Prop := FS w z p 32 S (upd Q 4 E)
section
variable {w w' W : World} {z p n i : Nat} {S T : Nat → Prop} {v : Nat → Value} {Q : Nat → List Int} {E l : List Int} {x q : Int}
theorem upd_comm {α : Type} (f : Nat → α) {i j : Nat} (h : i ≠ j) (x y : α) : upd (upd f i x) j y = upd (upd f j y) i x := by
  funext k
  unfold upd
  by_cases e1 : k = i
  · subst e1
    simp [h]
  · simp [e1]
theorem q4 (hi : i < 4) : upd Q 4 E i = Q i := upd_ne _ _ (by omega)
set_option maxRecDepth 100000 in
theorem length_any (h : RS w z p S Q E) (q : Int) (hq64 : In64 q) :
    Calls Try.prog 24 #[ptr p, .int .i64 q] w fun e w' => e = .returned (.int .i64 (lnV Q q)) ∧ w = w' := by
  obtain ⟨v, h⟩ := h
  cases hq : isQ q with
  | false =>
    have HQ := isQ_no hq
    unfold lnV
    rw [hq]
    clear h hq
    by_cases h1 : q < 1
    · have q1 : decide (q < 1) = true := by simpa using h1
      clear HQ h1
      go_enter Try.func24, Try.ntmps24
      go_wp2
      go_ret
      exact ⟨rfl, rfl⟩
    · have q1 : decide (q < 1) = false := by simpa using h1
      have q2 : decide (q > 4) = true := by simp; omega
      clear HQ h1
      go_enter Try.func24, Try.ntmps24
      go_wp2
      go_ret
      exact ⟨rfl, rfl⟩
  | true =>
    obtain ⟨hi, e⟩ := isQ_yes hq
    unfold lnV
    rw [hq, if_pos rfl]
    generalize pl q = i at *
    subst e
    obtain ⟨a, c, hv, -⟩ := (h.ls.ql i (by omega)).form
    have hc := h.cell (show i < 5 by omega)
    rw [hv, q4 hi] at hc
    have q1 : decide ((i : Int) + 1 < 1) = false := by simp; omega
    have q2 : decide ((i : Int) + 1 > 4) = false := by simp; omega
    have d1 : IntKind.i64.wrap ((i : Int) + 1 - 1) = i := (w64 (by omega)).trans (by omega)
    have q3 : (i : Int) < 4 := by omega
    clear h hq hv hi hq64
    go_enter Try.func24, Try.ntmps24
    go_wp2
    go_ret
    exact ⟨rfl, rfl⟩
set_option maxRecDepth 100000 in
set_option maxHeartbeats 1000000 in
theorem rall_any (h : RS w z p S Q E) (hb : ∀ i, i < 4 → (Q i).length < 1000000) :
    Calls Try.prog 19 #[ptr p] w fun e w' => ∃ a c, e = .returned (.slice a (cat Q 4).length c) ∧ QL w' w.heap.size (.slice a (cat Q 4).length c) (cat Q 4) ∧ Grow w w' := by
  have HH := hide h
  have HL := hide (fun k (hk : k ≤ 4) => cat_len hb k hk)
  have HQ := hide hb
  clear h hb
  go_enter Try.func19, Try.ntmps19
  go_wp2_with fail
  go_loopw [3, 4] (fun s v wr => ∃ k : Nat, k ≤ 4 ∧ v = .int .i64 k ∧ QL wr w.heap.size s (cat Q k) ∧ Grow w wr) (fun _ v _ => 4 - (Go.RowKit.intOf v).toNat)
  case atStart => exact ⟨0, by omega, rfl, ql_nil _ _, Chg.refl _ _⟩
  case round =>
    obtain ⟨k, hk, rfl, ho, cg⟩ := hrel
    rcases Nat.eq_or_lt_of_le hk with rfl | hlt
    · have HO := hide ho
      have HC := hide cg
      clear hk ho cg
      go_wp2
      go_ret
      obtain ⟨a, c, rfl, -⟩ := HO.out.form
      exact ⟨a, c, rfl, HO.out, HC.out⟩
    · obtain ⟨vv, hv⟩ := HH.out.grow cg
      obtain ⟨a, c, e, h0⟩ := (hv.ls.ql k (by omega)).form
      have k0 := hv.cell (show k < 5 by omega)
      rw [q4 hlt] at e h0
      rw [e] at k0
      have q1 : (k : Int) < 4 := by omega
      have hw : IntKind.i64.wrap ((k : Int) + 1) = ((k + 1 : Nat) : Int) := (w64 (by omega)).trans (by omega)
      obtain ⟨v', W', hr, ho', cg', -⟩ := app_more (c0 := c) cg ho h0 (by have := HL.out k hk; have := HQ.out k hlt; omega)
      have KA := hide hr
      have HO := hide ho'
      have HC := hide cg'
      have HK := hide hlt
      clear hk hlt hr ho' cg' ho cg h0 e hv
      go_wp2_with (at_builtin; refine wpList_app rfl _ _ 25 rfl u3 (.slice a (Q k).length c) v' _ W' rfl rfl KA.out ?_)
      go_roundw
      case rel => exact ⟨k + 1, HK.out, rfl, HO.out, HC.out⟩
      case measure => have := HK.out; simp [Go.RowKit.intOf]; omega
set_option maxRecDepth 100000 in
theorem rpoll_out (hq : isQ q = false) (p : Nat) (w : World) :
    Calls Try.prog 15 #[ptr p, .int .i64 q] w fun e w' => e = .returned (.tuple #[.int .i64 0, .int .i64 1]) ∧ w = w' := by
  have HQ := isQ_no hq
  clear hq
  by_cases h1 : q < 1
  · have q1 : decide (q < 1) = true := by simpa using h1
    clear HQ h1
    go_enter Try.func15, Try.ntmps15
    go_wp2
    go_returns
    exact ⟨rfl, rfl⟩
  · have q1 : decide (q < 1) = false := by simpa using h1
    have q2 : decide (q > 4) = true := by simp; omega
    clear HQ h1
    go_enter Try.func15, Try.ntmps15
    go_wp2
    go_returns
    exact ⟨rfl, rfl⟩
set_option maxRecDepth 100000 in
theorem rpoll_none (h : RS w z p S Q E) (hi : i < 4) (hn : Q i = []) :
    Calls Try.prog 15 #[ptr p, .int .i64 ((i : Int) + 1)] w fun e w' => e = .returned (.tuple #[.int .i64 0, .int .i64 10]) ∧ w = w' := by
  obtain ⟨v, h⟩ := h
  obtain ⟨a, c, hv, -⟩ := (h.ls.ql i (by omega)).form
  have hc := h.cell (show i < 5 by omega)
  rw [hv, q4 hi, hn] at hc
  have q1 : decide ((i : Int) + 1 < 1) = false := by simp; omega
  have q2 : decide ((i : Int) + 1 > 4) = false := by simp; omega
  have d1 : IntKind.i64.wrap ((i : Int) + 1 - 1) = i := (w64 (by omega)).trans (by omega)
  have q3 : (i : Int) < 4 := by omega
  clear h hv hi hn
  go_enter Try.func15, Try.ntmps15
  go_wp2
  go_returns
  exact ⟨rfl, rfl⟩
set_option maxRecDepth 100000 in
theorem rpoll_one (h : RS w z p S Q E) (hi : i < 4) (hn : Q i = x :: l) (hl : l.length < 1000000) :
    Calls Try.prog 15 #[ptr p, .int .i64 ((i : Int) + 1)] w fun e w' => e = .returned (.tuple #[.int .i64 x, .int .i64 0]) ∧ Chg (· = p) w w' ∧ RS w' z p S (upd Q i l) E := by
  obtain ⟨v, h⟩ := h
  have hql := h.ls.ql i (show i < 5 by omega)
  rw [q4 hi, hn] at hql
  obtain ⟨g, off, cap, hv, hzg, hg, hcap, hmax⟩ := hql.pos (by simp)
  have hc := h.cell (show i < 5 by omega)
  rw [hv] at hc hql
  have hx := (hql.cell (k := 0) (by simp)).1
  have hf := h.blk.frozen i
  simp only [List.length_cons, List.getD_cons_zero, Nat.add_zero] at hc hx hql hcap
  have hfin := h.put (w' := w.drew) (by decide) (show i < 5 by omega) hql.tail (T := fun _ => False) (Chg.refl _ w).drew (fun _ _ h => h.elim) (fun k hk => .inl (by rw [hv]; exact hk))
  have hS : ∀ k, S k ∨ some g = some k ↔ S k := fun k => ⟨fun h' => h'.elim id fun e => h.sq i (by omega) k (by rw [hv]; exact e), .inl⟩
  have HF : Hid (RS (w.drew.setCell ⟨p, i, none⟩ (.slice (some ⟨g, (if cap = 1 then off else off + 1), none⟩) l.length (cap - 1))) z p S (upd Q i l) E) := hide (by
    show FS _ _ _ _ _ _
    rw [upd_comm Q (show i ≠ 4 by omega)]
    exact ⟨_, hfin.ext hS⟩)
  have q0 : ((l.length : Int) + 1 == 0) = false := by simp; omega
  have q1 : decide ((i : Int) + 1 < 1) = false := by simp; omega
  have q2 : decide ((i : Int) + 1 > 4) = false := by simp; omega
  have d1 : IntKind.i64.wrap ((i : Int) + 1 - 1) = i := (w64 (by omega)).trans (by omega)
  have d2 : IntKind.i64.wrap (i : Int) = i := w64 (by omega)
  have q3 : (i : Int) < 4 := by omega
  have q5 : (0 : Int) ≤ i := by omega
  clear h hv hi hql hn hfin hS
  by_cases e : cap = 1
  · subst e
    have hl0 : l.length = 0 := by omega
    rw [if_pos rfl, hl0, Nat.sub_self] at HF
    rw [hl0] at hc q0
    clear hl0 hcap hmax hl
    go_enter Try.func15, Try.ntmps15
    go_wp2_with fail
    go_region
    all_goals (go_wp2; go_returns; exact ⟨rfl, (Chg.refl _ _).drew.set1 _ _, HF.out⟩)
  · rw [if_neg e] at HF
    have e2 : ¬ (1 = cap) := fun h => e h.symm
    go_enter Try.func15, Try.ntmps15
    go_wp2_with fail
    go_region
    all_goals (go_wp2; go_returns; exact ⟨rfl, (Chg.refl _ _).drew.set1 _ _, HF.out⟩)
/-- Poll. -/
theorem rpoll_any (h : RS w z p S Q E) (q : Int) (hl : ∀ i, i < 4 → (Q i).length < 1000000) :
    Calls Try.prog 15 #[ptr p, .int .i64 q] w fun e w' => e = .returned (.tuple #[.int .i64 (poV Q q), .int .i64 (poX Q q)]) ∧ Chg S w w' ∧ RS w' z p S (poQ Q q) E := by
  cases hq : isQ q with
  | false =>
    refine (rpoll_out hq p w).mono fun e w' ⟨h1, h2⟩ => ?_
    subst h2
    refine ⟨?_, Chg.refl _ _, ?_⟩
    · rw [h1]; simp [poV, poX, hq]
    · simpa [poQ, hq] using h
  | true =>
    obtain ⟨hi, e⟩ := isQ_yes hq
    have hp : S p := by obtain ⟨v, h⟩ := h; exact h.sg
    cases hn : Q (pl q) with
    | nil =>
      have := rpoll_none h hi hn
      rw [← e] at this
      refine this.mono fun e w' ⟨h1, h2⟩ => ?_
      subst h2
      have e2 : upd Q (pl q) [] = Q := by rw [← hn]; exact upd_self Q _
      refine ⟨?_, Chg.refl _ _, ?_⟩
      · rw [h1]; simp [poV, poX, hq, hn]
      · simp only [poQ, hq, hn, if_pos, List.tail_nil, e2]
        exact h
    | cons x l =>
      have hb := hl (pl q) hi
      rw [hn] at hb
      have := rpoll_one h hi hn (by simp at hb; omega)
      rw [← e] at this
      refine this.mono fun e w' ⟨h1, h2, h3⟩ => ⟨?_, h2.mono fun k _ hk => by rw [hk]; exact hp, ?_⟩
      · rw [h1]; simp [poV, poX, hq, hn]
      · simpa [poQ, hq, hn] using h3
end
end Go.Proofs.Ytgaoodjlcjmomaa.L12

/- Sets of queues: Len, Poll, Put. Conditions: at most 1000000 things a queue. -/
import Derived.Test.YtgaoodjlcjmomaaL12Set
namespace Go.Proofs.Ytgaoodjlcjmomaa.L12
open Go.ChangeShapes Go.WideShapes Go.ChangeAt Go.RowKit
set_option linter.unusedVariables false

/-- Is there such a queue; its place. -/
def isQ (q : Int) : Bool := decide (1 ≤ q) && decide (q ≤ 4)
def pl (q : Int) : Nat := (q - 1).toNat
theorem isQ_yes {q : Int} (h : isQ q = true) : pl q < 4 ∧ q = (pl q : Int) + 1 := by
  simp only [isQ, Bool.and_eq_true, decide_eq_true_eq] at h
  unfold pl
  omega
theorem isQ_no {q : Int} (h : isQ q = false) : q < 1 ∨ 4 < q := by
  unfold isQ at h
  by_cases h1 : 1 ≤ q <;> simp [h1] at h <;> omega
/-- What Len, Poll, Put answer and do. -/
def lnV (Q : Nat → List Int) (q : Int) : Int := if isQ q then ((Q (pl q)).length : Int) else 0
def poV (Q : Nat → List Int) (q : Int) : Int := if isQ q then (Q (pl q)).headD 0 else 0
def poX (Q : Nat → List Int) (q : Int) : Int := if isQ q then (if Q (pl q) = [] then 10 else 0) else 1
def poQ (Q : Nat → List Int) (q : Int) : Nat → List Int := if isQ q then upd Q (pl q) (Q (pl q)).tail else Q
def puB (E : List Int) (q x : Int) : Bool := isQ q && !decide (x ∈ E)
def puX (q : Int) : Int := if isQ q then 0 else 1
def puQ (Q : Nat → List Int) (E : List Int) (q x : Int) : Nat → List Int := if puB E q x then upd Q (pl q) (Q (pl q) ++ [x]) else Q
def puE (E : List Int) (q x : Int) : List Int := if puB E q x then E ++ [x] else E
section
variable {w w' W : World} {z p n i : Nat} {S T : Nat → Prop} {v : Nat → Value} {Q : Nat → List Int} {E : List Int} {x q : Int}
theorem Qs.ext (h : Qs w z p T v Q E) (hs : ∀ k, T k ↔ S k) : Qs w z p S v Q E :=
  ⟨h.blk, h.ls, h.ev, (hs _).1 h.sp, fun i hi k hk => (hs _).1 (h.sq i hi k hk), fun m hm => (hs _).1 (h.sm m hm), fun k hk => h.s k ((hs _).2 hk), h.wf, h.inn⟩
set_option maxRecDepth 100000 in
theorem len_any (h : QS w z S p Q E) (q : Int) :
    Calls Try.prog 21 #[ptr p, .int .i64 q] w fun e w' => e = .returned (.int .i64 (lnV Q q)) ∧ w = w' := by
  obtain ⟨v, h⟩ := h
  cases hq : isQ q with
  | false =>
    have HQ := hide (isQ_no hq)
    unfold lnV
    rw [hq]
    clear h hq
    go_enter Try.func21, Try.ntmps21
    go_wp2_with fail
    refine (queue_out p q HQ.out w).mono ?_
    rintro e w1 ⟨rfl, rfl⟩
    go_wp2
    go_ret
    exact ⟨rfl, rfl⟩
  | true =>
    obtain ⟨hi, e⟩ := isQ_yes hq
    unfold lnV
    rw [hq, if_pos rfl]
    generalize pl q = i at *
    subst e
    obtain ⟨a, c, hv, -⟩ := (h.ls.ql i hi).form
    have hc := h.cell (show i < 5 by omega)
    rw [hv] at hc
    have HI := hide hi
    clear h hq hv hi
    go_enter Try.func21, Try.ntmps21
    go_wp2_with fail
    refine (queue_in p i HI.out w).mono ?_
    rintro e w1 ⟨rfl, rfl⟩
    go_wp2
    go_ret
    exact ⟨rfl, rfl⟩
theorem len_nil (q : Int) (w : World) :
    Calls Try.prog 21 #[.pointer none, .int .i64 q] w fun e w' => e = .returned (.int .i64 0) ∧ w = w' := by
  go_enter Try.func21, Try.ntmps21
  go_wp2_with fail
  refine (queue_nil q w).mono ?_
  rintro e w1 ⟨rfl, rfl⟩
  go_wp2
  go_ret
  exact ⟨rfl, rfl⟩
theorem poll_nil (q : Int) (w : World) :
    Calls Try.prog 14 #[.pointer none, .int .i64 q] w fun e w' => e = .returned (.tuple #[.int .i64 0, .int .i64 1]) ∧ w = w' := by
  go_enter Try.func14, Try.ntmps14
  go_wp2_with fail
  refine (queue_nil q w).mono ?_
  rintro e w1 ⟨rfl, rfl⟩
  go_wp2
  go_returns
  exact ⟨rfl, rfl⟩
theorem put_nil (q x : Int) (w : World) :
    Calls Try.prog 11 #[.pointer none, .int .i64 q, .int .i64 x] w fun e w' => e = .returned (.tuple #[.bool false, .int .i64 1]) ∧ w = w' := by
  go_enter Try.func11, Try.ntmps11
  go_wp2_with fail
  refine (queue_nil q w).mono ?_
  rintro e w1 ⟨rfl, rfl⟩
  go_wp2
  go_returns
  exact ⟨rfl, rfl⟩
set_option maxRecDepth 100000 in
set_option maxRecDepth 100000 in
theorem poll_out (h : QS w z S p Q E) (hq : isQ q = false) :
    Calls Try.prog 14 #[ptr p, .int .i64 q] w fun e w' => e = .returned (.tuple #[.int .i64 0, .int .i64 1]) ∧ w = w' := by
  have HQ := hide (isQ_no hq)
  clear h hq
  go_enter Try.func14, Try.ntmps14
  go_wp2_with fail
  refine (queue_out p q HQ.out w).mono ?_
  rintro e w1 ⟨rfl, rfl⟩
  go_wp2
  go_returns
  exact ⟨rfl, rfl⟩
set_option maxRecDepth 100000 in
theorem poll_none (h : Qs w z p S v Q E) (hi : i < 4) (hn : Q i = []) :
    Calls Try.prog 14 #[ptr p, .int .i64 ((i : Int) + 1)] w fun e w' => e = .returned (.tuple #[.int .i64 0, .int .i64 10]) ∧ w = w' := by
  obtain ⟨a, c, hv, -⟩ := (h.ls.ql i hi).form
  have hc := h.cell (show i < 5 by omega)
  rw [hv, hn] at hc
  have HI := hide hi
  clear h hv hi
  go_enter Try.func14, Try.ntmps14
  go_wp2_with fail
  refine (queue_in p i HI.out w).mono ?_
  rintro e w1 ⟨rfl, rfl⟩
  go_wp2
  go_returns
  exact ⟨rfl, rfl⟩
set_option maxRecDepth 100000 in
theorem poll_one (h : Qs w z p S v Q E) (hi : i < 4) {x : Int} {l : List Int} (hn : Q i = x :: l) (hl : l.length < 1000000) :
    Calls Try.prog 14 #[ptr p, .int .i64 ((i : Int) + 1)] w fun e w' => e = .returned (.tuple #[.int .i64 x, .int .i64 0]) ∧ Chg (· = p) w w' ∧ QS w' z S p (upd Q i l) E := by
  have hql := h.ls.ql i hi
  rw [hn] at hql
  obtain ⟨g, off, cap, hv, hzg, hg, hcap, hmax⟩ := hql.pos (by simp)
  have hc := h.cell (show i < 5 by omega)
  rw [hv] at hc hql
  have hx := (hql.cell (k := 0) (by simp)).1
  have hf := h.blk.frozen i
  simp only [List.length_cons, List.getD_cons_zero, Nat.add_zero] at hc hx hql hcap
  have HF := hide (h.put hi hql.tail (Chg.refl (fun _ => False) w) (fun _ _ h => h.elim) (fun k hk => .inl (by rw [hv]; exact hk)) (fun y hy => h.inn i hi y (by rw [hn]; exact List.mem_cons_of_mem _ hy)))
  have HS := hide (show ∀ k, S k ∨ some g = some k ↔ S k from fun k => ⟨fun h' => h'.elim id fun e => h.sq i hi k (by rw [hv]; exact e), .inl⟩)
  have HI := hide hi
  have q0 : ((l.length : Int) + 1 == 0) = false := by simp; omega
  clear h hv hi hql hn
  by_cases e : cap = 1
  · subst e
    have hl0 : l.length = 0 := by omega
    rw [if_pos rfl, hl0, Nat.sub_self] at HF
    rw [hl0] at hc q0
    clear hl0 hcap hmax hl
    go_enter Try.func14, Try.ntmps14
    go_wp2_with fail
    refine (queue_in p i HI.out w).mono ?_
    rintro e w1 ⟨rfl, rfl⟩
    go_wp2
    go_returns
    exact ⟨rfl, (Chg.refl _ _).set1 _ _, _, HF.out.ext HS.out⟩
  · rw [if_neg e] at HF
    have e2 : ¬ (1 = cap) := fun h => e h.symm
    go_enter Try.func14, Try.ntmps14
    go_wp2_with fail
    refine (queue_in p i HI.out w).mono ?_
    rintro e w1 ⟨rfl, rfl⟩
    go_wp2
    go_returns
    exact ⟨rfl, (Chg.refl _ _).set1 _ _, _, HF.out.ext HS.out⟩
/-- Poll. -/
theorem poll_any (h : QS w z S p Q E) (q : Int) (hl : ∀ i, i < 4 → (Q i).length < 1000000) :
    Calls Try.prog 14 #[ptr p, .int .i64 q] w fun e w' => e = .returned (.tuple #[.int .i64 (poV Q q), .int .i64 (poX Q q)]) ∧ Chg S w w' ∧ QS w' z S p (poQ Q q) E := by
  cases hq : isQ q with
  | false =>
    refine (poll_out h hq).mono fun e w' ⟨h1, h2⟩ => ?_
    subst h2
    refine ⟨?_, Chg.refl _ _, ?_⟩
    · rw [h1]; simp [poV, poX, hq]
    · simpa [poQ, hq] using h
  | true =>
    obtain ⟨hi, e⟩ := isQ_yes hq
    obtain ⟨v, h⟩ := h
    have hp := h.sp
    cases hn : Q (pl q) with
    | nil =>
      have := poll_none h hi hn
      rw [← e] at this
      refine this.mono fun e w' ⟨h1, h2⟩ => ?_
      subst h2
      have e2 : upd Q (pl q) [] = Q := by
        funext j
        by_cases ej : j = pl q
        · rw [ej, upd_at, hn]
        · rw [upd_ne _ _ ej]
      refine ⟨?_, Chg.refl _ _, v, ?_⟩
      · rw [h1]; simp [poV, poX, hq, hn]
      · simp only [poQ, hq, hn, if_pos, List.tail_nil, e2]
        exact h
    | cons x l =>
      have hb := hl (pl q) hi
      rw [hn] at hb
      have := poll_one h hi hn (by simp at hb; omega)
      rw [← e] at this
      refine this.mono fun e w' ⟨h1, h2, h3⟩ => ⟨?_, h2.mono fun k _ hk => by rw [hk]; exact hp, ?_⟩
      · rw [h1]; simp [poV, poX, hq, hn]
      · simpa [poQ, hq, hn] using h3
end
end Go.Proofs.Ytgaoodjlcjmomaa.L12

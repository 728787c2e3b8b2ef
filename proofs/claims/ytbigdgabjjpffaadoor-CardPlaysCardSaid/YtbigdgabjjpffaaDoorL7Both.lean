/- The plain table of cards in the words of the set of dirty cards; it and the table side by side. Conditions: addresses are at most 4096. -/
import Derived.Test.YtbigdgabjjpffaaDoorL7Ref2
namespace Go.Proofs.YtbigdgabjjpffaaDoor.L7
open Go.ChangeShapes Go.WideShapes Go.ChangeAt Go.RowKit
open Go.Proofs.YtbigdgabjjpffaaDoor.L3
set_option linter.unusedVariables false

section
variable {S : Nat → Bool} {f t n : Nat}
theorem cds_congr {U : Nat → Bool} (k : Nat) (h : ∀ i, i < k → S i = U i) : cds S f k = cds U f k := by
  induction k with
  | zero => rfl
  | succ k ih => rw [cds, cds, ih fun i hi => h i (by omega), h k (Nat.lt_succ_self k)]
/-- One card more, in its place. -/
theorem cds_ins {c : Nat} (hs : S c = false) (n : Nat) (hc : c < n) : ∃ r, cds S f n = cds S f c ++ r ∧ cds (upd S c true) f n = cds S f c ++ [((f + 16 * c : Nat) : Int)] ++ r := by
  induction n with
  | zero => omega
  | succ n ih =>
    by_cases e : c = n
    · subst e
      refine ⟨[], ?_, ?_⟩
      · rw [cds, hs]; simp
      · rw [cds, upd_at, cds_congr (U := S) c fun i hi => upd_ne (by omega)]; simp
    · obtain ⟨r, h1, h2⟩ := ih (by omega)
      refine ⟨r ++ if S n then [((f + 16 * n : Nat) : Int)] else [], ?_, ?_⟩
      · rw [cds, h1, List.append_assoc]
      · rw [cds, h2, upd_ne (Ne.symm e), List.append_assoc]
theorem cds_at {i : Nat} (h : i < (cds S f n).length) : ∃ c, c < n ∧ S c = true ∧ cnt S c = i ∧ (cds S f n).getD i 0 = ((f + 16 * c : Nat) : Int) := by
  rw [cds_len] at h
  obtain ⟨c, h1, h2, h3⟩ := nth S n i h
  exact ⟨c, h1, h2, h3, by rw [← h3]; exact cds_get n h1 h2⟩
theorem cds_mem {c : Nat} : (∃ j, j < (cds S f n).length ∧ (cds S f n).getD j 0 = ((f + 16 * c : Nat) : Int)) ↔ c < n ∧ S c = true := by
  constructor
  · rintro ⟨j, h1, h2⟩
    obtain ⟨d, h3, h4, h5, h6⟩ := cds_at h1
    have : d = c := by rw [h6] at h2; omega
    exact this ▸ ⟨h3, h4⟩
  · rintro ⟨h1, h2⟩
    exact ⟨cnt S c, by rw [cds_len]; exact cnt_lt h1 h2, cds_get n h1 h2⟩
end

/-- The plain table with the dirty cards S. -/
def Rs (w : World) (q f t : Nat) (S : Nat → Bool) (G : Nat → Prop) : Prop := ∃ a n c, Rt w q f t a n c (cds S f (nc f t)) G
section
variable {w w' : World} {q f t : Nat} {S : Nat → Bool} {G C : Nat → Prop}
theorem Rs.chg (h : Rs w q f t S G) (k : Chg C w w') (hq : ¬ C q) (hC : ∀ i, C i → G i) : Rs w' q f t S G := by
  obtain ⟨a, n, c, h⟩ := h
  exact ⟨a, n, c, h.chg k hq hC⟩
theorem Rs.grow (h : Rs w q f t S G) (k : Grow w w') : Rs w' q f t S G := h.chg k id fun _ h => h.elim
theorem Rs.at_ {U : Nat → Bool} (h : Rs w q f t S G) (e : U = S) : Rs w q f t U G := e ▸ h
theorem nc_le {f t : Nat} (h : t ≤ 4096) : nc f t ≤ 256 := by unfold nc; omega
theorem rs_touch (h : Rs w q f t S G) (x : Int) (hG : ∀ i, G i → i < w.heap.size) {b : Bool} (hb : isnew S f t x = b) {U : Nat → Bool} (hU : tset S f t x = U) :
    Calls Tryd.prog 13 #[ptr q, .int .i64 x] w fun e w' => e = .returned (.bool b) ∧ Rs w' q f t U G ∧ Chg (· = q) w w' := by
  subst hb hU
  obtain ⟨a, n, c, h⟩ := h
  cases hi : inn f t x with
  | false =>
    rw [isnew_off hi, tset_off hi]
    exact (rtouch_out h x hi).mono fun e w' ⟨he, hw⟩ => by subst hw; exact ⟨he, ⟨a, n, c, h⟩, Chg.refl _ _⟩
  | true =>
    have hk : kc f t x = ((f + 16 * cd f x : Nat) : Int) := by unfold kc; rw [hi, if_pos rfl]
    have hcn := nc_lt hi
    have hln : (cds S f (nc f t)).length = n := h.ro.1.1
    have hn256 : n ≤ 256 := by rw [← hln]; exact Nat.le_trans (cds_le _ _ _) (nc_le h.t4)
    rw [isnew_on hi, tset_on hi]
    cases hs : S (cd f x) with
    | true =>
      rw [upd_same hs]
      refine (rtouch_had h x hk ?_).mono fun e w' ⟨he, hw⟩ => by subst hw; exact ⟨he, ⟨a, n, c, h⟩, Chg.refl _ _⟩
      rw [← hln]
      exact cds_mem.2 ⟨hcn, hs⟩
    | false =>
      obtain ⟨r, h1, h2⟩ := cds_ins (f := f) hs (nc f t) hcn
      have hlm : (cds S f (cd f x)).length = cnt S (cd f x) := cds_len _ _ _
      have hno : ¬ ∃ j, j < n ∧ (cds S f (nc f t)).getD j 0 = ((f + 16 * cd f x : Nat) : Int) := by
        rw [← hln, cds_mem, hs]
        exact fun h => by cases h.2
      have hm : cnt S (cd f x) ≤ n := by rw [← hln, h1, List.length_append, hlm]; omega
      have he : cds (upd S (cd f x) true) f (nc f t) = (cds S f (nc f t)).take (cnt S (cd f x)) ++ [((f + 16 * cd f x : Nat) : Int)] ++ (cds S f (nc f t)).drop (cnt S (cd f x)) := by
        rw [h2, h1, ← hlm, List.take_left', List.drop_left'] <;> rfl
      unfold Rs
      rw [he]
      cases a with
      | none =>
        obtain ⟨rfl, rfl⟩ := h.nil rfl
        have hnil := List.eq_nil_of_length_eq_zero hln
        rw [hnil] at h ⊢
        rw [List.take_nil, List.drop_nil]
        exact (rtouch_nil h x hk hG).mono fun e w' ⟨he, ⟨a', c', hr⟩, hc⟩ => ⟨he, ⟨a', 1, c', hr⟩, hc⟩
      | some ad =>
        refine (rtouch_new h x hk hno hm (fun i hi' => ?_) (fun hmn => ?_) (by omega) hG).mono fun e w' ⟨he, ⟨a', c', hr⟩, hc⟩ => ⟨he, ⟨a', n + 1, c', hr⟩, hc⟩
        · obtain ⟨d, _, d2, d3, d4⟩ := cds_at (f := f) (S := S) (n := nc f t) (i := i) (by rw [hln]; omega)
          rw [d4]
          have : d < cd f x := by
            rcases Nat.lt_or_ge d (cd f x) with h5 | h5
            · exact h5
            · have := cnt_mono S h5; omega
          omega
        · obtain ⟨d, _, d2, d3, d4⟩ := cds_at (f := f) (S := S) (n := nc f t) (i := cnt S (cd f x)) (by rw [hln]; exact hmn)
          rw [d4]
          have : cd f x ≤ d := by
            rcases Nat.lt_or_ge d (cd f x) with h5 | h5
            · have := cnt_lt h5 d2; omega
            · exact h5
          omega
theorem rs_dirty (h : Rs w q f t S G) (x : Int) {b : Bool} (hb : isd S f t x = b) : Calls Tryd.prog 15 #[ptr q, .int .i64 x] w fun e w' => e = .returned (.bool b) ∧ w = w' := by
  subst hb
  obtain ⟨a, n, c, h⟩ := h
  have hln : (cds S f (nc f t)).length = n := h.ro.1.1
  refine rdirty_any h x _ ?_
  cases hi : inn f t x with
  | false =>
    rw [isd_off hi]
    refine ⟨(fun h => nomatch h), fun ⟨j, h1, h2⟩ => ?_⟩
    obtain ⟨d, _, _, _, d4⟩ := cds_at (f := f) (S := S) (n := nc f t) (i := j) (by rw [hln]; exact h1)
    rw [d4, show kc f t x = -1 by unfold kc; rw [hi]; rfl] at h2
    omega
  | true =>
    have hk : kc f t x = ((f + 16 * cd f x : Nat) : Int) := by unfold kc; rw [hi, if_pos rfl]
    rw [isd_on hi, hk, ← hln, cds_mem]
    exact ⟨fun h => ⟨nc_lt hi, h⟩, fun h => h.2⟩
theorem rs_take0 (h : Rs w q f t S G) (hn : ∀ k, k < nc f t → S k = false) : Calls Tryd.prog 17 #[ptr q] w fun e w' => e = .returned (.tuple #[.int .i64 0, .int .i64 0, .bool false]) ∧ w = w' := by
  obtain ⟨a, n, c, h⟩ := h
  have hln : (cds S f (nc f t)).length = n := h.ro.1.1
  rw [cds_upto (j := 0) (Nat.zero_le _) fun i _ hi => hn i hi] at hln h
  obtain rfl : n = 0 := hln.symm
  exact rtake_none h
theorem rs_take1 (h : Rs w q f t S G) {j : Nat} (hj : j < nc f t) (hs : S j = true) (hn : ∀ k, k < j → S k = false) {x y : Nat} (hx : x = f + 16 * j) (hy : y = min (x + 16) t) :
    Calls Tryd.prog 17 #[ptr q] w fun e w' => e = .returned (.tuple #[.int .i64 x, .int .i64 y, .bool true]) ∧ Rs w' q f t (upd S j false) G ∧ Chg (· = q) w w' := by
  obtain ⟨a, n, c, h⟩ := h
  have hln : (cds S f (nc f t)).length = n := h.ro.1.1
  have e0 : upd (upd S j false) j true = S := by rw [upd_upd]; exact upd_same hs
  obtain ⟨r, h1, h2⟩ := cds_ins (S := upd S j false) (f := f) (upd_at _ _ _) (nc f t) hj
  rw [e0, cds_upto (j := 0) (Nat.zero_le _) fun i _ hi => (upd_ne (by omega)).trans (hn i hi)] at h2
  rw [cds_upto (k := j) (j := 0) (Nat.zero_le _) fun i _ hi => (upd_ne (by omega)).trans (hn i hi)] at h1
  have e1 : cds (upd S j false) f (nc f t) = r := h1
  have e2 : cds S f (nc f t) = ((f + 16 * j : Nat) : Int) :: r := h2
  have ht4 := h.t4
  have hft := h.ft
  unfold Rs
  rw [e1]
  rw [e2] at h hln
  obtain ⟨n, rfl⟩ : ∃ n', n = n' + 1 := ⟨r.length, hln.symm⟩
  unfold nc at hj
  cases a with
  | none => exact absurd (h.nil rfl).1 (Nat.succ_ne_zero n)
  | some ad =>
    refine (rtake_some h (K := x) (y := y) (by rw [hx]; rfl) (by omega) hy).mono fun e w' ⟨he, ⟨a', hr⟩, hc⟩ => ⟨he, ⟨a', n, c - 1, hr⟩, hc⟩
end

/-- Both tables, of the same dirty cards. -/
structure Both (w : World) (p m g q f t : Nat) (S : Nat → Bool) (wr : World) : Prop where
  hm : Ct wr p m g f t S
  hr : Rs wr q f t S (fun i => i = g ∨ i = q)
  pq : p ≠ q
  mq : m ≠ q
  gq : g ≠ q
  newg : w.heap.size ≤ g
  newq : w.heap.size ≤ q
  cc : Grow w wr
section
variable {w wr W W' : World} {p m g q f t : Nat} {S T : Nat → Bool}
theorem Both.grow (h : Both w p m g q f t S wr) (c : Grow wr W) : Both w p m g q f t S W := ⟨h.hm.grow c, h.hr.grow c, h.pq, h.mq, h.gq, h.newg, h.newq, h.cc.trans c⟩
theorem Both.qlt (h : Both w p m g q f t S wr) : q < wr.heap.size := by
  obtain ⟨a, n, c, h'⟩ := h.hr
  exact h'.hd.lt
theorem Both.two (h : Both w p m g q f t S wr) (hm : Ct W p m g f t T) (c : Chg (· = g) wr W) (hr : Rs W' q f t T (fun i => i = g ∨ i = q)) (c' : Chg (· = q) W W') : Both w p m g q f t T W' :=
  ⟨hm.chg c' h.pq h.mq h.gq, hr, h.pq, h.mq, h.gq, h.newg, h.newq, (h.cc.new h.newg c).new h.newq c'⟩
end
end Go.Proofs.YtbigdgabjjpffaaDoor.L7

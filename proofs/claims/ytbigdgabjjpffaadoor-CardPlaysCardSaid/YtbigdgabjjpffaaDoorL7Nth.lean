/- The dirty cards by their order, and sets of addresses that were touched: pure facts, no program. Conditions: none. -/
import Derived.Test.YtbigdgabjjpffaaDoorL7Two
import Derived.Test.YtbigdgabjjpffaaDoorL1Ref01
namespace Go.Proofs.YtbigdgabjjpffaaDoor.L7
open Go.ChangeShapes Go.WideShapes Go.ChangeAt Go.RowKit
open Go.Proofs.YtbigdgabjjpffaaDoor.L3
set_option linter.unusedVariables false

section
variable {S : Nat → Bool} {n f : Nat}
theorem cnt_lt {c d : Nat} (h : c < d) (hs : S c = true) : cnt S c < cnt S d := by
  have h1 := cnt_mono S (show c + 1 ≤ d from h)
  have h2 := cnt_s S c
  rw [hs] at h2
  have : (true : Bool).toNat = 1 := rfl
  omega
theorem cnt_inj {c d : Nat} (hc : S c = true) (hd : S d = true) (h : cnt S c = cnt S d) : c = d := by
  rcases Nat.lt_trichotomy c d with h1 | h1 | h1
  · have := cnt_lt h1 hc; omega
  · exact h1
  · have := cnt_lt h1 hd; omega
/-- Each number below the count is a card's. -/
theorem nth (S : Nat → Bool) : ∀ n j, j < cnt S n → ∃ c, c < n ∧ S c = true ∧ cnt S c = j := by
  intro n
  induction n with
  | zero => intro j h; exact absurd h (Nat.not_lt_zero _)
  | succ n ih =>
    intro j h
    have h2 := cnt_s S n
    by_cases e : j < cnt S n
    · obtain ⟨c, h3, h4, h5⟩ := ih j e
      exact ⟨c, by omega, h4, h5⟩
    · cases hs : S n with
      | true =>
        rw [hs] at h2
        have : (true : Bool).toNat = 1 := rfl
        exact ⟨n, by omega, hs, by omega⟩
      | false =>
        rw [hs] at h2
        have : (false : Bool).toNat = 0 := rfl
        omega
theorem cds_get (n : Nat) {c : Nat} (hc : c < n) (hs : S c = true) : (cds S f n).getD (cnt S c) 0 = ((f + 16 * c : Nat) : Int) := by
  induction n with
  | zero => omega
  | succ n ih =>
    by_cases e : c = n
    · subst e
      rw [cds_snoc (Nat.le_refl c) (fun i a b => by omega) hs, List.getD_eq_getElem?_getD, ← cds_len S f c, List.getElem?_append_right (Nat.le_refl _)]
      simp
    · have hl := cnt_lt (show c < n by omega) hs
      rw [cds, List.getD_eq_getElem?_getD, List.getElem?_append_left (by rw [cds_len]; exact hl), ← List.getD_eq_getElem?_getD]
      exact ih (by omega)

/-- The first j dirty cards; all but these. -/
def pre (S : Nat → Bool) (j : Nat) : Nat → Bool := fun c => S c && decide (cnt S c < j)
def suf (S : Nat → Bool) (j : Nat) : Nat → Bool := fun c => S c && decide (j ≤ cnt S c)
theorem pre_zero (S : Nat → Bool) : pre S 0 = no := by funext c; simp [pre]
theorem suf_zero (S : Nat → Bool) : suf S 0 = S := by funext c; simp [suf]
theorem pre_all (ht : ∀ c, S c = true → c < n) : pre S (cnt S n) = S := by
  funext c
  unfold pre
  cases h : S c with
  | false => rfl
  | true => rw [decide_eq_true (cnt_lt (ht c h) h)]; rfl
theorem pre_step {c j : Nat} (hs : S c = true) (hj : cnt S c = j) : upd (pre S j) c true = pre S (j + 1) := by
  funext i
  unfold upd
  by_cases e : i = c
  · rw [if_pos e, e]
    unfold pre
    rw [hs, hj, decide_eq_true (Nat.lt_succ_self j)]
    rfl
  · rw [if_neg e]
    unfold pre
    cases hi : S i with
    | false => rfl
    | true =>
      have : cnt S i ≠ j := fun h => e (cnt_inj hi hs (by omega))
      rw [show (decide (cnt S i < j)) = decide (cnt S i < j + 1) from decide_eq_decide.2 (by omega)]
theorem pre_at {c j : Nat} (hj : cnt S c = j) : pre S j c = false := by
  unfold pre
  rw [hj, decide_eq_false (Nat.lt_irrefl j), Bool.and_false]
theorem suf_step {c j : Nat} (hs : S c = true) (hj : cnt S c = j) : upd (suf S j) c false = suf S (j + 1) := by
  funext i
  unfold upd
  by_cases e : i = c
  · rw [if_pos e, e]
    unfold suf
    rw [hj, decide_eq_false (Nat.not_succ_le_self j), Bool.and_false]
  · rw [if_neg e]
    unfold suf
    cases hi : S i with
    | false => rfl
    | true =>
      have : cnt S i ≠ j := fun h => e (cnt_inj hi hs (by omega))
      rw [show (decide (j ≤ cnt S i)) = decide (j + 1 ≤ cnt S i) from decide_eq_decide.2 (by omega)]
theorem suf_at {c j : Nat} (hs : S c = true) (hj : cnt S c = j) : suf S j c = true := by
  unfold suf
  rw [hs, hj, decide_eq_true (Nat.le_refl j)]
  rfl
theorem suf_below {c j i : Nat} (hs : S c = true) (hj : cnt S c = j) (hi : i < c) : suf S j i = false := by
  unfold suf
  cases h : S i with
  | false => rfl
  | true => rw [decide_eq_false (by have := cnt_lt hi h; omega)]; rfl
theorem suf_all (ht : ∀ c, S c = true → c < n) : suf S (cnt S n) = no := by
  funext c
  unfold suf
  cases h : S c with
  | false => rfl
  | true => rw [decide_eq_false (by have := cnt_lt (ht c h) h; omega)]; rfl

/-- A dirty card's first address is an address, of that card. -/
theorem inn_first {T c : Nat} (hc : c < nc f T) : inn f T ((f + 16 * c : Nat) : Int) = true ∧ cd f ((f + 16 * c : Nat) : Int) = c := by
  unfold nc at hc
  constructor
  · simp only [inn, decide_eq_true_eq]; omega
  · unfold cd; omega

/-- What is dirty behind the first k addresses of a row. -/
def tos (f T : Nat) (z : Nat → Int) : Nat → Nat → Bool
  | 0 => no
  | k + 1 => tset (tos f T z k) f T (z k)
theorem tos_iff {T : Nat} {z : Nat → Int} {k i : Nat} : tos f T z k i = true ↔ ∃ j, j < k ∧ inn f T (z j) = true ∧ cd f (z j) = i := by
  induction k with
  | zero => simp [tos]
  | succ k ih =>
    show tset (tos f T z k) f T (z k) i = true ↔ _
    unfold tset
    cases hi : inn f T (z k) with
    | false =>
      rw [if_neg (by simp), ih]
      constructor
      · rintro ⟨j, h1, h2, h3⟩; exact ⟨j, by omega, h2, h3⟩
      · rintro ⟨j, h1, h2, h3⟩
        by_cases e : j = k
        · subst e; rw [hi] at h2; cases h2
        · exact ⟨j, by omega, h2, h3⟩
    | true =>
      rw [if_pos rfl]
      unfold upd
      by_cases e : i = cd f (z k)
      · rw [if_pos e]
        exact ⟨fun _ => ⟨k, by omega, hi, e.symm⟩, fun _ => rfl⟩
      · rw [if_neg e, ih]
        constructor
        · rintro ⟨j, h1, h2, h3⟩; exact ⟨j, by omega, h2, h3⟩
        · rintro ⟨j, h1, h2, h3⟩
          by_cases e2 : j = k
          · subst e2; exact absurd h3.symm e
          · exact ⟨j, by omega, h2, h3⟩
theorem tos_back {T : Nat} (z : Nat → Int) (k : Nat) : tos f T (fun j => z (k - 1 - j)) k = tos f T z k := by
  funext i
  rw [Bool.eq_iff_iff, tos_iff, tos_iff]
  constructor
  · rintro ⟨j, h1, h2, h3⟩; exact ⟨k - 1 - j, by omega, h2, h3⟩
  · rintro ⟨j, h1, h2, h3⟩
    have e : k - 1 - (k - 1 - j) = j := by omega
    exact ⟨k - 1 - j, by omega, by rw [e]; exact h2, by rw [e]; exact h3⟩
theorem tos_tail {T : Nat} {z : Nat → Int} {k i : Nat} (h : tos f T z k i = true) : i < nc f T := by
  obtain ⟨j, h1, h2, rfl⟩ := tos_iff.1 h
  exact nc_lt h2
theorem tset_cnt (S : Nat → Bool) (f T : Nat) (x : Int) : cnt (tset S f T x) (nc f T) = cnt S (nc f T) + if isnew S f T x = true then 1 else 0 := by
  rw [← tset_eq, setI_cnt, isnew_eq]
end
theorem own_rd {w : World} {base : Nat} {a : Option Addr} {n c : Nat} {xs : List Int} (h : w.ownsRow base 3 1 (.slice a n c) n (ints xs)) : L1.Rd w a n xs := by
  have hl : xs.length = n := by have := h.1; rw [ints_length] at this; omega
  refine ⟨hl, fun hn => ?_⟩
  obtain ⟨g, cap, e, _, _, _, _, hc⟩ := own_ints h hn
  injection e with e1 e2 e3
  subst e1
  exact ⟨_, rfl, fun i hi => by rw [addr_add, Nat.zero_add]; exact hc i hi⟩
end Go.Proofs.YtbigdgabjjpffaaDoor.L7

/- What Next of package bits answers, of a map whose words are known. Conditions: the numbers given fit their kinds; the table of TrailingZeros64 is as the program's text lays it. -/
import Derived.Test.YtaddomgjjemglaaDoorL3Bits
import Derived.WalkMore
namespace Go.Proofs.YtaddomgjjemglaaDoor.L3
open Go.ChangeShapes Go.WideShapes Go.ChangeAt Go.RowKit
set_option linter.unusedVariables false

/-- The first of f places from i on that is set, or -1. -/
def nxF (S : Nat → Bool) : Nat → Nat → Int
  | 0, _ => -1
  | f + 1, i => if S i then (i : Int) else nxF S f (i + 1)
/-- The answer of Next. -/
def nx (S : Nat → Bool) (n : Nat) (a : Int) : Int := nxF S (n - a.toNat) a.toNat
theorem nxF_some {S : Nat → Bool} (f : Nat) : ∀ i j : Nat, i ≤ j → j < i + f → S j = true → (∀ k, i ≤ k → k < j → S k = false) → nxF S f i = (j : Int) := by
  induction f with
  | zero => intro i j h1 h2; omega
  | succ f ih =>
    intro i j h1 h2 h3 h4
    by_cases e : i = j
    · subst e; simp [nxF, h3]
    · rw [nxF, h4 i (Nat.le_refl _) (by omega)]
      exact ih (i + 1) j (by omega) (by omega) h3 fun k hk hk2 => h4 k (by omega) hk2
theorem nxF_none {S : Nat → Bool} (f : Nat) : ∀ i : Nat, (∀ k, i ≤ k → k < i + f → S k = false) → nxF S f i = -1 := by
  induction f with
  | zero => intro i _; rfl
  | succ f ih =>
    intro i h
    rw [nxF, h i (Nat.le_refl _) (by omega)]
    exact ih (i + 1) fun k hk hk2 => h k (by omega) (by omega)
theorem nx_some {S : Nat → Bool} {n : Nat} {a : Int} (j : Nat) (h1 : a.toNat ≤ j) (h2 : j < n) (h3 : S j = true) (h4 : ∀ k, a.toNat ≤ k → k < j → S k = false) : nx S n a = (j : Int) :=
  nxF_some _ _ j h1 (by omega) h3 h4
theorem nx_none {S : Nat → Bool} {n : Nat} {a : Int} (h : ∀ k, a.toNat ≤ k → k < n → S k = false) : nx S n a = -1 :=
  nxF_none _ _ fun k h1 h2 => h k h1 (by omega)
/-- It is one or the other. -/
theorem nx_cases (S : Nat → Bool) (n : Nat) (a : Int) : (nx S n a = -1 ∧ ∀ k, a.toNat ≤ k → k < n → S k = false) ∨ ∃ j : Nat, nx S n a = (j : Int) ∧ a.toNat ≤ j ∧ j < n ∧ S j = true ∧ ∀ k, a.toNat ≤ k → k < j → S k = false := by
  have key : ∀ f i : Nat, (∀ k, i ≤ k → k < i + f → S k = false) ∨ ∃ j, i ≤ j ∧ j < i + f ∧ S j = true ∧ ∀ k, i ≤ k → k < j → S k = false := by
    intro f
    induction f with
    | zero => intro i; exact .inl fun k h1 h2 => by omega
    | succ f ih =>
      intro i
      cases h : S i with
      | true => exact .inr ⟨i, Nat.le_refl _, by omega, h, fun k h1 h2 => by omega⟩
      | false =>
        rcases ih (i + 1) with h' | ⟨j, h1, h2, h3, h4⟩
        · refine .inl fun k h1 h2 => ?_
          by_cases e : i = k
          · exact e ▸ h
          · exact h' k (by omega) (by omega)
        · refine .inr ⟨j, by omega, by omega, h3, fun k h5 h6 => ?_⟩
          by_cases e : i = k
          · exact e ▸ h
          · exact h4 k (by omega) h6
  rcases key (n - a.toNat) a.toNat with h | ⟨j, h1, h2, h3, h4⟩
  · have h' : ∀ k, a.toNat ≤ k → k < n → S k = false := fun k h1 h2 => h k h1 (by omega)
    exact .inl ⟨nx_none h', h'⟩
  · exact .inr ⟨j, nx_some j h1 (by omega) h3 h4, h1, by omega, h3, h4⟩

section
variable (pv : Value) (A : Option Addr) (n : Nat) (ws : List Nat) (w : World)

theorem max_fact (i : Int) (a : Nat) (h : i.toNat = a) (ts : Array TypeId) (t : TypeId) (W : World) : (Builtin.max_ ts t #[.int .i64 i, .int .i64 0]).run Tryd.prog W = .ok (.int .i64 a) W := by
  rw [run_max_int2]
  congr 2
  split <;> omega

/-- What holds at the label: m is the word's place, x what is left of it. -/
structure At (n : Nat) (ws : List Nat) (a m x : Nat) : Prop where
  inn : m < ws.length
  word : x < 18446744073709551616
  bit : ∀ j, j < 64 → x.testBit j = (hs ws (64 * m + j) && decide (a ≤ 64 * m + j))
  none : ∀ k, a ≤ k → k < 64 * m → hs ws k = false
theorem At.start {n a : Nat} {ws : List Nat} (h : Rep n ws) (ha : a < n) {y : Nat} (hy : y = ws.getD (a / 64) 0 &&& (18446744073709551615 - (2 ^ (a % 64) - 1))) : At n ws a (a / 64) y := by
  have hl := h.len
  refine ⟨by omega, by rw [hy]; exact Nat.lt_of_le_of_lt Nat.and_le_left (h.word _), fun j hj => ?_, fun k h1 h2 => by omega⟩
  have e : 18446744073709551615 - (2 ^ (a % 64) - 1) = 2 ^ 64 - ((2 ^ (a % 64) - 1) + 1) := by have := Nat.two_pow_pos (a % 64); omega
  have hp : 2 ^ (a % 64) - 1 < 2 ^ 64 := by have := pow64 (a % 64) (by omega); omega
  rw [hy, Nat.testBit_and, hs_at ws _ j hj, e, Nat.testBit_two_pow_sub_succ hp, Nat.testBit_two_pow_sub_one]
  congr 1
  simp only [hj, decide_true, Bool.true_and]
  by_cases hc : j < a % 64
  · simp [hc]; omega
  · simp [hc]; omega
theorem At.found {n a m x : Nat} {ws : List Nat} (h : At n ws a m x) (hr : Rep n ws) (hx : x ≠ 0) {i : Int} (hi : i.toNat = a) : nx (hs ws) n i = ((64 * m + Lib.ctz 64 x : Nat) : Int) ∧ Lib.ctz 64 x < 64 := by
  obtain ⟨h1, h2, h3⟩ := ctz_spec x h.word hx
  have hb := h.bit _ h1
  rw [h2] at hb
  have hb' := hb.symm
  rw [Bool.and_eq_true, decide_eq_true_eq] at hb'
  refine ⟨nx_some _ (by omega) (hr.tail _ hb'.1) hb'.1 fun k h4 h5 => ?_, h1⟩
  by_cases hk : k < 64 * m
  · exact h.none k (by omega) hk
  · have := h.bit (k - 64 * m) (by omega)
    rw [h3 _ (by omega), show 64 * m + (k - 64 * m) = k by omega] at this
    have h6 : decide (a ≤ k) = true := by simp; omega
    rw [h6, Bool.and_true] at this
    exact this.symm
theorem At.empty {n a m : Nat} {ws : List Nat} (h : At n ws a m 0) : ∀ k, a ≤ k → k < 64 * (m + 1) → hs ws k = false := by
  intro k h1 h2
  by_cases hk : k < 64 * m
  · exact h.none k h1 hk
  · have := h.bit (k - 64 * m) (by omega)
    rw [Nat.zero_testBit, show 64 * m + (k - 64 * m) = k by omega] at this
    have h6 : decide (a ≤ k) = true := by simp; omega
    rw [h6, Bool.and_true] at this
    exact this.symm
theorem At.step {n a m : Nat} {ws : List Nat} (h : At n ws a m 0) (hr : Rep n ws) (ha : a / 64 ≤ m) (hm : m + 1 < ws.length) : At n ws a (m + 1) (ws.getD (m + 1) 0) :=
  ⟨hm, hr.word _, fun j hj => by rw [hs_at ws _ j hj]; simp; omega, h.empty⟩
theorem At.gone {n a m : Nat} {ws : List Nat} (h : At n ws a m 0) (hr : Rep n ws) (hm : ¬ m + 1 < ws.length) {i : Int} (hi : i.toNat = a) : nx (hs ws) n i = -1 :=
  nx_none fun k h1 h2 => h.empty k (by omega) (by have := hr.len; have := h.inn; omega)
theorem next_out (i : Int) (h : Mv w pv A n ws) (hi : n ≤ i.toNat) : Calls Tryd.prog 37 #[pv, .int .i64 i] w fun e w' => e = .returned (.int .i64 (nx (hs ws) n i)) ∧ Grow w w' := by
  rw [nx_none fun k h1 h2 => by omega]
  obtain ⟨a, ha⟩ : ∃ a, i.toNat = a := ⟨_, rfl⟩
  have hmx := max_fact i a ha
  have hx : exB n (a : Int) = false := by simp [exB]; omega
  have H := hide (exists_any pv A n ws w a h)
  rw [hx] at H
  clear h hi ha hx
  go_enter Tryd.func37, Tryd.ntmps37
  go_wp2_with fail
  go_step3
  go_wp2_with fail
  refine H.out.mono ?_
  rintro e w' ⟨rfl, rfl⟩
  go_wp2
  try rw [Exit.noGoto_ret]
  go_ret
  exact ⟨rfl, Chg.refl _ _⟩


set_option maxHeartbeats 1000000 in
theorem next_in (i : Int) (a : Nat) (ha : i.toNat = a) (h : Mv w pv A n ws) (hi : a < n) (ht : Tab w) : Calls Tryd.prog 37 #[pv, .int .i64 i] w fun e w' => e = .returned (.int .i64 (nx (hs ws) n i)) ∧ Grow w w' := by
  obtain ⟨q, hq, hql, hqw, hq0, hq1⟩ := word_of h.rep hi
  have hm := h.rep.most
  obtain ⟨g, rfl, hc⟩ := h.cell q hql
  have hmx := max_fact i a ha
  have hx : exB n (a : Int) = true := by simp [exB]; omega
  have H1 := hide (exists_any pv _ n ws w a h)
  rw [hx] at H1
  have H := hide h
  have HT := hide ht
  have hl64 := h.lenle
  clear hx h ht
  have hat : ∀ y, y = ws.getD q 0 &&& (18446744073709551615 - (2 ^ (a % 64) - 1)) → At n ws a q y := fun y hy => by subst hq; exact At.start H.out.rep hi hy
  have HAT := hide hat
  clear hat
  obtain ⟨b, hb⟩ : ∃ b, b = a % 64 := ⟨_, rfl⟩
  have hp := pow64 b (by omega)
  have hp1 : 0 < 2 ^ b := Nat.two_pow_pos b
  have hbw : IntKind.u64.wrap (((2 ^ b : Nat) : Int) - 1) = ((2 ^ b - 1 : Nat) : Int) := by rw [wrap_u64_id _ (by omega) (by omega)]; omega
  have hbit := bit_any a (by omega)
  rw [← hb] at hbit HAT
  have HB := hide hbit
  have hx := H.out.rep.word q
  obtain ⟨y, hy, hat⟩ : ∃ y : Nat, bits .andNot .u64 ((ws.getD q 0 : Nat) : Int) ((2 ^ b - 1 : Nat) : Int) = y ∧ At n ws a q y := ⟨_, u64_andNot_nat _ _ hx (by omega), HAT.out _ rfl⟩
  have HAT2 := hide hat
  generalize ws.getD q 0 = x at *
  clear HAT hat
  generalize 2 ^ b - 1 = b1 at *
  generalize 2 ^ b = bb at *
  have HQ := hide hq
  have HAA := hide ha
  clear hbit hp hp1 hq ha hb hx
  go_enter Tryd.func37, Tryd.ntmps37
  go_wp2_with fail
  refine wp_scope_jumps 0 (fun a' w' => Grow w w' ∧ ∃ (m x : Nat), At n ws a m x ∧ q ≤ m ∧ ∃ u8 u9 u10 u11 u12 u13 u14 u15 u16 u17 u18 u19 u20 u21 u22 u23 u24 u25 u26 u27 u28 u29 u30 u31 u32 u33 u34 u35 u36 u37 u38 u39 u40 u41 u42 : Value, a' = { tmps := #[pv, .int .i64 a, undef, undef, .int .i64 0, .slice (some ⟨g, 0, none⟩) ws.length ws.length, .int .i64 m, .int .u64 x, u8, u9, u10, u11, u12, u13, u14, u15, u16, u17, u18, u19, u20, u21, u22, u23, u24, u25, u26, u27, u28, u29, u30, u31, u32, u33, u34, u35, u36, u37, u38, u39, u40, u41, u42], defers := [] }) (fun a' _ => ws.length - (intOf (a'.tmps.getD 6 undef)).toNat) rfl ?_ ?_
  · go_wp2_with fail
    refine H1.out.mono ?_
    rintro e w' ⟨rfl, rfl⟩
    go_wp2_with fail
    refine (all_any _ _ n ws _ H.out).mono ?_
    rintro e w' ⟨rfl, rfl⟩
    go_wp2_with fail
    refine wp_region_grow (by kernel_rfl) (by kernel_rfl) ?_
    repeat (
      with_reducible refine wpQuiet_step ?_
      intro K hK
      first
        | ((with_reducible refine quiet_offT rfl ?_ (hK _ ?_)); focus (refine ⟨_, rfl, ?_⟩; with_reducible rfl))
        | ((with_reducible refine quiet_offF rfl ?_ (hK _ ?_)); focus (refine ⟨_, rfl, ?_⟩; with_reducible rfl))
        | ((with_reducible refine quiet_offN rfl ?_ (hK _ ?_)); focus (exact rfl))
        | ((first | with_reducible refine quiet_free rfl ?_ | ((with_reducible refine quiet_on rfl ?_ ?_); focus (refine ⟨_, rfl, ?_⟩; with_reducible rfl)))
           apply Exists.intro
           refine ⟨fun Wq hW => ?_, hK _ ?_⟩
           focus (have q0 := Grow.cell hW hc; go_simp; first | done | with_reducible rfl | (go_at_call 34; (first | with_reducible exact grown_call hW (HB.out _) | with_reducible exact grown_same hW (HB.out _)))))
      clear hK K
      simp only [Act.put, List.setIfInBounds_toArray, List.set_cons_zero, List.set_cons_succ])
    with_reducible refine wpQuiet_nil ?_
    intro W cr
    go_wp2_with fail
    go_step3
    have hat := HAT2.out
    have hqm : q ≤ q := Nat.le_refl _
    clear HAT2 HB H1 hbw hy hc
    clear hqw hq0 hq1 hql
    have hml := hat.inn
    by_cases hx0 : y = 0
    · have hxn : ((y : Int) != 0) = false := by simp; omega
      have hat0 : At n ws a q 0 := hx0 ▸ hat
      have HAT0 := hide hat0
      clear hat hat0 hx0
      obtain ⟨m1, hm1⟩ : ∃ m1, q + 1 = m1 := ⟨_, rfl⟩
      have hw1 : IntKind.i64.wrap ((q : Int) + 1) = (m1 : Int) := by rw [wrap_i64_id _ (by omega)]; omega
      have hw2 : wrap64 ((q : Int) + 1) = (m1 : Int) := by rw [wrap64_id _ (by omega)]; omega
      by_cases hlt : m1 < ws.length
      · obtain ⟨g', e', hc1⟩ := H.out.cell m1 hlt
        cases e'
        replace hc1 := cr.cell hc1
        have hlt1 : (m1 : Int) < (ws.length : Int) := by omega
        have hlt2 : (0 : Int) ≤ (m1 : Int) := by omega
        have HAT1 := hide (show At n ws a m1 (ws.getD m1 0) from hm1 ▸ HAT0.out.step H.out.rep (by rw [HQ.out]; omega) (by omega))
        have HM := hide hm1
        clear hm1 hml
        generalize ws.getD m1 0 = x1 at *
        go_wp2
        go_step3
        (exact ⟨rfl, cr, m1, _, HAT1.out, by have := HM.out; omega, _, _, _, _, _, _, _, _, _, _, _, _, _, _, _, _, _, _, _, _, _, _, _, _, _, _, _, _, _, _, _, _, _, _, _, rfl⟩)
      · have hlt1 : decide ((m1 : Int) < (ws.length : Int)) = false := by simp; omega
        have HN := hide (HAT0.out.gone H.out.rep (by omega) HAA.out)
        clear hm1 hml
        go_wp2
        simp only [Exit.jump]
        go_ret
        exact ⟨ret_int HN.out.symm, cr⟩
    · have hxn : ((y : Int) != 0) = true := by simp; omega
      have hxw := hat.word
      obtain ⟨hn, hz⟩ := hat.found H.out.rep hx0 HAA.out
      have htz := hide (tz_any y hat.word hx0 W (HT.out.chg cr id))
      generalize Lib.ctz 64 y = z at *
      have hw1 : IntKind.i64.wrap ((q : Int) * 64) = (q : Int) * 64 := wrap_i64_id _ (by omega)
      have hw2 : IntKind.i64.wrap ((q : Int) * 64 + (z : Int)) = (q : Int) * 64 + (z : Int) := wrap_i64_id _ (by omega)
      have HN := hide hn
      clear hn hat hx0
      go_wp2_with fail
      refine htz.out.mono ?_
      rintro e w' ⟨rfl, rfl⟩
      go_wp2
      simp only [Exit.jump]
      go_ret
      exact ⟨ret_int (by rw [HN.out]; omega), cr⟩
  · rintro a' W ⟨cr, m, x, hat, hqm, u8, u9, u10, u11, u12, u13, u14, u15, u16, u17, u18, u19, u20, u21, u22, u23, u24, u25, u26, u27, u28, u29, u30, u31, u32, u33, u34, u35, u36, u37, u38, u39, u40, u41, u42, rfl⟩
    clear HAT2 HB H1 hbw hy hc hqw hq0 hq1 hql
    have hml := hat.inn
    by_cases hx0 : x = 0
    · have hxn : ((x : Int) != 0) = false := by simp; omega
      have hat0 : At n ws a m 0 := hx0 ▸ hat
      have HAT0 := hide hat0
      clear hat hat0 hx0
      obtain ⟨m1, hm1⟩ : ∃ m1, m + 1 = m1 := ⟨_, rfl⟩
      have hw1 : IntKind.i64.wrap ((m : Int) + 1) = (m1 : Int) := by rw [wrap_i64_id _ (by omega)]; omega
      have hw2 : wrap64 ((m : Int) + 1) = (m1 : Int) := by rw [wrap64_id _ (by omega)]; omega
      by_cases hlt : m1 < ws.length
      · obtain ⟨g', e', hc1⟩ := H.out.cell m1 hlt
        cases e'
        replace hc1 := cr.cell hc1
        have hlt1 : (m1 : Int) < (ws.length : Int) := by omega
        have hlt2 : (0 : Int) ≤ (m1 : Int) := by omega
        have HAT1 := hide (show At n ws a m1 (ws.getD m1 0) from hm1 ▸ HAT0.out.step H.out.rep (by rw [HQ.out]; omega) (by omega))
        have HM := hide hm1
        clear hm1 hml
        generalize ws.getD m1 0 = x1 at *
        go_wp2
        go_step3
        (exact ⟨rfl, ⟨cr, m1, _, HAT1.out, by have := HM.out; omega, _, _, _, _, _, _, _, _, _, _, _, _, _, _, _, _, _, _, _, _, _, _, _, _, _, _, _, _, _, _, _, _, _, _, _, rfl⟩, by have := HM.out; simp [intOf]; omega⟩)
      · have hlt1 : decide ((m1 : Int) < (ws.length : Int)) = false := by simp; omega
        have HN := hide (HAT0.out.gone H.out.rep (by omega) HAA.out)
        clear hm1 hml
        go_wp2
        simp only [Exit.jump]
        go_ret
        exact ⟨ret_int HN.out.symm, cr⟩
    · have hxn : ((x : Int) != 0) = true := by simp; omega
      have hxw := hat.word
      obtain ⟨hn, hz⟩ := hat.found H.out.rep hx0 HAA.out
      have htz := hide (tz_any x hat.word hx0 W (HT.out.chg cr id))
      generalize Lib.ctz 64 x = z at *
      have hw1 : IntKind.i64.wrap ((m : Int) * 64) = (m : Int) * 64 := wrap_i64_id _ (by omega)
      have hw2 : IntKind.i64.wrap ((m : Int) * 64 + (z : Int)) = (m : Int) * 64 + (z : Int) := wrap_i64_id _ (by omega)
      have HN := hide hn
      clear hn hat hx0
      go_wp2_with fail
      refine htz.out.mono ?_
      rintro e w' ⟨rfl, rfl⟩
      go_wp2
      simp only [Exit.jump]
      go_ret
      exact ⟨ret_int (by rw [HN.out]; omega), cr⟩

theorem next_any (i : Int) (h : Mv w pv A n ws) (ht : Tab w) : Calls Tryd.prog 37 #[pv, .int .i64 i] w fun e w' => e = .returned (.int .i64 (nx (hs ws) n i)) ∧ Grow w w' := by
  by_cases hi : n ≤ i.toNat
  · exact next_out pv A n ws w i h hi
  · exact next_in pv A n ws w i _ rfl h (by omega) ht
end
end Go.Proofs.YtaddomgjjemglaaDoor.L3

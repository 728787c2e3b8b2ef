/- For all numbers CardWhole answers true: each address has one card, that begins CardWords behind the one ahead; there are as many cards as it takes. Conditions: the table of math/bits.TrailingZeros64 is as the program's text lays it, which the card ties. -/
import Derived.Test.YtbigdgabjjpffaaDoorL7Two
import Derived.Test.YtbigdgabjjpffaaDoorCards
import Derived.Test.YtbigdgabjjpffaaDoorTie
import Derived.SevenTiedAt
import Derived.Stop.Joined
import Derived.ShutString
namespace Go.Proofs.YtbigdgabjjpffaaDoor.cardWhole
open Go.ChangeShapes Go.WideShapes Go.ChangeAt Go.RowKit Go.Proofs.YtbigdgabjjpffaaDoor.L3 Go.Proofs.YtbigdgabjjpffaaDoor.L7
set_option linter.unusedVariables false

/-- The first so many cards. -/
def up (k : Nat) : Nat → Bool := fun i => decide (i < k)
theorem up_next {a n k : Nat} (h : k < n) : tset (up ((k + 15) / 16)) a (a + n) ((a + k : Nat) : Int) = up ((k + 1 + 15) / 16) := by
  have hi : inn a (a + n) ((a + k : Nat) : Int) = true := by simp only [inn, decide_eq_true_eq]; omega
  have hc : cd a ((a + k : Nat) : Int) = k / 16 := by unfold cd; omega
  rw [tset_on hi, hc]
  funext i
  unfold upd up
  by_cases e : i = k / 16
  · rw [if_pos e]; symm; rw [decide_eq_true_eq]; omega
  · rw [if_neg e]; exact decide_eq_decide.2 (by omega)
theorem up_zero : up ((0 + 15) / 16) = no := by funext i; unfold up; simp
/-- The cards' first addresses. -/
theorem cds_up (f n : Nat) : ∀ k, k ≤ n → (cds (up n) f k).length = k ∧ ∀ i, i < k → (cds (up n) f k).getD i 0 = ((f + 16 * i : Nat) : Int) := by
  intro k
  induction k with
  | zero => exact fun _ => ⟨rfl, fun i hi => absurd hi (by omega)⟩
  | succ k ih =>
    intro h
    obtain ⟨h1, h2⟩ := ih (by omega)
    have hs : cds (up n) f (k + 1) = cds (up n) f k ++ [((f + 16 * k : Nat) : Int)] := cds_snoc (Nat.le_refl k) (fun i a b => by omega) (by unfold up; simp; omega)
    rw [hs]
    refine ⟨by rw [List.length_append, h1, List.length_singleton], fun i hi => ?_⟩
    by_cases e : i = k
    · subst e
      rw [List.getD_eq_getElem?_getD, List.getElem?_append_right (by omega), h1]
      simp
    · rw [List.getD_eq_getElem?_getD, List.getElem?_append_left (by omega), ← List.getD_eq_getElem?_getD]
      exact h2 i (by omega)

set_option maxHeartbeats 4000000 in
set_option maxRecDepth 100000 in
theorem walk_nat (a n : Nat) (w : World) (ht : Tab w) (ha : a < 256) (hn : n < 256) :
    Calls Tryd.prog 8 #[.int .u8 a, .int .u8 n] w fun e w' => e = .returned (.bool true) ∧ Below w.heap.size w w' := by
  have HT := hide ht
  have HA := hide ha
  have HN := hide hn
  have v0 : IntKind.i64.wrap (a : Int) = (a : Int) := wrap_i64_id _ (by omega)
  have v1 : IntKind.i64.wrap (n : Int) = (n : Int) := wrap_i64_id _ (by omega)
  obtain ⟨t, hta⟩ : ∃ t, t = a + n := ⟨_, rfl⟩
  have v2 : IntKind.i64.wrap ((a : Int) + (n : Int)) = (t : Int) := by rw [wrap_i64_id _ (by omega)]; omega
  have hF : clamp (a : Int) = a := by unfold clamp; omega
  have hT : tob (a : Int) (t : Int) = t := by unfold tob; rw [hF]; unfold clamp; omega
  have HTA := hide hta
  clear ht ha hta
  go_enter Tryd.func8, Tryd.ntmps8
  go_wp2_with fail
  refine (awake_any _ HT.out).mono ?_
  rintro e wa ⟨rfl, ca⟩
  go_wp2_with fail
  refine (tb_new _ _ _ hF hT).mono ?_
  rintro e w1 ⟨p, m, g, rfl, hm, hp, hmm, hg, c1⟩
  have HG := hide (Nat.le_trans ca.size hg)
  replace ca := ca.trans c1
  replace hm := hm.at_ up_zero
  clear c1 hp hmm hg hF hT
  go_wp2
  go_loopw [23] (fun i wr => ∃ k : Nat, k ≤ n ∧ i = .int .i64 k ∧ Ct wr p m g a t (up ((k + 15) / 16)) ∧ Grow w wr) (fun i _ => n - (intOf i).toNat)
  case atStart => exact ⟨0, Nat.zero_le _, rfl, hm, ca⟩
  case round =>
    clear hm ca
    obtain ⟨k, hk, rfl, hm, cc⟩ := hrel
    by_cases hlt : k < n
    · have hlt' : (k : Int) < (n : Int) := by omega
      have HU := hide (up_next (a := a) hlt)
      obtain ⟨x, hx⟩ : ∃ x, x = a + k := ⟨_, rfl⟩
      rw [← hx, ← HTA.out] at HU
      have v3 : IntKind.i64.wrap ((a : Int) + (k : Int)) = (x : Int) := by have := HA.out; have := HN.out; rw [wrap_i64_id _ (by omega)]; omega
      clear hx
      generalize up ((k + 15) / 16) = S at *
      obtain ⟨S', hS'⟩ : ∃ S', up ((k + 1 + 15) / 16) = S' := ⟨_, rfl⟩
      rw [hS'] at HU
      have HS' := hide hS'
      clear hS'
      go_wp2_with fail
      refine (tb_touch hm x rfl HU.out).mono ?_
      rintro e w2 ⟨rfl, h2, c2⟩
      replace hm := h2
      replace cc := cc.new HG.out c2
      clear h2 c2 v3 HU
      go_wp2
      go_roundw
      case rel => exact ⟨k + 1, by omega, by go_num, hm.at_ HS'.out, cc⟩
      case measure => simp [intOf]; omega
    · obtain rfl : n = k := by omega
      have hlt' : ¬ (n : Int) < (n : Int) := by omega
      have hnc : nc a t = (n + 15) / 16 := by unfold nc; rw [HTA.out]; omega
      obtain ⟨q, hq⟩ : ∃ q, q = (n + 15) / 16 := ⟨_, rfl⟩
      rw [← hq] at hm hnc
      have HQ := hide hq
      have HC := hide (cds_up a q q (Nat.le_refl _))
      have HL := hide (show cds (up q) a (nc a t) = cds (up q) a q by rw [hnc])
      obtain ⟨l, hl⟩ : ∃ l, l = cds (up q) a q := ⟨_, rfl⟩
      rw [← hl] at HC HL
      clear hq hnc hl hk hlt hlt'
      go_wp2_with fail
      refine (tb_all hm (HT.out.chg cc id) HL.out).mono ?_
      rintro e w3 ⟨v, rfl, hown, c3⟩
      replace hm := hm.grow c3
      replace cc := cc.trans c3
      have HLEN := hide HC.out.1
      rw [HLEN.out] at hown
      obtain ⟨oa, ocap, rfl⟩ := own_len hown
      have HO := hide hown
      clear c3 hown
      go_wp2
      go_loopw [36] (fun i wq => ∃ k : Nat, k ≤ q ∧ i = .int .i64 k ∧ w3 = wq) (fun i _ => q - (intOf i).toNat)
      case atStart => exact ⟨0, Nat.zero_le _, rfl, rfl⟩
      case round =>
        obtain ⟨k, hk, rfl, rfl⟩ := hrel
        by_cases hlt : k < q
        · obtain ⟨og, ocap', e', _, _, hncap, _, hcg⟩ := own_ints HO.out (by omega)
          injection e' with e1 e2 e3
          subst e1 e3
          have hc := hcg k hlt
          rw [HC.out.2 k hlt] at hc
          obtain ⟨x, hx⟩ : ∃ x, x = a + 16 * k := ⟨_, rfl⟩
          rw [← hx] at hc
          have hq16 : q ≤ 16 := by have := HQ.out; have := HN.out; omega
          have hk16 : k < 16 := by omega
          have v4 : IntKind.i64.wrap ((k : Int) * 16) = ((16 * k : Nat) : Int) := by rw [wrap_i64_id _ (by omega)]; omega
          have v5 : IntKind.i64.wrap ((a : Int) + ((16 * k : Nat) : Int)) = (x : Int) := by have := HA.out; rw [wrap_i64_id _ (by omega)]; omega
          have v6 : ((x : Int) != (x : Int)) = false := by simp
          have hlt' : (k : Int) < (q : Int) := by omega
          clear hx hcg hncap
          generalize 16 * k = k16 at *
          go_wp2
          go_roundw
          case rel => exact ⟨k + 1, by omega, by go_num, by first | rfl | trivial⟩
          case measure => simp [intOf]; omega
        · obtain rfl : q = k := by omega
          have v4 : IntKind.i64.wrap ((n : Int) + 16) = (n : Int) + 16 := by have := HN.out; exact wrap_i64_id _ (by omega)
          obtain ⟨n15, hn15⟩ : ∃ n15, n15 = n + 15 := ⟨_, rfl⟩
          have v5 : IntKind.i64.wrap ((n : Int) + 16 - 1) = (n15 : Int) := by have := HN.out; rw [wrap_i64_id _ (by omega)]; omega
          have v6 : IntKind.i64.wrap ((n15 : Int) / 16) = (q : Int) := by have := HN.out; have := HQ.out; rw [wrap_i64_id _ (by omega)]; omega
          have v7 : IntKind.i64.wrap ((a : Int) - 1) = (a : Int) - 1 := by have := HA.out; exact wrap_i64_id _ (by omega)
          have v8 : ((q : Int) == (q : Int)) = true := by simp
          have i1 : inn a t (t : Int) = false := by simp only [inn, decide_eq_false_iff_not]; omega
          have i2 : inn a t ((a : Int) - 1) = false := by simp only [inn, decide_eq_false_iff_not]; omega
          clear hk hlt hn15
          go_wp2_with fail
          refine (tb_dirty hm t (isd_off i1)).mono ?_
          rintro e w4 ⟨rfl, c4⟩
          replace hm := hm.grow c4
          replace cc := cc.trans c4
          clear c4
          go_wp2_with fail
          refine (tb_dirty hm _ (isd_off i2)).mono ?_
          rintro e w5 ⟨rfl, c5⟩
          replace cc := cc.trans c5
          clear c5 hm
          go_wp2
          go_ret
          exact ⟨rfl, cc.below (fun _ _ h => h) (Nat.le_refl _)⟩

theorem walk (a n : Int) (w : World) (ht : Tab w) (w0 : (Lit.int .u8 a).wf = true) (w1 : (Lit.int .u8 n).wf = true) :
    Calls Tryd.prog 8 #[.int .u8 a, .int .u8 n] w fun e w' => e = .returned (.bool true) ∧ Below w.heap.size w w' := by
  have b0 := bounds_u8 w0
  have b1 := bounds_u8 w1
  obtain ⟨a, rfl⟩ := Int.eq_ofNat_of_zero_le b0.1
  obtain ⟨n, rfl⟩ := Int.eq_ofNat_of_zero_le b1.1
  exact walk_nat a n w ht (by omega) (by omega)


theorem own : ownKnob Tryd.prog.godebug = none := by kernel_rfl
theorem laidOut : laidOutB Tryd.prog = true := by kernel_rfl
theorem door_met (os : Os) (args : Array Value) : laidMetH Tryd.prog Rows.cardWholeRow.laid ((World.doorLaid Tryd.prog 400 os).forCall (fun _ _ => 0) ⟨#[], args, []⟩).memory :=
  laidMetH_of_parts3 (fuel := 8) (laidMet_of_run' 8 (by kernel_rfl) (by kernel_rfl)) (by kernel_rfl) (by kernel_rfl)

set_option maxRecDepth 100000 in
theorem lifted (os : Os) (started : os.Started) (H : Type) (enc : TypeId × Value → H) :
    ReturnsInHanded {} Tryd.checked os 8 .any (fun w args => (Rows.cardWholeSpec.pre enc Tryd.prog Tryd.f8 [] false w args ∧ laidMetH Tryd.prog Rows.cardWholeRow.laid w) ∧ sizedMet enc Tryd.prog Tryd.f8 (OpenSpec.ofChange Rows.cardWholeSpec) false w args) (Rows.cardWholeSpec.post enc Tryd.prog Tryd.f8 false true false false) := by
  refine returnsInHanded_of_change_and (C := Tryd.checked) (X := fun w _ => laidMetH Tryd.prog Rows.cardWholeRow.laid w) (fun _ _ _ hh h => h.of_heap hh) own started (by kernel_rfl) Tryd.func8
    (ChangeSpec.witness_shaped (enc := enc) (C := Tryd.checked) (os := os) (X := fun w _ => laidMetH Tryd.prog Rows.cardWholeRow.laid w) false (World.doorLaid Tryd.prog 400 os) #[.int .u8 0, .int .u8 0] 8 rfl (World.shaped_of_RefB (by kernel_rfl) (by kernel_rfl)) (by kernel_rfl) (by kernel_rfl) (by kernel_rfl) (door_met os _)) ?_
  intro W base args ds gs before hval0 hW _ _ hL _
  have hval : ∀ (j : Nat) t v, Tryd.f8.params[j]? = some t → args[j]? = some v → Value.okWide Tryd.prog W .any base t v := hval0
  have hW' := hW
  obtain ⟨p, q, hA0, hV, rfl, hfz, hnd⟩ := hW
  have hA : DataW.TrodAll enc Tryd.prog W 0 (fun _ => true) true Tryd.f8.params.toList args.toList ds p := hA0
  rw [Tryd.params8] at hA hval
  obtain ⟨v0, vs0, d0, ds0, p0, q0, hargs, rfl, rfl, h0, r0⟩ := trodAll_cons hA
  obtain ⟨v1, vs1, d1, ds1, p1, q1, rfl, rfl, rfl, h1, r1⟩ := trodAll_cons r0
  obtain ⟨rfl, rfl, rfl⟩ := trodAll_nil r1
  obtain rfl : args = #[v0, v1] := by cases args; simp_all
  obtain ⟨rfl, rfl⟩ := trodVars_none hV
  obtain ⟨a0, rfl, rfl, rfl, w0⟩ := open_int Tryd.underlying5 (hval 0 5 v0 rfl rfl) h0
  obtain ⟨a1, rfl, rfl, rfl, w1⟩ := open_int Tryd.underlying5 (hval 1 5 v1 rfl rfl) h1
  clear hA0 hval0
  refine (walk a0 a1 W (tab_of_laid hL) w0 w1).mono fun e W' ⟨he, bel⟩ => ?_
  subst he
  exact ⟨_, rfl, _, _, _, [], _, [], hW', trodAll_mk1 (shut_bool Tryd.underlying4 _), (trodAll_cons_mk (shut_int Tryd.underlying5 w0) (trodAll_cons_mk (shut_int Tryd.underlying5 w1) trodAll_mk0)), rfl, bel.frame _, fun h => by cases h⟩

theorem over : Rows.cardWholeRow.holds Tryd.pinned (OpenSpec.ofChange Rows.cardWholeSpec) :=
  OpenClaim.holds_of_wide 8 Tryd.f8 rfl rfl rfl rfl rfl rfl rfl ⟨rfl, rfl, rfl, rfl, rfl⟩ rfl rfl rfl rfl rfl (by kernel_rfl) Tryd.func8 (by kernel_rfl)
    (of_decide_eq_true (by kernel_rfl)) (by unfold Func.isWrapper; first | (rw [if_pos (by decide +kernel)]; kernel_rfl) | (rw [if_neg (by decide +kernel)]; exact ⟨rfl, rfl⟩))
    (fun os started H enc _ => lifted os started H enc)

/-- The statement. -/
theorem proved : Rows.CardWholeCardSaid :=
  Claim7.holds_tied_plain_at .later [] [.data] true Rows.cardWholeCard.stood.harness false
    over (fun _ h => by cases h) (by kernel_rfl) (fun _ h => by cases h) cardWhole_row_tie rfl ⟨rfl, rfl⟩ (by kernel_rfl) rfl
    (fun f fn hf hfn => by
      obtain rfl : f = 8 := Option.some.inj ((show Tryd.prog.funcNamed "gleaning/gleaninglaw07.CardWhole" = some 8 by kernel_rfl).symm.trans hf) |>.symm
      obtain rfl : fn = Tryd.f8 := (Option.some.inj (Tryd.func8.symm.trans hfn)).symm
      exact ⟨by kernel_rfl, fun j t ht => by
        rw [Tryd.params8] at ht
        have hm : t ∈ [5, 5] := by simpa using Array.mem_of_getElem? ht
        have hall : ([5, 5].all fun u => !Tryd.prog.wantsStandIn u) = true := by kernel_rfl
        exact (show Tryd.prog.wantsStandIn t = false by simpa using List.all_eq_true.1 hall t hm)⟩)
    (by kernel_rfl)
#print axioms proved
end Go.Proofs.YtbigdgabjjpffaaDoor.cardWhole


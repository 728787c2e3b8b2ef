/- For every size and every number BitsEdges answers true: places that are not there are never set, and change nothing; the last one that is there is. Conditions: the table of math/bits.TrailingZeros64 is as the program's text lays it, which the card ties. -/
import Derived.Test.YtobecefikkgelaaDoorIs
import Derived.Test.YtobecefikkgelaaDoorCards
import Derived.Test.YtobecefikkgelaaDoorTie
import Derived.SevenTiedAt
import Derived.Stop.Joined
import Derived.ShutString
namespace Go.Proofs.YtobecefikkgelaaDoor.bitsEdges
open Go.ChangeShapes Go.WideShapes Go.ChangeAt Go.RowKit
set_option linter.unusedVariables false

set_option maxHeartbeats 1000000 in
set_option maxRecDepth 100000 in
theorem walk_zero (b : Int) (w : World) (ht : Tab w) :
    Calls Tryd.prog 8 #[.int .u16 0, .int .i64 b] w fun e w' => e = .returned (.bool true) ∧ Below w.heap.size w w' := by
  have HT := hide ht
  clear ht
  go_enter Tryd.func8, Tryd.ntmps8
  go_wp2_with fail
  refine (awake_any _ HT.out).mono ?_
  rintro e wa ⟨rfl, ca⟩
  go_wp2_with fail
  refine (awake_any _ (HT.out.chg ca id)).mono ?_
  rintro e wb ⟨rfl, cb⟩
  go_wp2
  go_ret
  exact ⟨rfl, (ca.trans cb).under⟩

theorem one_next {k n : Nat} (hk : n = k + 1) : nx (upd no k true) n 0 = (k : Int) := nx_some k (by omega) (by omega) (upd_at _ _ _) fun j h1 h2 => by rw [upd_ne (by omega)]
theorem one_none {k n : Nat} (hk : n = k + 1) : nx (upd no k true) n (n : Int) = -1 := nx_none fun j h1 h2 => by omega
theorem one_cnt {k n : Nat} (hk : n = k + 1) : (cnt (upd no k true) n : Int) = 1 := by
  rw [cnt_on (S := no) (i := k) (by omega) rfl (upd_at _ _ _) fun j h => upd_ne h, cnt_no]; rfl
theorem back {k : Nat} : upd (upd no k true) k false = no := by rw [upd_upd]; exact upd_same rfl


set_option maxHeartbeats 4000000 in
set_option maxRecDepth 100000 in
theorem walk_some (P : Nat) (b : Int) (w : World) (ht : Tab w) (h0 : 0 < P) (h1 : P ≤ 65535) (b1 : -9223372036854775808 ≤ b) (b2 : b ≤ 9223372036854775807) :
    Calls Tryd.prog 8 #[.int .u16 P, .int .i64 b] w fun e w' => e = .returned (.bool true) ∧ Below w.heap.size w w' := by
  have HT := hide ht
  obtain ⟨n, hn⟩ : ∃ n, clamp P = n := ⟨_, rfl⟩
  have hn' : n = min P 4096 := by rw [← hn]; unfold clamp; omega
  obtain ⟨k, hk⟩ : ∃ k, n = k + 1 := ⟨n - 1, by omega⟩
  have hmn : ∀ ts t W, (Builtin.min_ ts t #[.int .i64 P, .int .i64 4096]).run Tryd.prog W = .ok (.int .i64 n) W := fun ts t W => by
    rw [run_min_int2]; congr 2; split <;> omega
  have hw1 : IntKind.i64.wrap ((n : Int) - 1) = (k : Int) := by rw [wrap_i64_id _ (by omega)]; omega
  have hp0 : ((P : Int) == 0) = false := by simp; omega
  have HN := hide hn
  have HK := hide hk
  have HK2 := hide (show k < n by omega)
  have hnle : n ≤ 4096 := by omega
  by_cases hb0 : 0 ≤ b
  · by_cases hb1 : b < n
    · have hw2 : IntKind.i64.wrap ((n : Int) + b) = (n : Int) + b := wrap_i64_id _ (by omega)
      have HX := hide (exB_out (n := n) (i := (n : Int) + b) (.inr (by omega)))
      clear ht hn hn' hk
      go_enter Tryd.func8, Tryd.ntmps8
      go_wp2_with fail
      refine (awake_any _ HT.out).mono ?_
      rintro e wa ⟨rfl, ca⟩
      go_wp2_with fail
      refine (ms_new P _).mono ?_
      rintro e w1 ⟨rfl, hm, c1⟩
      rw [HN.out] at hm
      have cc := ca.trans c1
      have HG := hide ca.size
      generalize wa.heap.size + 1 = p at *
      generalize wa.heap.size = g at *
      clear ca c1
      go_wp2_with fail
      refine (ms_len hm).mono ?_
      rintro e w' ⟨rfl, rfl⟩
      go_wp2_with fail
      refine (set_is hm (c := false) (T := no) (by rw [HX.out]; rfl) (setI_out HX.out)).mono ?_
      rintro e w' ⟨rfl, hm', c'⟩
      clear hm
      have hm := hm'
      replace cc := cc.new HG.out c'
      clear hm' c'
      go_wp2_with fail
      refine (has_is hm (c := false) (by unfold hasI; rw [HX.out]; rfl)).mono ?_
      rintro e w' ⟨rfl, c'⟩
      replace hm := hm.grow c'
      replace cc := cc.trans c'
      clear c'
      go_wp2_with fail
      refine (clear_is hm (c := false) (T := no) (by unfold hasI; rw [HX.out]; rfl) (setI_out HX.out)).mono ?_
      rintro e w' ⟨rfl, hm', c'⟩
      clear hm
      have hm := hm'
      replace cc := cc.new HG.out c'
      clear hm' c'
      go_wp2_with fail
      refine (count_is hm (v := 0) (by rw [cnt_no]; rfl)).mono ?_
      rintro e w' ⟨rfl, c'⟩
      replace hm := hm.grow c'
      replace cc := cc.trans c'
      clear c'
      go_wp2_with fail
      refine (set_is hm (c := true) (T := upd no k true) (by rw [exB_in HK2.out]; rfl) (setI_in HK2.out)).mono ?_
      rintro e w' ⟨rfl, hm', c'⟩
      clear hm
      have hm := hm'
      replace cc := cc.new HG.out c'
      clear hm' c'
      go_wp2_with fail
      refine (has_is hm (c := true) (by unfold hasI; rw [exB_in HK2.out]; exact upd_at _ _ _)).mono ?_
      rintro e w' ⟨rfl, c'⟩
      replace hm := hm.grow c'
      replace cc := cc.trans c'
      clear c'
      go_wp2_with fail
      refine (next_is hm (HT.out.chg cc id) (v := k) (one_next HK.out)).mono ?_
      rintro e w' ⟨rfl, c'⟩
      replace hm := hm.grow c'
      replace cc := cc.trans c'
      clear c'
      go_wp2_with fail
      refine (next_is hm (HT.out.chg cc id) (v := -1) (one_none HK.out)).mono ?_
      rintro e w' ⟨rfl, c'⟩
      replace hm := hm.grow c'
      replace cc := cc.trans c'
      clear c'
      go_wp2_with fail
      refine (count_is hm (v := 1) (one_cnt HK.out)).mono ?_
      rintro e w' ⟨rfl, c'⟩
      replace hm := hm.grow c'
      replace cc := cc.trans c'
      clear c'
      go_wp2_with fail
      refine (clear_is hm (c := true) (T := no) (by unfold hasI; rw [exB_in HK2.out]; exact upd_at _ _ _) ((setI_in HK2.out).trans back)).mono ?_
      rintro e w' ⟨rfl, hm', c'⟩
      clear hm
      have hm := hm'
      replace cc := cc.new HG.out c'
      clear hm' c'
      go_wp2_with fail
      refine (count_is hm (v := 0) (by rw [cnt_no]; rfl)).mono ?_
      rintro e w' ⟨rfl, c'⟩
      replace hm := hm.grow c'
      replace cc := cc.trans c'
      clear c'
      go_wp2
      go_ret
      exact ⟨rfl, cc.under⟩
    · have HX := hide (exB_out (n := n) (i := b) (.inr (by omega)))
      have hb2 : decide (b < (n : Int)) = false := by simp; omega
      clear ht hn hn' hk
      go_enter Tryd.func8, Tryd.ntmps8
      go_wp2_with fail
      refine (awake_any _ HT.out).mono ?_
      rintro e wa ⟨rfl, ca⟩
      go_wp2_with fail
      refine (ms_new P _).mono ?_
      rintro e w1 ⟨rfl, hm, c1⟩
      rw [HN.out] at hm
      have cc := ca.trans c1
      have HG := hide ca.size
      generalize wa.heap.size + 1 = p at *
      generalize wa.heap.size = g at *
      clear ca c1
      go_wp2_with fail
      refine (ms_len hm).mono ?_
      rintro e w' ⟨rfl, rfl⟩
      go_wp2_with fail
      refine (set_is hm (c := false) (T := no) (by rw [HX.out]; rfl) (setI_out HX.out)).mono ?_
      rintro e w' ⟨rfl, hm', c'⟩
      clear hm
      have hm := hm'
      replace cc := cc.new HG.out c'
      clear hm' c'
      go_wp2_with fail
      refine (has_is hm (c := false) (by unfold hasI; rw [HX.out]; rfl)).mono ?_
      rintro e w' ⟨rfl, c'⟩
      replace hm := hm.grow c'
      replace cc := cc.trans c'
      clear c'
      go_wp2_with fail
      refine (clear_is hm (c := false) (T := no) (by unfold hasI; rw [HX.out]; rfl) (setI_out HX.out)).mono ?_
      rintro e w' ⟨rfl, hm', c'⟩
      clear hm
      have hm := hm'
      replace cc := cc.new HG.out c'
      clear hm' c'
      go_wp2_with fail
      refine (count_is hm (v := 0) (by rw [cnt_no]; rfl)).mono ?_
      rintro e w' ⟨rfl, c'⟩
      replace hm := hm.grow c'
      replace cc := cc.trans c'
      clear c'
      go_wp2_with fail
      refine (set_is hm (c := true) (T := upd no k true) (by rw [exB_in HK2.out]; rfl) (setI_in HK2.out)).mono ?_
      rintro e w' ⟨rfl, hm', c'⟩
      clear hm
      have hm := hm'
      replace cc := cc.new HG.out c'
      clear hm' c'
      go_wp2_with fail
      refine (has_is hm (c := true) (by unfold hasI; rw [exB_in HK2.out]; exact upd_at _ _ _)).mono ?_
      rintro e w' ⟨rfl, c'⟩
      replace hm := hm.grow c'
      replace cc := cc.trans c'
      clear c'
      go_wp2_with fail
      refine (next_is hm (HT.out.chg cc id) (v := k) (one_next HK.out)).mono ?_
      rintro e w' ⟨rfl, c'⟩
      replace hm := hm.grow c'
      replace cc := cc.trans c'
      clear c'
      go_wp2_with fail
      refine (next_is hm (HT.out.chg cc id) (v := -1) (one_none HK.out)).mono ?_
      rintro e w' ⟨rfl, c'⟩
      replace hm := hm.grow c'
      replace cc := cc.trans c'
      clear c'
      go_wp2_with fail
      refine (count_is hm (v := 1) (one_cnt HK.out)).mono ?_
      rintro e w' ⟨rfl, c'⟩
      replace hm := hm.grow c'
      replace cc := cc.trans c'
      clear c'
      go_wp2_with fail
      refine (clear_is hm (c := true) (T := no) (by unfold hasI; rw [exB_in HK2.out]; exact upd_at _ _ _) ((setI_in HK2.out).trans back)).mono ?_
      rintro e w' ⟨rfl, hm', c'⟩
      clear hm
      have hm := hm'
      replace cc := cc.new HG.out c'
      clear hm' c'
      go_wp2_with fail
      refine (count_is hm (v := 0) (by rw [cnt_no]; rfl)).mono ?_
      rintro e w' ⟨rfl, c'⟩
      replace hm := hm.grow c'
      replace cc := cc.trans c'
      clear c'
      go_wp2
      go_ret
      exact ⟨rfl, cc.under⟩
  · have HX := hide (exB_out (n := n) (i := b) (.inl (by omega)))
    have hb2 : decide (0 ≤ b) = false := by simp; omega
    clear ht hn hn' hk
    go_enter Tryd.func8, Tryd.ntmps8
    go_wp2_with fail
    refine (awake_any _ HT.out).mono ?_
    rintro e wa ⟨rfl, ca⟩
    go_wp2_with fail
    refine (ms_new P _).mono ?_
    rintro e w1 ⟨rfl, hm, c1⟩
    rw [HN.out] at hm
    have cc := ca.trans c1
    have HG := hide ca.size
    generalize wa.heap.size + 1 = p at *
    generalize wa.heap.size = g at *
    clear ca c1
    go_wp2_with fail
    refine (ms_len hm).mono ?_
    rintro e w' ⟨rfl, rfl⟩
    go_wp2_with fail
    refine (set_is hm (c := false) (T := no) (by rw [HX.out]; rfl) (setI_out HX.out)).mono ?_
    rintro e w' ⟨rfl, hm', c'⟩
    clear hm
    have hm := hm'
    replace cc := cc.new HG.out c'
    clear hm' c'
    go_wp2_with fail
    refine (has_is hm (c := false) (by unfold hasI; rw [HX.out]; rfl)).mono ?_
    rintro e w' ⟨rfl, c'⟩
    replace hm := hm.grow c'
    replace cc := cc.trans c'
    clear c'
    go_wp2_with fail
    refine (clear_is hm (c := false) (T := no) (by unfold hasI; rw [HX.out]; rfl) (setI_out HX.out)).mono ?_
    rintro e w' ⟨rfl, hm', c'⟩
    clear hm
    have hm := hm'
    replace cc := cc.new HG.out c'
    clear hm' c'
    go_wp2_with fail
    refine (count_is hm (v := 0) (by rw [cnt_no]; rfl)).mono ?_
    rintro e w' ⟨rfl, c'⟩
    replace hm := hm.grow c'
    replace cc := cc.trans c'
    clear c'
    go_wp2_with fail
    refine (set_is hm (c := true) (T := upd no k true) (by rw [exB_in HK2.out]; rfl) (setI_in HK2.out)).mono ?_
    rintro e w' ⟨rfl, hm', c'⟩
    clear hm
    have hm := hm'
    replace cc := cc.new HG.out c'
    clear hm' c'
    go_wp2_with fail
    refine (has_is hm (c := true) (by unfold hasI; rw [exB_in HK2.out]; exact upd_at _ _ _)).mono ?_
    rintro e w' ⟨rfl, c'⟩
    replace hm := hm.grow c'
    replace cc := cc.trans c'
    clear c'
    go_wp2_with fail
    refine (next_is hm (HT.out.chg cc id) (v := k) (one_next HK.out)).mono ?_
    rintro e w' ⟨rfl, c'⟩
    replace hm := hm.grow c'
    replace cc := cc.trans c'
    clear c'
    go_wp2_with fail
    refine (next_is hm (HT.out.chg cc id) (v := -1) (one_none HK.out)).mono ?_
    rintro e w' ⟨rfl, c'⟩
    replace hm := hm.grow c'
    replace cc := cc.trans c'
    clear c'
    go_wp2_with fail
    refine (count_is hm (v := 1) (one_cnt HK.out)).mono ?_
    rintro e w' ⟨rfl, c'⟩
    replace hm := hm.grow c'
    replace cc := cc.trans c'
    clear c'
    go_wp2_with fail
    refine (clear_is hm (c := true) (T := no) (by unfold hasI; rw [exB_in HK2.out]; exact upd_at _ _ _) ((setI_in HK2.out).trans back)).mono ?_
    rintro e w' ⟨rfl, hm', c'⟩
    clear hm
    have hm := hm'
    replace cc := cc.new HG.out c'
    clear hm' c'
    go_wp2_with fail
    refine (count_is hm (v := 0) (by rw [cnt_no]; rfl)).mono ?_
    rintro e w' ⟨rfl, c'⟩
    replace hm := hm.grow c'
    replace cc := cc.trans c'
    clear c'
    go_wp2
    go_ret
    exact ⟨rfl, cc.under⟩

theorem walk (a b : Int) (w : World) (ht : Tab w) (w0 : (Lit.int .u16 a).wf = true) (w1 : (Lit.int .i64 b).wf = true) :
    Calls Tryd.prog 8 #[.int .u16 a, .int .i64 b] w fun e w' => e = .returned (.bool true) ∧ Below w.heap.size w w' := by
  have b0 := bounds_u16 w0
  have b1 := bounds_i64 w1
  obtain ⟨P, rfl⟩ := Int.eq_ofNat_of_zero_le b0.1
  by_cases hp : P = 0
  · subst hp; exact walk_zero b w ht
  · exact walk_some P b w ht (by omega) (by omega) b1.1 b1.2

theorem own : ownKnob Tryd.prog.godebug = none := by kernel_rfl
theorem laidOut : laidOutB Tryd.prog = true := by kernel_rfl
theorem door_met (os : Os) (args : Array Value) : laidMetH Tryd.prog Rows.bitsEdgesRow.laid ((World.doorLaid Tryd.prog 400 os).forCall (fun _ _ => 0) ⟨#[], args, []⟩).memory :=
  laidMetH_of_parts3 (fuel := 8) (laidMet_of_run' 8 (by kernel_rfl) (by kernel_rfl)) (by kernel_rfl) (by kernel_rfl)

set_option maxRecDepth 100000 in
theorem lifted (os : Os) (started : os.Started) (H : Type) (enc : TypeId × Value → H) :
    ReturnsInHanded {} Tryd.checked os 8 .any (fun w args => (Rows.bitsEdgesSpec.pre enc Tryd.prog Tryd.f8 [] false w args ∧ laidMetH Tryd.prog Rows.bitsEdgesRow.laid w) ∧ sizedMet enc Tryd.prog Tryd.f8 (OpenSpec.ofChange Rows.bitsEdgesSpec) false w args) (Rows.bitsEdgesSpec.post enc Tryd.prog Tryd.f8 false true false false) := by
  refine returnsInHanded_of_change_and (C := Tryd.checked) (X := fun w _ => laidMetH Tryd.prog Rows.bitsEdgesRow.laid w) (fun _ _ _ hh h => h.of_heap hh) own started (by kernel_rfl) Tryd.func8
    (ChangeSpec.witness_shaped (enc := enc) (C := Tryd.checked) (os := os) (X := fun w _ => laidMetH Tryd.prog Rows.bitsEdgesRow.laid w) false (World.doorLaid Tryd.prog 400 os) #[.int .u16 0, .int .i64 0] 8 rfl (World.shaped_of_RefB (by kernel_rfl) (by kernel_rfl)) (by kernel_rfl) (by kernel_rfl) (by kernel_rfl) (door_met os _)) ?_
  intro W base args ds gs before hval0 hW _ _ hL _
  have hval : ∀ (j : Nat) t v, Tryd.f8.params[j]? = some t → args[j]? = some v → Value.okWide Tryd.prog W .any base t v := hval0
  have hW' := hW
  obtain ⟨p, q, hA0, hV, rfl, hfz, hnd⟩ := hW
  have hA : DataW.TrodAll enc Tryd.prog W 0 (fun _ => true) true Tryd.f8.params.toList args.toList ds p := hA0
  rw [Tryd.params8] at hA hval
  obtain ⟨v0, vs0, d0, ds0, p0, q0, hargs, rfl, rfl, h0, r0⟩ := trodAll_cons hA
  obtain ⟨v1, vs1, d1, ds1, p1, q1, rfl, rfl, rfl, h1, r1⟩ := trodAll_cons r0
  obtain ⟨rfl, rfl, rfl⟩ := trodAll_nil r1
  obtain rfl : args = #[v0, v1] := by cases args; simp_all
  obtain ⟨rfl, rfl⟩ := trodVars_none hV
  obtain ⟨a0, rfl, rfl, rfl, w0⟩ := open_int Tryd.underlying40 (hval 0 40 v0 rfl rfl) h0
  obtain ⟨a1, rfl, rfl, rfl, w1⟩ := open_int Tryd.underlying3 (hval 1 3 v1 rfl rfl) h1
  clear hA0 hval0
  refine (walk a0 a1 W (tab_of_laid hL) w0 w1).mono fun e W' ⟨he, bel⟩ => ?_
  subst he
  exact ⟨_, rfl, _, _, _, [], _, [], hW', trodAll_mk1 (shut_bool Tryd.underlying4 _), (trodAll_cons_mk (shut_int Tryd.underlying40 w0) (trodAll_cons_mk (shut_int Tryd.underlying3 w1) trodAll_mk0)), rfl, bel.frame _, fun h => by cases h⟩

theorem over : Rows.bitsEdgesRow.holds Tryd.pinned (OpenSpec.ofChange Rows.bitsEdgesSpec) :=
  OpenClaim.holds_of_wide 8 Tryd.f8 rfl rfl rfl rfl rfl rfl rfl ⟨rfl, rfl, rfl, rfl, rfl⟩ rfl rfl rfl rfl rfl (by kernel_rfl) Tryd.func8 (by kernel_rfl)
    (of_decide_eq_true (by kernel_rfl)) (by unfold Func.isWrapper; first | (rw [if_pos (by decide +kernel)]; kernel_rfl) | (rw [if_neg (by decide +kernel)]; exact ⟨rfl, rfl⟩))
    (fun os started H enc _ => lifted os started H enc)

/-- The statement. -/
theorem proved : Rows.BitsEdgesCardSaid :=
  Claim7.holds_tied_plain_at .later [] [.data] true Rows.bitsEdgesCard.stood.harness false
    over (fun _ h => by cases h) (by kernel_rfl) (fun _ h => by cases h) bitsEdges_row_tie rfl ⟨rfl, rfl⟩ (by kernel_rfl) rfl
    (fun f fn hf hfn => by
      obtain rfl : f = 8 := Option.some.inj ((show Tryd.prog.funcNamed "gleaning/gleaninglaw03.BitsEdges" = some 8 by kernel_rfl).symm.trans hf) |>.symm
      obtain rfl : fn = Tryd.f8 := (Option.some.inj (Tryd.func8.symm.trans hfn)).symm
      exact ⟨by kernel_rfl, fun j t ht => by
        rw [Tryd.params8] at ht
        have hm : t ∈ [40, 3] := by simpa using Array.mem_of_getElem? ht
        have hall : ([40, 3].all fun u => !Tryd.prog.wantsStandIn u) = true := by kernel_rfl
        exact (show Tryd.prog.wantsStandIn t = false by simpa using List.all_eq_true.1 hall t hm)⟩)
    (by kernel_rfl)
#print axioms proved
end Go.Proofs.YtobecefikkgelaaDoor.bitsEdges


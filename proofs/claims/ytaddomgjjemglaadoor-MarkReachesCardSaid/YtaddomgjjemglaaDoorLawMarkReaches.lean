/- For all arguments MarkReaches answers true: just what is reached is marked. Conditions: the table of math/bits.TrailingZeros64 is as the program's text lays it, which the card ties. -/
import Derived.Test.YtaddomgjjemglaaDoorL14F
import Derived.Test.YtaddomgjjemglaaDoorL14A
import Derived.Test.YtaddomgjjemglaaDoorCards
import Derived.Test.YtaddomgjjemglaaDoorTie
import Derived.SevenTiedAt
import Derived.Stop.Joined
import Derived.ShutString
namespace Go.Proofs.YtaddomgjjemglaaDoor.markReaches
open Go.ChangeShapes Go.WideShapes Go.ChangeAt Go.RowKit Go.Proofs.YtaddomgjjemglaaDoor.L14
open Go.Proofs.YtaddomgjjemglaaDoor.L3 (Ms Tab ms_set ms_len ms_has ms_next ms_count ms_new clamp ptr exB exB_in exB_out exB_nat setI cnt cnt_le cnt_congr cnt_on cnt_none upd upd_at upd_ne hasI has_is count_is nx nx_cases tab_of_laid)
set_option linter.unusedVariables false

set_option maxRecDepth 100000 in
set_option maxHeartbeats 2000000 in
theorem walk (places room : Int) (a : Option Addr) (len cap : Nat) (L : List (List Int)) (a2 : Option Addr) (k cap2 : Nat) (zs : List Int) (w : World) (ht : Tab w) (w0 : (Lit.int .i64 places).wf = true) (w1 : (Lit.int .i64 room).wf = true) (hl : IsLs w.heap.size w a len L) (hz : IsRow .i64 w a2 k cap2 zs) :
    Calls Tryd.prog 3 #[.int .i64 places, .int .i64 room, .slice a len cap, .slice a2 k cap2] w fun e w' => e = .returned (.bool true) ∧ Below w.heap.size w w' := by
  have HT := hide ht
  have HL := hide hl
  clear w0 w1
  cases hf : fewB L k with
  | false =>
    have HF := hide hf
    clear ht hl hz hf
    go_enter Tryd.func3, Tryd.ntmps3
    go_wp2_with fail
    refine (awake_any HT.out).mono ?_
    rintro e wa ⟨rfl, ca⟩
    have HTA := hide (HT.out.chg ca id)
    have HLA := hide (HL.out.grow ca)
    have HCA := hide ca
    clear ca
    go_wp2_with fail
    refine (few_any HLA.out).mono ?_
    rintro e wb ⟨rfl, rfl⟩
    rw [HF.out]
    go_wp2_with fail
    refine (awake_any HTA.out).mono ?_
    rintro e wc ⟨rfl, cc⟩
    go_wp2
    go_returns
    exact ⟨rfl, (HCA.out.trans cc).under⟩
  | true =>
    by_cases hp : places > 300
    · have q0 : decide (places > 300) = true := decide_eq_true hp
      have HF := hide hf
      clear ht hl hz hf hp
      go_enter Tryd.func3, Tryd.ntmps3
      go_wp2_with fail
      refine (awake_any HT.out).mono ?_
      rintro e wa ⟨rfl, ca⟩
      have HTA := hide (HT.out.chg ca id)
      have HLA := hide (HL.out.grow ca)
      have HCA := hide ca
      clear ca
      go_wp2_with fail
      refine (few_any HLA.out).mono ?_
      rintro e wb ⟨rfl, rfl⟩
      rw [HF.out]
      go_wp2_with fail
      refine (awake_any HTA.out).mono ?_
      rintro e wc ⟨rfl, cc⟩
      go_wp2
      go_returns
      exact ⟨rfl, (HCA.out.trans cc).under⟩
    · have q0 : decide (places > 300) = false := decide_eq_false hp
      have hk : k ≤ 100 := (of_decide_eq_true hf).2.1
      have HF := hide hf
      have HZ := hide (rd_row hz)
      obtain ⟨n, hn⟩ : ∃ n, clamp places = n := ⟨_, rfl⟩
      obtain ⟨S, hS⟩ := ex_rch n (eL L) zs
      obtain ⟨r, hr⟩ : ∃ r : Nat, max room 1 = (r : Int) := ⟨(max room 1).toNat, by omega⟩
      obtain ⟨M, hM⟩ : ∃ M : Nat, max 1 n = M := ⟨_, rfl⟩
      have hmx : ∀ (ts : Array TypeId) (t : TypeId) (W : World), (Builtin.max_ ts t #[.int .i64 1, .int .i64 (n : Int)]).run Tryd.prog W = .ok (.int .i64 (M : Int)) W := fun ts t W => by
        rw [run_max_int2]; congr 2; split <;> omega
      have HN := hide hn
      have HS := hide hS
      have HR := hide (And.intro hr hM)
      have HK := hide hk
      clear ht hl hz hf hp hn hS hr hM hk
      go_enter Tryd.func3, Tryd.ntmps3
      go_wp2_with fail
      refine (awake_any HT.out).mono ?_
      rintro e wa ⟨rfl, ca⟩
      have HTA := hide (HT.out.chg ca id)
      have HLA := hide (HL.out.grow ca)
      have HCA := hide ca
      clear ca
      go_wp2_with fail
      refine (few_any HLA.out).mono ?_
      rintro e wb ⟨rfl, rfl⟩
      rw [HF.out]
      go_wp2_with fail
      refine (by_is _).mono ?_
      rintro e w1 ⟨b1, rfl, hb1, c1, -⟩
      have HB1 := hide hb1
      have HC1 := hide (HCA.out.trans c1)
      clear hb1 c1
      go_wp2_with fail
      refine (reach_by (r := r) HB1.out HL.out (Nat.le_refl _) HC1.out HF.out HT.out HZ.out (by have := HK.out; omega) HS.out HN.out HR.out.1).mono ?_
      rintro e w2 ⟨p1, g1, rn1, rfl, hm1, hr1, c2⟩
      have HM1 := hide hm1
      have HR1 := hide hr1
      have HC2 := hide (HC1.out.trans c2)
      clear hm1 hr1 c2
      go_wp2_with fail
      refine (ref_any (HL.out.grow HC2.out) HF.out (HZ.out.grow HC2.out) HS.out HN.out).mono ?_
      rintro e w3 ⟨rfl, hb3, c3⟩
      obtain ⟨h3, hh3⟩ : ∃ h3, w2.heap.size = h3 := ⟨_, rfl⟩
      rw [hh3] at hb3 ⊢
      have HB3 := hide hb3
      have HM3 := hide (HM1.out.grow c3)
      have HC3 := hide (HC2.out.trans c3)
      clear hb3 c3 hh3 HM1
      go_wp2_with fail
      refine (by_is _).mono ?_
      rintro e w4 ⟨b4, rfl, hb4, c4, -⟩
      have HB4 := hide hb4
      have HC4 := hide (HC3.out.trans c4)
      have HD4 := hide c4
      clear hb4 c4
      go_wp2_with fail
      refine (reach_by (r := M) HB4.out HL.out (Nat.le_refl _) HC4.out HF.out HT.out HZ.out (by have := HK.out; omega) HS.out HN.out (by have := HR.out.2; omega)).mono ?_
      rintro e w5 ⟨p5, g5, rn5, rfl, hm5, hr5, c5⟩
      have HM5 := hide hm5
      have h50 : rn5 = 0 := by
        rcases hr5 with h | h
        · exact h
        · have := cnt_le S n
          have := HR.out.2
          omega
      subst h50
      have HM1 := hide (HM3.out.grow (HD4.out.trans c5))
      have HB5 := hide (HB3.out.chg (HD4.out.trans c5) id)
      have HC5 := hide (HC4.out.trans c5)
      clear hm5 hr5 c5
      go_wp2_with fail
      refine (same_any HM1.out HB5.out).mono ?_
      rintro e w6 ⟨rfl, c6⟩
      have HM6 := hide (HM5.out.grow c6)
      have HB6 := hide (HB5.out.chg c6 id)
      have HC6 := hide (HC5.out.trans c6)
      clear c6
      go_wp2_with fail
      refine (same_any HM6.out HB6.out).mono ?_
      rintro e w7 ⟨rfl, c7⟩
      have HC7 := hide (HC6.out.trans c7)
      clear c7
      by_cases h10 : rn1 = 0
      · subst h10
        go_wp2
        go_returns
        exact ⟨rfl, HC7.out.under⟩
      · have q1 : decide ((rn1 : Int) ≥ 0) = true := by simp
        have q2 : ((rn1 : Int) == 0) = false := by simpa using h10
        have q3 : decide (room < (n : Int)) = true := decide_eq_true (by
          have h1 := HR1.out.resolve_left h10
          have := cnt_le S n
          have := HR.out.1
          omega)
        clear h10
        go_wp2
        go_returns
        exact ⟨rfl, HC7.out.under⟩

theorem own : ownKnob Tryd.prog.godebug = none := by kernel_rfl
theorem laidOut : laidOutB Tryd.prog = true := by kernel_rfl
theorem door_met (os : Os) (args : Array Value) : laidMetH Tryd.prog Rows.markReachesRow.laid ((World.doorLaid Tryd.prog 400 os).forCall (fun _ _ => 0) ⟨#[], args, []⟩).memory :=
  laidMetH_of_parts3 (fuel := 8) (laidMet_of_run' 8 (by kernel_rfl) (by kernel_rfl)) (by kernel_rfl) (by kernel_rfl)

set_option maxRecDepth 100000 in
theorem lifted (os : Os) (started : os.Started) (H : Type) (enc : TypeId × Value → H) :
    ReturnsInHanded {} Tryd.checked os 3 .any (fun w args => (Rows.markReachesSpec.pre enc Tryd.prog Tryd.f3 [] false w args ∧ laidMetH Tryd.prog Rows.markReachesRow.laid w) ∧ sizedMet enc Tryd.prog Tryd.f3 (OpenSpec.ofChange Rows.markReachesSpec) false w args) (Rows.markReachesSpec.post enc Tryd.prog Tryd.f3 false true false false) := by
  refine returnsInHanded_of_change_and (C := Tryd.checked) (X := fun w _ => laidMetH Tryd.prog Rows.markReachesRow.laid w) (fun _ _ _ hh h => h.of_heap hh) own started (by kernel_rfl) Tryd.func3
    (ChangeSpec.witness_shaped (enc := enc) (C := Tryd.checked) (os := os) (X := fun w _ => laidMetH Tryd.prog Rows.markReachesRow.laid w) false (World.doorLaid Tryd.prog 400 os) #[.int .i64 0, .int .i64 0, .slice none 0 0, .slice none 0 0] 8 rfl (World.shaped_of_RefB (by kernel_rfl) (by kernel_rfl)) (by kernel_rfl) (by kernel_rfl) (by kernel_rfl) (door_met os _)) ?_
  intro W base args ds gs before hval0 hW _ _ hL _
  have hval : ∀ (j : Nat) t v, Tryd.f3.params[j]? = some t → args[j]? = some v → Value.okWide Tryd.prog W .any base t v := hval0
  have hW' := hW
  obtain ⟨p, q, hA0, hV, rfl, hfz, hnd⟩ := hW
  have hA : DataW.TrodAll enc Tryd.prog W 0 (fun _ => true) true Tryd.f3.params.toList args.toList ds p := hA0
  rw [Tryd.params3] at hA hval
  obtain ⟨v0, vs0, d0, ds0, p0, q0, hargs, rfl, rfl, h0, r0⟩ := trodAll_cons hA
  obtain ⟨v1, vs1, d1, ds1, p1, q1, rfl, rfl, rfl, h1, r1⟩ := trodAll_cons r0
  obtain ⟨v2, vs2, d2, ds2, p2, q2, rfl, rfl, rfl, h2, r2⟩ := trodAll_cons r1
  obtain ⟨v3, vs3, d3, ds3, p3, q3, rfl, rfl, rfl, h3, r3⟩ := trodAll_cons r2
  obtain ⟨rfl, rfl, rfl⟩ := trodAll_nil r3
  obtain rfl : args = #[v0, v1, v2, v3] := by cases args; simp_all
  obtain ⟨rfl, rfl⟩ := trodVars_none hV
  obtain ⟨a0, rfl, rfl, rfl, w0⟩ := open_int Tryd.underlying3 (hval 0 3 v0 rfl rfl) h0
  obtain ⟨a1, rfl, rfl, rfl, w1⟩ := open_int Tryd.underlying3 (hval 1 3 v1 rfl rfl) h1
  have k2 := h2
  have lt2 : ∀ x ∈ p2, x.block < W.heap.size := by obtain ⟨m, hm⟩ := k2; exact DataW.trod_lt m _ _ _ hm
  obtain ⟨a2, len2, cap2, L2, rfl, w2⟩ := open_lists (hval 2 22 v2 rfl rfl) h2
  obtain ⟨a3, len3, cap3, rfl⟩ := okWide_slice Tryd.underlying23 (hval 3 23 v3 rfl rfl)
  have k3 := h3
  have lt3 : ∀ x ∈ p3, x.block < W.heap.size := by obtain ⟨m, hm⟩ := k3; exact DataW.trod_lt m _ _ _ hm
  obtain ⟨z3, w3⟩ : ∃ zs, IsRow .i64 W a3 len3 cap3 zs := open_row Tryd.underlying23 Tryd.underlying3 (by kernel_rfl) h3
  clear hA0 hval0
  refine (walk a0 a1 a2 len2 cap2 L2 a3 len3 cap3 z3 W (tab_of_laid hL) w0 w1 w2 w3).mono fun e W' ⟨he, bel⟩ => ?_
  subst he
  exact ⟨_, rfl, _, _, _, [], _, [], hW', trodAll_mk1 (shut_bool Tryd.underlying4 _), (trodAll_cons_mk (shut_int Tryd.underlying3 w0) (trodAll_cons_mk (shut_int Tryd.underlying3 w1) (trodAll_cons_mk (Below.trod laidOut (by kernel_rfl) (of_decide_eq_true (by kernel_rfl)) k2 bel lt2) (trodAll_cons_mk (Below.trod laidOut (by kernel_rfl) (of_decide_eq_true (by kernel_rfl)) k3 bel lt3) trodAll_mk0)))), rfl, bel.frame _, fun h => by cases h⟩

theorem over : Rows.markReachesRow.holds Tryd.pinned (OpenSpec.ofChange Rows.markReachesSpec) :=
  OpenClaim.holds_of_wide 3 Tryd.f3 rfl rfl rfl rfl rfl rfl rfl ⟨rfl, rfl, rfl, rfl, rfl⟩ rfl rfl rfl rfl rfl (by kernel_rfl) Tryd.func3 (by kernel_rfl)
    (of_decide_eq_true (by kernel_rfl)) (by unfold Func.isWrapper; first | (rw [if_pos (by decide +kernel)]; kernel_rfl) | (rw [if_neg (by decide +kernel)]; exact ⟨rfl, rfl⟩))
    (fun os started H enc _ => lifted os started H enc)

/-- The statement. -/
theorem proved : Rows.MarkReachesCardSaid :=
  Claim7.holds_tied_plain_at .later [] [.data] true Rows.markReachesCard.stood.harness false
    over (fun _ h => by cases h) (by kernel_rfl) (fun _ h => by cases h) markReaches_row_tie rfl ⟨rfl, rfl⟩ (by kernel_rfl) rfl
    (fun f fn hf hfn => by
      obtain rfl : f = 3 := Option.some.inj ((show Tryd.prog.funcNamed "gleaning/gleaninglaw14.MarkReaches" = some 3 by kernel_rfl).symm.trans hf) |>.symm
      obtain rfl : fn = Tryd.f3 := (Option.some.inj (Tryd.func3.symm.trans hfn)).symm
      exact ⟨by kernel_rfl, fun j t ht => by
        rw [Tryd.params3] at ht
        have hm : t ∈ [3, 3, 22, 23] := by simpa using Array.mem_of_getElem? ht
        have hall : ([3, 3, 22, 23].all fun u => !Tryd.prog.wantsStandIn u) = true := by kernel_rfl
        exact (show Tryd.prog.wantsStandIn t = false by simpa using List.all_eq_true.1 hall t hm)⟩)
    (by kernel_rfl)
#print axioms proved
end Go.Proofs.YtaddomgjjemglaaDoor.markReaches


/- For all lists and numbers BitsSome answers true: what is set between two places, and between others behind, together is what is set in all of it; there is none below the first one. Conditions: the table of math/bits.TrailingZeros64 is as the program's text lays it, which the card ties. -/
import Derived.Test.YtobecefikkgelaaDoorIs
import Derived.Test.YtobecefikkgelaaDoorCards
import Derived.Test.YtobecefikkgelaaDoorTie
import Derived.SevenTiedAt
import Derived.Stop.Joined
import Derived.ShutString
namespace Go.Proofs.YtobecefikkgelaaDoor.bitsSome
open Go.ChangeShapes Go.WideShapes Go.ChangeAt Go.RowKit
set_option linter.unusedVariables false

set_option maxHeartbeats 1000000 in
set_option maxRecDepth 100000 in
theorem walk_long (a1 : Option Addr) (len cap : Nat) (a b c : Int) (w : World) (ht : Tab w) (h : 200 < len) :
    Calls Tryd.prog 7 #[.slice a1 len cap, .int .u16 a, .int .u16 b, .int .u16 c] w fun e w' => e = .returned (.bool true) ∧ Below w.heap.size w w' := by
  have HT := hide ht
  clear ht
  go_enter Tryd.func7, Tryd.ntmps7
  go_wp2_with fail
  refine (awake_any _ HT.out).mono ?_
  rintro e wa ⟨rfl, ca⟩
  go_wp2_with fail
  refine (awake_any _ (HT.out.chg ca id)).mono ?_
  rintro e wb ⟨rfl, cb⟩
  go_wp2
  go_ret
  exact ⟨rfl, (ca.trans cb).under⟩

theorem sum_btw (S : Nat → Bool) (n : Nat) {x y z : Int} (h1 : x ≤ y) (h2 : y ≤ z) : ((btw S n x y : Nat) : Int) + ((btw S n y z : Nat) : Int) = ((btw S n x z : Nat) : Int) := by
  have a1 := cnt_mono S (show cl n x ≤ cl n y by unfold cl; omega)
  have a2 := cnt_mono S (show cl n y ≤ cl n z by unfold cl; omega)
  unfold btw
  omega
theorem btw_le (S : Nat → Bool) (n : Nat) (x y : Int) : btw S n x y ≤ n := by
  have := cnt_le S (cl n y)
  have : cl n y ≤ n := by unfold cl; omega
  unfold btw
  omega
theorem btw_none (S : Nat → Bool) (n : Nat) {x z : Int} (h : x ≤ z) : ((btw S n z x : Nat) : Int) = 0 := by
  have := cnt_mono S (show cl n x ≤ cl n z by unfold cl; omega)
  unfold btw
  omega
theorem btw_first (S : Nat → Bool) (n j : Nat) (h : ∀ k, Int.toNat 0 ≤ k → k < j → S k = false) : ((btw S n 0 j : Nat) : Int) = 0 := by
  have : cnt S (cl n j) = 0 := cnt_none fun k hk => h k (by omega) (by unfold cl at hk; omega)
  unfold btw
  omega

set_option maxHeartbeats 4000000 in
set_option maxRecDepth 100000 in
theorem walk_main (a1 : Option Addr) (len cap : Nat) (zs : List Int) (a b c : Nat) (w : World) (ht : Tab w) (h0 : IsRow .u16 w a1 len cap zs) (hlen : len ≤ 200) (ha : a ≤ 65535) (hb : b ≤ 65535) (hc : c ≤ 65535) :
    Calls Tryd.prog 7 #[.slice a1 len cap, .int .u16 a, .int .u16 b, .int .u16 c] w fun e w' => e = .returned (.bool true) ∧ Below w.heap.size w w' := by
  obtain ⟨x, y, z, hxy, hyz, hz, hsum, hmin, hmax⟩ : ∃ x y z : Nat, x ≤ y ∧ y ≤ z ∧ z ≤ 65535 ∧ a + b + c = x + y + z ∧ (∀ ts t W, (Builtin.min_ ts t #[.int .u16 a, .int .u16 b, .int .u16 c]).run Tryd.prog W = .ok (.int .u16 x) W) ∧ (∀ ts t W, (Builtin.max_ ts t #[.int .u16 a, .int .u16 b, .int .u16 c]).run Tryd.prog W = .ok (.int .u16 z) W) := by
    refine ⟨min a (min b c), a + b + c - min a (min b c) - max a (max b c), max a (max b c), by omega, by omega, by omega, by omega, fun ts t W => ?_, fun ts t W => ?_⟩
    · rw [run_min_int3]; congr 2; split <;> split at * <;> omega
    · rw [run_max_int3]; congr 2; split <;> split at * <;> omega
  have v1 : IntKind.i64.wrap (x : Int) = (x : Int) := wrap_i64_id _ (by omega)
  have v2 : IntKind.i64.wrap (z : Int) = (z : Int) := wrap_i64_id _ (by omega)
  have va : IntKind.i64.wrap (a : Int) = (a : Int) := wrap_i64_id _ (by omega)
  have vb : IntKind.i64.wrap (b : Int) = (b : Int) := wrap_i64_id _ (by omega)
  have vc : IntKind.i64.wrap (c : Int) = (c : Int) := wrap_i64_id _ (by omega)
  have v3 : IntKind.i64.wrap ((a : Int) + (b : Int)) = (a : Int) + (b : Int) := wrap_i64_id _ (by omega)
  have v4 : IntKind.i64.wrap ((a : Int) + (b : Int) + (c : Int)) = (a : Int) + (b : Int) + (c : Int) := wrap_i64_id _ (by omega)
  have v5 : IntKind.i64.wrap ((a : Int) + (b : Int) + (c : Int) - (x : Int)) = (a : Int) + (b : Int) + (c : Int) - (x : Int) := wrap_i64_id _ (by omega)
  have v6 : IntKind.i64.wrap ((a : Int) + (b : Int) + (c : Int) - (x : Int) - (z : Int)) = (y : Int) := by rw [wrap_i64_id _ (by omega)]; omega
  have hlen' : decide ((200 : Int) < len) = false := by simp; omega
  have HT := hide ht
  have H0 := hide h0
  have HXY := hide hxy
  have HYZ := hide hyz
  clear ht h0 hsum hxy hyz
  go_enter Tryd.func7, Tryd.ntmps7
  go_wp2_with fail
  refine (awake_any _ HT.out).mono ?_
  rintro e wa ⟨rfl, ca⟩
  go_wp2_with fail
  refine (ms_new 4096 _).mono ?_
  rintro e w1 ⟨rfl, hm, c1⟩
  rw [show clamp 4096 = 4096 from rfl] at hm
  have cc := ca.trans c1
  have HG := hide ca.size
  generalize wa.heap.size + 1 = p at *
  generalize wa.heap.size = g at *
  clear ca c1
  go_wp2
  go_loopw [26] (fun i wr => ∃ (k : Nat), k ≤ len ∧ i = .int .i64 k ∧ (∃ S, Ms wr p g 4096 S) ∧ Grow w wr) (fun i _ => len - (intOf i).toNat)
  case atStart => exact ⟨0, Nat.zero_le _, rfl, ⟨_, hm⟩, cc⟩
  case round =>
    clear hm cc
    obtain ⟨k, hk, rfl, ⟨S, hm⟩, cc⟩ := hrel
    by_cases hlt : k < len
    · obtain ⟨ad, rfl, hcell, hwf⟩ := (H0.out.grow cc).at_ hlt
      have hzz := bounds_u16 hwf
      generalize zs.getD k 0 = zk at *
      have vk : IntKind.i64.wrap zk = zk := wrap_i64_id _ (by omega)
      clear hzz hwf
      go_wp2_with fail
      refine (ms_set zk hm).mono ?_
      rintro e w2 ⟨rfl, hm2, c2⟩
      have cc2 := cc.new HG.out c2
      clear c2 hm cc hcell
      go_wp2
      go_roundw
      case rel => exact ⟨k + 1, by omega, by go_num, ⟨_, hm2⟩, cc2⟩
      case measure => simp [intOf]; omega
    · obtain rfl : len = k := by omega
      have hs := hide (sum_btw S 4096 (x := x) (y := y) (z := z) (by have := HXY.out; omega) (by have := HYZ.out; omega))
      have q1 := btw_le S 4096 x y
      have q2 := btw_le S 4096 y z
      have HB1 := hide fun W (h : Ms W p g 4096 S) => between_is (a := x) (b := y) h rfl
      have HB2 := hide fun W (h : Ms W p g 4096 S) => between_is (a := y) (b := z) h rfl
      have HB3 := hide fun W (h : Ms W p g 4096 S) => between_is (a := x) (b := z) h hs.out.symm
      have HB4 := hide fun W (h : Ms W p g 4096 S) => between_is (a := z) (b := x) h (btw_none S 4096 (by have := HXY.out; have := HYZ.out; omega))
      generalize btw S 4096 x y = b1 at *
      generalize btw S 4096 y z = b2 at *
      have vs : IntKind.i64.wrap ((b1 : Int) + (b2 : Int)) = (b1 : Int) + (b2 : Int) := wrap_i64_id _ (by omega)
      rcases nx_cases S 4096 0 with ⟨hn, _⟩ | ⟨j, hn, _, hj, hsj, hbe⟩
      · have HNX := hide hn
        clear hn
        by_cases hxz : z = x
        · as_aux_lemma =>
          have hxz' : ((z : Int) == (x : Int)) = true := by simp; omega
          clear hxz
          go_wp2_with fail
          refine (next_is hm (HT.out.chg cc id) HNX.out).mono ?_
          rintro e w' ⟨rfl, c'⟩
          replace hm := hm.grow c'
          replace cc := cc.trans c'
          clear c'
          go_wp2_with fail
          refine (HB1.out _ hm).mono ?_
          rintro e w' ⟨rfl, c'⟩
          replace hm := hm.grow c'
          replace cc := cc.trans c'
          clear c'
          go_wp2_with fail
          refine (HB2.out _ hm).mono ?_
          rintro e w' ⟨rfl, c'⟩
          replace hm := hm.grow c'
          replace cc := cc.trans c'
          clear c'
          go_wp2_with fail
          refine (HB3.out _ hm).mono ?_
          rintro e w' ⟨rfl, c'⟩
          replace hm := hm.grow c'
          replace cc := cc.trans c'
          clear c'
          go_wp2
          go_ret
          exact ⟨rfl, cc.under⟩
        · as_aux_lemma =>
          have hxz' : ((z : Int) == (x : Int)) = false := by simp; omega
          go_wp2_with fail
          refine (next_is hm (HT.out.chg cc id) HNX.out).mono ?_
          rintro e w' ⟨rfl, c'⟩
          replace hm := hm.grow c'
          replace cc := cc.trans c'
          clear c'
          go_wp2_with fail
          refine (HB1.out _ hm).mono ?_
          rintro e w' ⟨rfl, c'⟩
          replace hm := hm.grow c'
          replace cc := cc.trans c'
          clear c'
          go_wp2_with fail
          refine (HB2.out _ hm).mono ?_
          rintro e w' ⟨rfl, c'⟩
          replace hm := hm.grow c'
          replace cc := cc.trans c'
          clear c'
          go_wp2_with fail
          refine (HB3.out _ hm).mono ?_
          rintro e w' ⟨rfl, c'⟩
          replace hm := hm.grow c'
          replace cc := cc.trans c'
          clear c'
          go_wp2_with fail
          refine (HB4.out _ hm).mono ?_
          rintro e w' ⟨rfl, c'⟩
          replace hm := hm.grow c'
          replace cc := cc.trans c'
          clear c'
          go_wp2
          go_ret
          exact ⟨rfl, cc.under⟩
      · have HNX := hide hn
        have HB5 := hide fun W (h : Ms W p g 4096 S) => between_is (a := 0) (b := j) h (btw_first S 4096 j hbe)
        have HH := hide fun W (h : Ms W p g 4096 S) => has_is (i := j) (c := true) h (by unfold hasI; rw [exB_in hj, Int.toNat_natCast, hsj]; rfl)
        have hj0 : decide ((j : Int) < 0) = false := by simp
        clear hn hsj hbe
        by_cases hxz : z = x
        · as_aux_lemma =>
          have hxz' : ((z : Int) == (x : Int)) = true := by simp; omega
          clear hxz
          go_wp2_with fail
          refine (next_is hm (HT.out.chg cc id) HNX.out).mono ?_
          rintro e w' ⟨rfl, c'⟩
          replace hm := hm.grow c'
          replace cc := cc.trans c'
          clear c'
          go_wp2_with fail
          refine (HB1.out _ hm).mono ?_
          rintro e w' ⟨rfl, c'⟩
          replace hm := hm.grow c'
          replace cc := cc.trans c'
          clear c'
          go_wp2_with fail
          refine (HB2.out _ hm).mono ?_
          rintro e w' ⟨rfl, c'⟩
          replace hm := hm.grow c'
          replace cc := cc.trans c'
          clear c'
          go_wp2_with fail
          refine (HB3.out _ hm).mono ?_
          rintro e w' ⟨rfl, c'⟩
          replace hm := hm.grow c'
          replace cc := cc.trans c'
          clear c'
          go_wp2_with fail
          refine (HB5.out _ hm).mono ?_
          rintro e w' ⟨rfl, c'⟩
          replace hm := hm.grow c'
          replace cc := cc.trans c'
          clear c'
          go_wp2_with fail
          refine (HH.out _ hm).mono ?_
          rintro e w' ⟨rfl, c'⟩
          replace hm := hm.grow c'
          replace cc := cc.trans c'
          clear c'
          go_wp2
          go_ret
          exact ⟨rfl, cc.under⟩
        · as_aux_lemma =>
          have hxz' : ((z : Int) == (x : Int)) = false := by simp; omega
          go_wp2_with fail
          refine (next_is hm (HT.out.chg cc id) HNX.out).mono ?_
          rintro e w' ⟨rfl, c'⟩
          replace hm := hm.grow c'
          replace cc := cc.trans c'
          clear c'
          go_wp2_with fail
          refine (HB1.out _ hm).mono ?_
          rintro e w' ⟨rfl, c'⟩
          replace hm := hm.grow c'
          replace cc := cc.trans c'
          clear c'
          go_wp2_with fail
          refine (HB2.out _ hm).mono ?_
          rintro e w' ⟨rfl, c'⟩
          replace hm := hm.grow c'
          replace cc := cc.trans c'
          clear c'
          go_wp2_with fail
          refine (HB3.out _ hm).mono ?_
          rintro e w' ⟨rfl, c'⟩
          replace hm := hm.grow c'
          replace cc := cc.trans c'
          clear c'
          go_wp2_with fail
          refine (HB4.out _ hm).mono ?_
          rintro e w' ⟨rfl, c'⟩
          replace hm := hm.grow c'
          replace cc := cc.trans c'
          clear c'
          go_wp2_with fail
          refine (HB5.out _ hm).mono ?_
          rintro e w' ⟨rfl, c'⟩
          replace hm := hm.grow c'
          replace cc := cc.trans c'
          clear c'
          go_wp2_with fail
          refine (HH.out _ hm).mono ?_
          rintro e w' ⟨rfl, c'⟩
          replace hm := hm.grow c'
          replace cc := cc.trans c'
          clear c'
          go_wp2
          go_ret
          exact ⟨rfl, cc.under⟩

theorem walk (a1 : Option Addr) (len cap : Nat) (zs : List Int) (a b c : Int) (w : World) (ht : Tab w) (h0 : IsRow .u16 w a1 len cap zs) (w1 : (Lit.int .u16 a).wf = true) (w2 : (Lit.int .u16 b).wf = true) (w3 : (Lit.int .u16 c).wf = true) :
    Calls Tryd.prog 7 #[.slice a1 len cap, .int .u16 a, .int .u16 b, .int .u16 c] w fun e w' => e = .returned (.bool true) ∧ Below w.heap.size w w' := by
  have b1 := bounds_u16 w1
  have b2 := bounds_u16 w2
  have b3 := bounds_u16 w3
  obtain ⟨x, rfl⟩ := Int.eq_ofNat_of_zero_le b1.1
  obtain ⟨y, rfl⟩ := Int.eq_ofNat_of_zero_le b2.1
  obtain ⟨z, rfl⟩ := Int.eq_ofNat_of_zero_le b3.1
  by_cases h : 200 < len
  · exact walk_long a1 len cap x y z w ht h
  · exact walk_main a1 len cap zs x y z w ht h0 (by omega) (by omega) (by omega) (by omega)

theorem own : ownKnob Tryd.prog.godebug = none := by kernel_rfl
theorem laidOut : laidOutB Tryd.prog = true := by kernel_rfl
theorem door_met (os : Os) (args : Array Value) : laidMetH Tryd.prog Rows.bitsSomeRow.laid ((World.doorLaid Tryd.prog 400 os).forCall (fun _ _ => 0) ⟨#[], args, []⟩).memory :=
  laidMetH_of_parts3 (fuel := 8) (laidMet_of_run' 8 (by kernel_rfl) (by kernel_rfl)) (by kernel_rfl) (by kernel_rfl)

set_option maxRecDepth 100000 in
theorem lifted (os : Os) (started : os.Started) (H : Type) (enc : TypeId × Value → H) :
    ReturnsInHanded {} Tryd.checked os 7 .any (fun w args => (Rows.bitsSomeSpec.pre enc Tryd.prog Tryd.f7 [] false w args ∧ laidMetH Tryd.prog Rows.bitsSomeRow.laid w) ∧ sizedMet enc Tryd.prog Tryd.f7 (OpenSpec.ofChange Rows.bitsSomeSpec) false w args) (Rows.bitsSomeSpec.post enc Tryd.prog Tryd.f7 false true false false) := by
  refine returnsInHanded_of_change_and (C := Tryd.checked) (X := fun w _ => laidMetH Tryd.prog Rows.bitsSomeRow.laid w) (fun _ _ _ hh h => h.of_heap hh) own started (by kernel_rfl) Tryd.func7
    (ChangeSpec.witness_shaped (enc := enc) (C := Tryd.checked) (os := os) (X := fun w _ => laidMetH Tryd.prog Rows.bitsSomeRow.laid w) false (World.doorLaid Tryd.prog 400 os) #[.slice none 0 0, .int .u16 0, .int .u16 0, .int .u16 0] 8 rfl (World.shaped_of_RefB (by kernel_rfl) (by kernel_rfl)) (by kernel_rfl) (by kernel_rfl) (by kernel_rfl) (door_met os _)) ?_
  intro W base args ds gs before hval0 hW _ _ hL _
  have hval : ∀ (j : Nat) t v, Tryd.f7.params[j]? = some t → args[j]? = some v → Value.okWide Tryd.prog W .any base t v := hval0
  have hW' := hW
  obtain ⟨p, q, hA0, hV, rfl, hfz, hnd⟩ := hW
  have hA : DataW.TrodAll enc Tryd.prog W 0 (fun _ => true) true Tryd.f7.params.toList args.toList ds p := hA0
  rw [Tryd.params7] at hA hval
  obtain ⟨v0, vs0, d0, ds0, p0, q0, hargs, rfl, rfl, h0, r0⟩ := trodAll_cons hA
  obtain ⟨v1, vs1, d1, ds1, p1, q1, rfl, rfl, rfl, h1, r1⟩ := trodAll_cons r0
  obtain ⟨v2, vs2, d2, ds2, p2, q2, rfl, rfl, rfl, h2, r2⟩ := trodAll_cons r1
  obtain ⟨v3, vs3, d3, ds3, p3, q3, rfl, rfl, rfl, h3, r3⟩ := trodAll_cons r2
  obtain ⟨rfl, rfl, rfl⟩ := trodAll_nil r3
  obtain rfl : args = #[v0, v1, v2, v3] := by cases args; simp_all
  obtain ⟨rfl, rfl⟩ := trodVars_none hV
  obtain ⟨a0, len0, cap0, rfl⟩ := okWide_slice Tryd.underlying39 (hval 0 39 v0 rfl rfl)
  have k0 := h0
  have lt0 : ∀ x ∈ p0, x.block < W.heap.size := by obtain ⟨m, hm⟩ := k0; exact DataW.trod_lt m _ _ _ hm
  obtain ⟨z0, w0⟩ : ∃ zs, IsRow .u16 W a0 len0 cap0 zs := open_row Tryd.underlying39 Tryd.underlying40 (by kernel_rfl) h0
  obtain ⟨a1, rfl, rfl, rfl, w1⟩ := open_int Tryd.underlying40 (hval 1 40 v1 rfl rfl) h1
  obtain ⟨a2, rfl, rfl, rfl, w2⟩ := open_int Tryd.underlying40 (hval 2 40 v2 rfl rfl) h2
  obtain ⟨a3, rfl, rfl, rfl, w3⟩ := open_int Tryd.underlying40 (hval 3 40 v3 rfl rfl) h3
  clear hA0 hval0
  refine (walk a0 len0 cap0 z0 a1 a2 a3 W (tab_of_laid hL) w0 w1 w2 w3).mono fun e W' ⟨he, bel⟩ => ?_
  subst he
  exact ⟨_, rfl, _, _, _, [], _, [], hW', trodAll_mk1 (shut_bool Tryd.underlying4 _), (trodAll_cons_mk (Below.trod laidOut (by kernel_rfl) (of_decide_eq_true (by kernel_rfl)) k0 bel lt0) (trodAll_cons_mk (shut_int Tryd.underlying40 w1) (trodAll_cons_mk (shut_int Tryd.underlying40 w2) (trodAll_cons_mk (shut_int Tryd.underlying40 w3) trodAll_mk0)))), rfl, bel.frame _, fun h => by cases h⟩

theorem over : Rows.bitsSomeRow.holds Tryd.pinned (OpenSpec.ofChange Rows.bitsSomeSpec) :=
  OpenClaim.holds_of_wide 7 Tryd.f7 rfl rfl rfl rfl rfl rfl rfl ⟨rfl, rfl, rfl, rfl, rfl⟩ rfl rfl rfl rfl rfl (by kernel_rfl) Tryd.func7 (by kernel_rfl)
    (of_decide_eq_true (by kernel_rfl)) (by unfold Func.isWrapper; first | (rw [if_pos (by decide +kernel)]; kernel_rfl) | (rw [if_neg (by decide +kernel)]; exact ⟨rfl, rfl⟩))
    (fun os started H enc _ => lifted os started H enc)

/-- The statement. -/
theorem proved : Rows.BitsSomeCardSaid :=
  Claim7.holds_tied_plain_at .later [] [.data] true Rows.bitsSomeCard.stood.harness false
    over (fun _ h => by cases h) (by kernel_rfl) (fun _ h => by cases h) bitsSome_row_tie rfl ⟨rfl, rfl⟩ (by kernel_rfl) rfl
    (fun f fn hf hfn => by
      obtain rfl : f = 7 := Option.some.inj ((show Tryd.prog.funcNamed "gleaning/gleaninglaw03.BitsSome" = some 7 by kernel_rfl).symm.trans hf) |>.symm
      obtain rfl : fn = Tryd.f7 := (Option.some.inj (Tryd.func7.symm.trans hfn)).symm
      exact ⟨by kernel_rfl, fun j t ht => by
        rw [Tryd.params7] at ht
        have hm : t ∈ [39, 40, 40, 40] := by simpa using Array.mem_of_getElem? ht
        have hall : ([39, 40, 40, 40].all fun u => !Tryd.prog.wantsStandIn u) = true := by kernel_rfl
        exact (show Tryd.prog.wantsStandIn t = false by simpa using List.all_eq_true.1 hall t hm)⟩)
    (by kernel_rfl)
#print axioms proved
end Go.Proofs.YtobecefikkgelaaDoor.bitsSome


/- For all bounds and addresses CardNear answers true: two addresses are of one card just if touching one of them lets the other one be dirty; they are less than CardWords apart then. Conditions: the table of math/bits.TrailingZeros64 is as the program's text lays it, which the card ties. -/
import Derived.Test.YtbigdgabjjpffaaDoorL7Two
import Derived.Test.YtbigdgabjjpffaaDoorCards
import Derived.Test.YtbigdgabjjpffaaDoorTie
import Derived.SevenTiedAt
import Derived.Stop.Joined
import Derived.ShutString
namespace Go.Proofs.YtbigdgabjjpffaaDoor.cardNear
open Go.ChangeShapes Go.WideShapes Go.ChangeAt Go.RowKit Go.Proofs.YtbigdgabjjpffaaDoor.L3 Go.Proofs.YtbigdgabjjpffaaDoor.L7
set_option linter.unusedVariables false


set_option maxHeartbeats 4000000 in
set_option maxRecDepth 100000 in
theorem walk_a (f t x y : Int) (F T : Nat) (w : World) (ht : Tab w) (h0 : 0 ≤ f ∧ f ≤ 65535) (h1 : 0 ≤ t ∧ t ≤ 65535) (h2 : 0 ≤ x ∧ x ≤ 65535) (h3 : 0 ≤ y ∧ y ≤ 65535) (hF : clamp f = F) (hT : tob f t = T) (hx : inn F T x = false) :
    Calls Tryd.prog 5 #[.int .u16 f, .int .u16 t, .int .u16 x, .int .u16 y] w fun e w' => e = .returned (.bool true) ∧ Below w.heap.size w w' := by
  have HT := hide ht
  have v0 : IntKind.i64.wrap f = f := wrap_i64_id _ (by omega)
  have v1 : IntKind.i64.wrap t = t := wrap_i64_id _ (by omega)
  have v2 : IntKind.i64.wrap x = x := wrap_i64_id _ (by omega)
  have v3 : IntKind.i64.wrap y = y := wrap_i64_id _ (by omega)
  have v4 : IntKind.i64.wrap (x - y) = x - y := wrap_i64_id _ (by omega)
  have v5 : IntKind.i64.wrap (y - x) = y - x := wrap_i64_id _ (by omega)
  clear ht h0 h1 h2 h3
  go_enter Tryd.func5, Tryd.ntmps5
  go_wp2_with fail
  refine (awake_any _ HT.out).mono ?_
  rintro e wa ⟨rfl, ca⟩
  go_wp2_with fail
  refine (tb_new f t _ hF hT).mono ?_
  rintro e w1 ⟨p, m, g, rfl, ha, hp, hm, hg, c1⟩
  go_wp2_with fail
  refine (tb_new f t _ hF hT).mono ?_
  rintro e w2 ⟨q, k, h, rfl, hb, hq, hk, hh, c2⟩
  have tw := Two.mk2 (ca.trans c1) ha (Nat.le_trans ca.size hg) c2 hb hq hk hh
  clear ca c1 c2 ha hb hp hm hg hq hk hh
  go_wp2_with fail
  refine (tb_touch tw.a x (c := false) (T := no) (by rw [isnew_no, hx]) (tset_off hx)).mono ?_
  rintro e w3 ⟨rfl, h', c'⟩
  replace tw := tw.setA h' c'
  clear h' c'
  go_wp2_with fail
  refine (tb_touch tw.b y (c := (inn F T y)) (T := (tset no F T y)) (isnew_no F T y) rfl).mono ?_
  rintro e w4 ⟨rfl, h', c'⟩
  replace tw := tw.setB h' c'
  clear h' c'
  go_wp2_with fail
  refine (tb_dirty tw.a y (c := false) (by unfold isd; simp)).mono ?_
  rintro e w5 ⟨rfl, c'⟩
  replace tw := tw.grow c'
  clear c'
  have cc := tw.cc
  clear tw
  generalize inn F T y = bb at *
  go_wp2
  go_ret
  exact ⟨rfl, cc.below (fun _ _ h => h) (Nat.le_refl _)⟩
set_option maxHeartbeats 4000000 in
set_option maxRecDepth 100000 in
theorem walk_b (f t x y : Int) (F T : Nat) (w : World) (ht : Tab w) (h0 : 0 ≤ f ∧ f ≤ 65535) (h1 : 0 ≤ t ∧ t ≤ 65535) (h2 : 0 ≤ x ∧ x ≤ 65535) (h3 : 0 ≤ y ∧ y ≤ 65535) (hF : clamp f = F) (hT : tob f t = T) (hx : inn F T x = true) (hy : inn F T y = false) :
    Calls Tryd.prog 5 #[.int .u16 f, .int .u16 t, .int .u16 x, .int .u16 y] w fun e w' => e = .returned (.bool true) ∧ Below w.heap.size w w' := by
  have HT := hide ht
  have v0 : IntKind.i64.wrap f = f := wrap_i64_id _ (by omega)
  have v1 : IntKind.i64.wrap t = t := wrap_i64_id _ (by omega)
  have v2 : IntKind.i64.wrap x = x := wrap_i64_id _ (by omega)
  have v3 : IntKind.i64.wrap y = y := wrap_i64_id _ (by omega)
  have v4 : IntKind.i64.wrap (x - y) = x - y := wrap_i64_id _ (by omega)
  have v5 : IntKind.i64.wrap (y - x) = y - x := wrap_i64_id _ (by omega)
  clear ht h0 h1 h2 h3
  go_enter Tryd.func5, Tryd.ntmps5
  go_wp2_with fail
  refine (awake_any _ HT.out).mono ?_
  rintro e wa ⟨rfl, ca⟩
  go_wp2_with fail
  refine (tb_new f t _ hF hT).mono ?_
  rintro e w1 ⟨p, m, g, rfl, ha, hp, hm, hg, c1⟩
  go_wp2_with fail
  refine (tb_new f t _ hF hT).mono ?_
  rintro e w2 ⟨q, k, h, rfl, hb, hq, hk, hh, c2⟩
  have tw := Two.mk2 (ca.trans c1) ha (Nat.le_trans ca.size hg) c2 hb hq hk hh
  clear ca c1 c2 ha hb hp hm hg hq hk hh
  go_wp2_with fail
  refine (tb_touch tw.a x (c := true) (T := (upd no (cd F x) true)) (by rw [isnew_no, hx]) (tset_on hx)).mono ?_
  rintro e w3 ⟨rfl, h', c'⟩
  replace tw := tw.setA h' c'
  clear h' c'
  go_wp2_with fail
  refine (tb_touch tw.b y (c := false) (T := no) (by rw [isnew_no, hy]) (tset_off hy)).mono ?_
  rintro e w4 ⟨rfl, h', c'⟩
  replace tw := tw.setB h' c'
  clear h' c'
  go_wp2_with fail
  refine (tb_dirty tw.a y (c := false) (isd_off hy)).mono ?_
  rintro e w5 ⟨rfl, c'⟩
  replace tw := tw.grow c'
  clear c'
  go_wp2_with fail
  refine (tb_dirty tw.a x (c := true) (by rw [isd_on hx, upd_at])).mono ?_
  rintro e w7 ⟨rfl, c'⟩
  replace tw := tw.grow c'
  clear c'
  go_wp2_with fail
  refine (tb_touch tw.a x (c := false) (T := upd no (cd F x) true) (by rw [isnew_on hx, upd_at]; rfl) (by rw [tset_on hx, upd_upd])).mono ?_
  rintro e w8 ⟨rfl, h', c'⟩
  replace tw := tw.setA h' c'
  clear h' c'
  go_wp2_with fail
  refine (tb_all tw.a (HT.out.chg tw.cc id) (cds_one (nc_lt hx))).mono ?_
  rintro e w9 ⟨v, rfl, hown, c'⟩
  have cc := tw.cc.trans c'
  obtain ⟨oa, ocap, rfl⟩ := own_len hown
  clear c' hown tw
  go_wp2
  go_ret
  exact ⟨rfl, cc.below (fun _ _ h => h) (Nat.le_refl _)⟩
set_option maxHeartbeats 4000000 in
set_option maxRecDepth 100000 in
theorem walk_c (f t x y : Int) (F T : Nat) (w : World) (ht : Tab w) (h0 : 0 ≤ f ∧ f ≤ 65535) (h1 : 0 ≤ t ∧ t ≤ 65535) (h2 : 0 ≤ x ∧ x ≤ 65535) (h3 : 0 ≤ y ∧ y ≤ 65535) (hF : clamp f = F) (hT : tob f t = T) (hx : inn F T x = true) (hy : inn F T y = true) (hc : cd F x = cd F y) :
    Calls Tryd.prog 5 #[.int .u16 f, .int .u16 t, .int .u16 x, .int .u16 y] w fun e w' => e = .returned (.bool true) ∧ Below w.heap.size w w' := by
  obtain ⟨n1, n2⟩ := cd_near hx hy hc
  have q1 : decide (x - y ≥ 16) = false := by simp; omega
  have q2 : decide (y - x ≥ 16) = false := by simp; omega
  have HT := hide ht
  have v0 : IntKind.i64.wrap f = f := wrap_i64_id _ (by omega)
  have v1 : IntKind.i64.wrap t = t := wrap_i64_id _ (by omega)
  have v2 : IntKind.i64.wrap x = x := wrap_i64_id _ (by omega)
  have v3 : IntKind.i64.wrap y = y := wrap_i64_id _ (by omega)
  have v4 : IntKind.i64.wrap (x - y) = x - y := wrap_i64_id _ (by omega)
  have v5 : IntKind.i64.wrap (y - x) = y - x := wrap_i64_id _ (by omega)
  clear ht h0 h1 h2 h3
  go_enter Tryd.func5, Tryd.ntmps5
  go_wp2_with fail
  refine (awake_any _ HT.out).mono ?_
  rintro e wa ⟨rfl, ca⟩
  go_wp2_with fail
  refine (tb_new f t _ hF hT).mono ?_
  rintro e w1 ⟨p, m, g, rfl, ha, hp, hm, hg, c1⟩
  go_wp2_with fail
  refine (tb_new f t _ hF hT).mono ?_
  rintro e w2 ⟨q, k, h, rfl, hb, hq, hk, hh, c2⟩
  have tw := Two.mk2 (ca.trans c1) ha (Nat.le_trans ca.size hg) c2 hb hq hk hh
  clear ca c1 c2 ha hb hp hm hg hq hk hh
  go_wp2_with fail
  refine (tb_touch tw.a x (c := true) (T := (upd no (cd F x) true)) (by rw [isnew_no, hx]) (tset_on hx)).mono ?_
  rintro e w3 ⟨rfl, h', c'⟩
  replace tw := tw.setA h' c'
  clear h' c'
  go_wp2_with fail
  refine (tb_touch tw.b y (c := true) (T := (upd no (cd F y) true)) (by rw [isnew_no, hy]) (tset_on hy)).mono ?_
  rintro e w4 ⟨rfl, h', c'⟩
  replace tw := tw.setB h' c'
  clear h' c'
  go_wp2_with fail
  refine (tb_dirty tw.a y (c := true) (by rw [isd_on hy, ← hc, upd_at])).mono ?_
  rintro e w5 ⟨rfl, c'⟩
  replace tw := tw.grow c'
  clear c'
  clear n1 n2
  go_wp2_with fail
  refine (tb_dirty tw.b x (c := true) (by rw [isd_on hx, hc, upd_at])).mono ?_
  rintro e w6 ⟨rfl, c'⟩
  replace tw := tw.grow c'
  clear c'
  go_wp2_with fail
  refine (tb_dirty tw.a x (c := true) (by rw [isd_on hx, upd_at])).mono ?_
  rintro e w7 ⟨rfl, c'⟩
  replace tw := tw.grow c'
  clear c'
  go_wp2_with fail
  refine (tb_touch tw.a x (c := false) (T := upd no (cd F x) true) (by rw [isnew_on hx, upd_at]; rfl) (by rw [tset_on hx, upd_upd])).mono ?_
  rintro e w8 ⟨rfl, h', c'⟩
  replace tw := tw.setA h' c'
  clear h' c'
  go_wp2_with fail
  refine (tb_all tw.a (HT.out.chg tw.cc id) (cds_one (nc_lt hx))).mono ?_
  rintro e w9 ⟨v, rfl, hown, c'⟩
  have cc := tw.cc.trans c'
  obtain ⟨oa, ocap, rfl⟩ := own_len hown
  clear c' hown tw
  go_wp2
  go_ret
  exact ⟨rfl, cc.below (fun _ _ h => h) (Nat.le_refl _)⟩
set_option maxHeartbeats 4000000 in
set_option maxRecDepth 100000 in
theorem walk_d (f t x y : Int) (F T : Nat) (w : World) (ht : Tab w) (h0 : 0 ≤ f ∧ f ≤ 65535) (h1 : 0 ≤ t ∧ t ≤ 65535) (h2 : 0 ≤ x ∧ x ≤ 65535) (h3 : 0 ≤ y ∧ y ≤ 65535) (hF : clamp f = F) (hT : tob f t = T) (hx : inn F T x = true) (hy : inn F T y = true) (hc : ¬ cd F x = cd F y) :
    Calls Tryd.prog 5 #[.int .u16 f, .int .u16 t, .int .u16 x, .int .u16 y] w fun e w' => e = .returned (.bool true) ∧ Below w.heap.size w w' := by
  have HT := hide ht
  have v0 : IntKind.i64.wrap f = f := wrap_i64_id _ (by omega)
  have v1 : IntKind.i64.wrap t = t := wrap_i64_id _ (by omega)
  have v2 : IntKind.i64.wrap x = x := wrap_i64_id _ (by omega)
  have v3 : IntKind.i64.wrap y = y := wrap_i64_id _ (by omega)
  have v4 : IntKind.i64.wrap (x - y) = x - y := wrap_i64_id _ (by omega)
  have v5 : IntKind.i64.wrap (y - x) = y - x := wrap_i64_id _ (by omega)
  clear ht h0 h1 h2 h3
  go_enter Tryd.func5, Tryd.ntmps5
  go_wp2_with fail
  refine (awake_any _ HT.out).mono ?_
  rintro e wa ⟨rfl, ca⟩
  go_wp2_with fail
  refine (tb_new f t _ hF hT).mono ?_
  rintro e w1 ⟨p, m, g, rfl, ha, hp, hm, hg, c1⟩
  go_wp2_with fail
  refine (tb_new f t _ hF hT).mono ?_
  rintro e w2 ⟨q, k, h, rfl, hb, hq, hk, hh, c2⟩
  have tw := Two.mk2 (ca.trans c1) ha (Nat.le_trans ca.size hg) c2 hb hq hk hh
  clear ca c1 c2 ha hb hp hm hg hq hk hh
  go_wp2_with fail
  refine (tb_touch tw.a x (c := true) (T := (upd no (cd F x) true)) (by rw [isnew_no, hx]) (tset_on hx)).mono ?_
  rintro e w3 ⟨rfl, h', c'⟩
  replace tw := tw.setA h' c'
  clear h' c'
  go_wp2_with fail
  refine (tb_touch tw.b y (c := true) (T := (upd no (cd F y) true)) (by rw [isnew_no, hy]) (tset_on hy)).mono ?_
  rintro e w4 ⟨rfl, h', c'⟩
  replace tw := tw.setB h' c'
  clear h' c'
  go_wp2_with fail
  refine (tb_dirty tw.a y (c := false) (by rw [isd_on hy, upd_ne (Ne.symm hc)])).mono ?_
  rintro e w5 ⟨rfl, c'⟩
  replace tw := tw.grow c'
  clear c'
  go_wp2_with fail
  refine (tb_dirty tw.b x (c := false) (by rw [isd_on hx, upd_ne hc])).mono ?_
  rintro e w6 ⟨rfl, c'⟩
  replace tw := tw.grow c'
  clear c'
  go_wp2_with fail
  refine (tb_dirty tw.a x (c := true) (by rw [isd_on hx, upd_at])).mono ?_
  rintro e w7 ⟨rfl, c'⟩
  replace tw := tw.grow c'
  clear c'
  go_wp2_with fail
  refine (tb_touch tw.a x (c := false) (T := upd no (cd F x) true) (by rw [isnew_on hx, upd_at]; rfl) (by rw [tset_on hx, upd_upd])).mono ?_
  rintro e w8 ⟨rfl, h', c'⟩
  replace tw := tw.setA h' c'
  clear h' c'
  go_wp2_with fail
  refine (tb_all tw.a (HT.out.chg tw.cc id) (cds_one (nc_lt hx))).mono ?_
  rintro e w9 ⟨v, rfl, hown, c'⟩
  have cc := tw.cc.trans c'
  obtain ⟨oa, ocap, rfl⟩ := own_len hown
  clear c' hown tw
  go_wp2
  go_ret
  exact ⟨rfl, cc.below (fun _ _ h => h) (Nat.le_refl _)⟩
theorem walk (f t x y : Int) (w : World) (ht : Tab w) (w0 : (Lit.int .u16 f).wf = true) (w1 : (Lit.int .u16 t).wf = true) (w2 : (Lit.int .u16 x).wf = true) (w3 : (Lit.int .u16 y).wf = true) :
    Calls Tryd.prog 5 #[.int .u16 f, .int .u16 t, .int .u16 x, .int .u16 y] w fun e w' => e = .returned (.bool true) ∧ Below w.heap.size w w' := by
  replace w0 := bounds_u16 w0
  replace w1 := bounds_u16 w1
  replace w2 := bounds_u16 w2
  replace w3 := bounds_u16 w3
  cases hx : inn (clamp f) (tob f t) x with
  | false => exact walk_a f t x y _ _ w ht w0 w1 w2 w3 rfl rfl hx
  | true =>
    cases hy : inn (clamp f) (tob f t) y with
    | false => exact walk_b f t x y _ _ w ht w0 w1 w2 w3 rfl rfl hx hy
    | true =>
      by_cases hc : cd (clamp f) x = cd (clamp f) y
      · exact walk_c f t x y _ _ w ht w0 w1 w2 w3 rfl rfl hx hy hc
      · exact walk_d f t x y _ _ w ht w0 w1 w2 w3 rfl rfl hx hy hc


theorem own : ownKnob Tryd.prog.godebug = none := by kernel_rfl
theorem laidOut : laidOutB Tryd.prog = true := by kernel_rfl
theorem door_met (os : Os) (args : Array Value) : laidMetH Tryd.prog Rows.cardNearRow.laid ((World.doorLaid Tryd.prog 400 os).forCall (fun _ _ => 0) ⟨#[], args, []⟩).memory :=
  laidMetH_of_parts3 (fuel := 8) (laidMet_of_run' 8 (by kernel_rfl) (by kernel_rfl)) (by kernel_rfl) (by kernel_rfl)

set_option maxRecDepth 100000 in
theorem lifted (os : Os) (started : os.Started) (H : Type) (enc : TypeId × Value → H) :
    ReturnsInHanded {} Tryd.checked os 5 .any (fun w args => (Rows.cardNearSpec.pre enc Tryd.prog Tryd.f5 [] false w args ∧ laidMetH Tryd.prog Rows.cardNearRow.laid w) ∧ sizedMet enc Tryd.prog Tryd.f5 (OpenSpec.ofChange Rows.cardNearSpec) false w args) (Rows.cardNearSpec.post enc Tryd.prog Tryd.f5 false true false false) := by
  refine returnsInHanded_of_change_and (C := Tryd.checked) (X := fun w _ => laidMetH Tryd.prog Rows.cardNearRow.laid w) (fun _ _ _ hh h => h.of_heap hh) own started (by kernel_rfl) Tryd.func5
    (ChangeSpec.witness_shaped (enc := enc) (C := Tryd.checked) (os := os) (X := fun w _ => laidMetH Tryd.prog Rows.cardNearRow.laid w) false (World.doorLaid Tryd.prog 400 os) #[.int .u16 0, .int .u16 0, .int .u16 0, .int .u16 0] 8 rfl (World.shaped_of_RefB (by kernel_rfl) (by kernel_rfl)) (by kernel_rfl) (by kernel_rfl) (by kernel_rfl) (door_met os _)) ?_
  intro W base args ds gs before hval0 hW _ _ hL _
  have hval : ∀ (j : Nat) t v, Tryd.f5.params[j]? = some t → args[j]? = some v → Value.okWide Tryd.prog W .any base t v := hval0
  have hW' := hW
  obtain ⟨p, q, hA0, hV, rfl, hfz, hnd⟩ := hW
  have hA : DataW.TrodAll enc Tryd.prog W 0 (fun _ => true) true Tryd.f5.params.toList args.toList ds p := hA0
  rw [Tryd.params5] at hA hval
  obtain ⟨v0, vs0, d0, ds0, p0, q0, hargs, rfl, rfl, h0, r0⟩ := trodAll_cons hA
  obtain ⟨v1, vs1, d1, ds1, p1, q1, rfl, rfl, rfl, h1, r1⟩ := trodAll_cons r0
  obtain ⟨v2, vs2, d2, ds2, p2, q2, rfl, rfl, rfl, h2, r2⟩ := trodAll_cons r1
  obtain ⟨v3, vs3, d3, ds3, p3, q3, rfl, rfl, rfl, h3, r3⟩ := trodAll_cons r2
  obtain ⟨rfl, rfl, rfl⟩ := trodAll_nil r3
  obtain rfl : args = #[v0, v1, v2, v3] := by cases args; simp_all
  obtain ⟨rfl, rfl⟩ := trodVars_none hV
  obtain ⟨a0, rfl, rfl, rfl, w0⟩ := open_int Tryd.underlying39 (hval 0 39 v0 rfl rfl) h0
  obtain ⟨a1, rfl, rfl, rfl, w1⟩ := open_int Tryd.underlying39 (hval 1 39 v1 rfl rfl) h1
  obtain ⟨a2, rfl, rfl, rfl, w2⟩ := open_int Tryd.underlying39 (hval 2 39 v2 rfl rfl) h2
  obtain ⟨a3, rfl, rfl, rfl, w3⟩ := open_int Tryd.underlying39 (hval 3 39 v3 rfl rfl) h3
  clear hA0 hval0
  refine (walk a0 a1 a2 a3 W (tab_of_laid hL) w0 w1 w2 w3).mono fun e W' ⟨he, bel⟩ => ?_
  subst he
  exact ⟨_, rfl, _, _, _, [], _, [], hW', trodAll_mk1 (shut_bool Tryd.underlying4 _), (trodAll_cons_mk (shut_int Tryd.underlying39 w0) (trodAll_cons_mk (shut_int Tryd.underlying39 w1) (trodAll_cons_mk (shut_int Tryd.underlying39 w2) (trodAll_cons_mk (shut_int Tryd.underlying39 w3) trodAll_mk0)))), rfl, bel.frame _, fun h => by cases h⟩

theorem over : Rows.cardNearRow.holds Tryd.pinned (OpenSpec.ofChange Rows.cardNearSpec) :=
  OpenClaim.holds_of_wide 5 Tryd.f5 rfl rfl rfl rfl rfl rfl rfl ⟨rfl, rfl, rfl, rfl, rfl⟩ rfl rfl rfl rfl rfl (by kernel_rfl) Tryd.func5 (by kernel_rfl)
    (of_decide_eq_true (by kernel_rfl)) (by unfold Func.isWrapper; first | (rw [if_pos (by decide +kernel)]; kernel_rfl) | (rw [if_neg (by decide +kernel)]; exact ⟨rfl, rfl⟩))
    (fun os started H enc _ => lifted os started H enc)

/-- The statement. -/
theorem proved : Rows.CardNearCardSaid :=
  Claim7.holds_tied_plain_at .later [] [.data] true Rows.cardNearCard.stood.harness false
    over (fun _ h => by cases h) (by kernel_rfl) (fun _ h => by cases h) cardNear_row_tie rfl ⟨rfl, rfl⟩ (by kernel_rfl) rfl
    (fun f fn hf hfn => by
      obtain rfl : f = 5 := Option.some.inj ((show Tryd.prog.funcNamed "gleaning/gleaninglaw07.CardNear" = some 5 by kernel_rfl).symm.trans hf) |>.symm
      obtain rfl : fn = Tryd.f5 := (Option.some.inj (Tryd.func5.symm.trans hfn)).symm
      exact ⟨by kernel_rfl, fun j t ht => by
        rw [Tryd.params5] at ht
        have hm : t ∈ [39, 39, 39, 39] := by simpa using Array.mem_of_getElem? ht
        have hall : ([39, 39, 39, 39].all fun u => !Tryd.prog.wantsStandIn u) = true := by kernel_rfl
        exact (show Tryd.prog.wantsStandIn t = false by simpa using List.all_eq_true.1 hall t hm)⟩)
    (by kernel_rfl)
#print axioms proved
end Go.Proofs.YtbigdgabjjpffaaDoor.cardNear


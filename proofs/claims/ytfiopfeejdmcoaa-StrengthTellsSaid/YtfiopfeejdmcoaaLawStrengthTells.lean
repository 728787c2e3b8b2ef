/- For all worlds, roots and levels StrengthTells answers true: what is reached within any level, and each node's strength, are the document's. Conditions: none. -/
import Derived.Test.YtfiopfeejdmcoaaL10E
namespace Go.Proofs.Ytfiopfeejdmcoaa.strengthTells
open Go.ChangeShapes Go.WideShapes Go.ChangeAt Go.RowKit Go.Proofs.Ytfiopfeejdmcoaa.L10
open Go.Proofs.Ytfiopfeejdmcoaa.L9 (Nd nd GS RG Rf Lok In64 Srt nd_some nd_none nd_mem own_rd own_cast ptr newX_rt)
open Go.Proofs.Ytfiopfeejdmcoaa.L5 (Cl clAt isRf IsCls newX)
set_option linter.unusedVariables false
section
variable {w : World} {u : Wo} {cs : List Cl} {ns : List Int} {ts : List Tr} {a1 : Option Addr} {len1 cap1 : Nat} {zs : List Int} {lev : Int}
set_option maxRecDepth 100000 in
set_option maxHeartbeats 2000000 in
theorem walk_no (h0 : IsWo w u cs ns ts) (h1 : IsRow .i64 w a1 len1 cap1 zs) (hg : ¬ good u cs ∨ (good u cs ∧ 40 < len1)) :
    Calls Try.prog 3 #[Wo.v u, .slice a1 len1 cap1, .int .i64 lev] w fun e w' => e = .returned (.bool true) ∧ Below w.heap.size w w' := by
  rcases hg with hg | hg
  · skip
    obtain ⟨ca, cl, cc, na, nl, nc, ra, rl, rc⟩ := u
    have hbx := Blk.new w 26 [.slice ca cl cc, .slice na nl nc, .slice ra rl rc]
    have gB := Grow.box w (.cells [.slice ca cl cc, .slice na nl nc, .slice ra rl rc].toArray 26)
    have HWO := hide (h0.chg gB fun _ _ => id)
    have HRW := hide h1
    have HBX := hide hbx
    clear h0 h1 hbx
    have HM := hide (made_no HWO.out hg)
    clear hg HWO HRW HBX
    go_enter Try.func3, Try.ntmps3
    go_wp2_with fail
    refine HM.out.mono ?_
    rintro e w3 ⟨rfl, c3⟩
    have HG := hide (gB.trans c3)
    clear gB c3 HM
    go_wp2_with fail
    refine (awake_any _).mono ?_
    rintro e w4 ⟨rfl, c4⟩
    have HG4 := hide (HG.out.trans c4)
    clear c4
    go_wp2_with fail
    refine (awake_any _).mono ?_
    rintro e w5 ⟨rfl, c5⟩
    have HG5 := hide (HG4.out.trans c5)
    clear c5
    go_wp2
    go_ret
    exact ⟨rfl, HG5.out.below (fun _ _ h => h) (Nat.le_refl _)⟩
  · obtain ⟨hg, hlen⟩ := hg
    obtain ⟨ca, cl, cc, na, nl, nc, ra, rl, rc⟩ := u
    have hbx := Blk.new w 26 [.slice ca cl cc, .slice na nl nc, .slice ra rl rc]
    have gB := Grow.box w (.cells [.slice ca cl cc, .slice na nl nc, .slice ra rl rc].toArray 26)
    have HWO := hide (h0.chg gB fun _ _ => id)
    have HRW := hide h1
    have HBX := hide hbx
    clear h0 h1 hbx
    have HM := hide (made_yes HWO.out hg)
    have q1 : decide ((len1 : Int) > 40) = true := by simp; omega
    clear hg HWO HRW HBX hlen
    go_enter Try.func3, Try.ntmps3
    go_wp2_with fail
    refine HM.out.mono ?_
    rintro e w3 ⟨z, p, q, L, rfl, -, -, -, -, c3⟩
    have HG := hide (gB.trans c3)
    clear gB c3 HM
    go_wp2_with fail
    refine (awake_any _).mono ?_
    rintro e w4 ⟨rfl, c4⟩
    have HG4 := hide (HG.out.trans c4)
    clear c4
    go_wp2_with fail
    refine (awake_any _).mono ?_
    rintro e w5 ⟨rfl, c5⟩
    have HG5 := hide (HG4.out.trans c5)
    clear c5
    go_wp2
    go_ret
    exact ⟨rfl, HG5.out.below (fun _ _ h => h) (Nat.le_refl _)⟩
set_option maxRecDepth 100000 in
set_option maxHeartbeats 4000000 in
theorem walk_main (h0 : IsWo w u cs ns ts) (h1 : IsRow .i64 w a1 len1 cap1 zs) (hg : good u cs) (hle : len1 ≤ 40) :
    Calls Try.prog 3 #[Wo.v u, .slice a1 len1 cap1, .int .i64 lev] w fun e w' => e = .returned (.bool true) ∧ Below w.heap.size w w' := by
  obtain ⟨ca, cl, cc, na, nl, nc, ra, rl, rc⟩ := u
  have hbx := Blk.new w 26 [.slice ca cl cc, .slice na nl nc, .slice ra rl rc]
  have gB := Grow.box w (.cells [.slice ca cl cc, .slice na nl nc, .slice ra rl rc].toArray 26)
  have HWO := hide (h0.chg gB fun _ _ => id)
  have HRW := hide h1
  have HBX := hide hbx
  clear h0 h1 hbx
  have HM := hide (made_yes HWO.out hg)
  have q1 : decide ((len1 : Int) > 40) = false := by simp; omega
  have HGD := hide (show nl ≤ 40 ∧ newX cs = 0 ∧ cl ≤ 63 from ⟨hg.1.1, hg.2.2, hg.2.1.2⟩)
  have HLE := hide hle
  clear hg hle
  go_enter Try.func3, Try.ntmps3
  go_wp2_with fail
  refine HM.out.mono ?_
  rintro e w3 ⟨z, p, q, L, rfl, hbo, hids, hrv, -, c3⟩
  obtain ⟨S, T, hgs, hrg, hap⟩ := hbo
  obtain ⟨b, hb⟩ : ∃ b, w.heap.size = b := ⟨_, rfl⟩
  have hst : St w w3 b z p q S T ca cl cc na nl nc ra rl rc cs L a1 len1 cap1 zs := ⟨gB.trans c3, hgs, ⟨hrg, HWO.out.c.chg c3 fun _ _ => id, hgs.lok, (newX_rt HGD.out.2.1).1, by have := congrArg List.length hids; rw [List.length_map, nms_len] at this; have := HGD.out.1; omega, by have := HGD.out.2.2; omega⟩, hap, HRW.out.chg (gB.trans c3) fun _ _ => id, by rw [← hb]; exact HBX.out.chg c3 id, hids, HGD.out.1, hrv, HLE.out⟩
  rw [hb]
  clear gB c3 HM hids hrv hgs hrg hap HWO HRW HBX HGD HLE hb
  go_wp2_with fail
  refine (awake_any _).mono ?_
  rintro e w4 ⟨rfl, c4⟩
  have HST := hide (hst.grow c4)
  clear c4 hst
  obtain ⟨f, hf⟩ := ex_rc cs L lev (srcW L lev zs)
  obtain ⟨F, hF⟩ := ex_of cs L zs
  have hz := HST.out.z40
  have HA := hide (HST.out.within (c := cap1) lev HST.out.rd (by omega) HST.out.i64 hf)
  have HB := hide (fun (W : World) (g : Grow w4 W) => rwithin_any (c := cap1) (lev := lev) (HST.out.grow g).pg (HST.out.grow g).rd (by omega) hf)
  have HR := hide (fun (W : World) (g : Grow w4 W) => reach_any (c := cap1) (HST.out.grow g).gs HST.out.ll (HST.out.grow g).rd (by omega) HST.out.i64 (hF 1))
  have HRC := hide (fun (W : World) (g : Grow w4 W) => close_any (c := cap1) (lev := 1) (HST.out.grow g).pg (HST.out.grow g).rd (by omega) (hF 1))
  have HO := hide (fun (W : World) (g : Grow w4 W) (k : Nat) (hk : k ≤ 1000000) => (HST.out.grow g).of_ (c := cap1) (HST.out.grow g).rd (by omega) HST.out.i64 hF (in64_nat hk))
  have HOR := hide (fun (W : World) (g : Grow w4 W) (k : Nat) => rof_any (c := cap1) (i := (k : Int)) (HST.out.grow g).pg (HST.out.grow g).rd (by omega) hF)
  have HL1 := hide (HST.out.cl_in f).2
  have HL2 := hide (HST.out.cl_in (F 1)).2
  clear hf hF hz
  generalize clL L f = xs at *
  generalize clL L (F 1) = ys at *
  obtain ⟨n1, hn1⟩ : ∃ n1, xs.length = n1 := ⟨_, rfl⟩
  obtain ⟨n2, hn2⟩ : ∃ n2, ys.length = n2 := ⟨_, rfl⟩
  have HN1 := hide hn1
  have HN2 := hide hn2
  rw [hn1] at HA HB HL1
  rw [hn2] at HR HRC HL2
  clear hn1 hn2
  go_wp2_with fail
  refine HA.out.mono ?_
  rintro e w5 ⟨ha, hca, rfl, ho, c5⟩
  have HO1 := hide ho
  have HG5 := hide c5
  clear ho c5 HA
  go_wp2_with fail
  refine (HB.out _ HG5.out).mono ?_
  rintro e w6 ⟨hb, hcb, rfl, ho, c6⟩
  have HS1 := hide (And.intro (own_rd (own_cast (own_grow HO1.out c6) HN1.out)) (own_rd (own_cast ho HN1.out)))
  have HG6 := hide (HG5.out.trans c6)
  clear ho c6 HO1 HB HG5
  go_wp2_with fail
  refine (L1.same_yes _ _ _ _ _ _ _ HS1.out.1 HS1.out.2 (by have := HL1.out; omega)).mono ?_
  rintro e w7 ⟨rfl, c7⟩
  have HG7 := hide (HG6.out.trans c7)
  clear c7 HS1 HG6
  go_wp2_with fail
  refine (HR.out _ HG7.out).mono ?_
  rintro e w8 ⟨hc, hcc, rfl, ho, c8⟩
  have HO1 := hide ho
  have HG8 := hide (HG7.out.trans c8)
  clear ho c8 HR HG7
  go_wp2_with fail
  refine (HRC.out _ HG8.out).mono ?_
  rintro e w9 ⟨hd, hcd, rfl, ho, c9⟩
  have HS1 := hide (And.intro (own_rd (own_cast (own_grow HO1.out c9) HN2.out)) (own_rd (own_cast ho HN2.out)))
  have HG9 := hide (HG8.out.trans c9)
  clear ho c9 HO1 HRC HG8
  go_wp2_with fail
  refine (L1.same_yes _ _ _ _ _ _ _ HS1.out.1 HS1.out.2 (by have := HL2.out; omega)).mono ?_
  rintro e w10 ⟨rfl, c10⟩
  have HG := hide (HG9.out.trans c10)
  clear c10 HS1 HG9
  have k1 := HG.out.cell (HST.out.box.cell 1)
  have HN40 := hide HST.out.n40
  have hwn : IntKind.i64.wrap ((nl : Int) + 1) = ((nl + 1 : Nat) : Int) := (IntWalk.i64_in _ (by have := HN40.out; omega)).trans (by omega)
  go_wp2_with fail
  clear k1
  go_loopw [10] (fun v wr => ∃ k : Nat, k ≤ nl + 2 ∧ v = .int .i64 k ∧ Grow w4 wr) (fun v _ => nl + 2 - (Go.RowKit.intOf v).toNat)
  case atStart => exact ⟨0, Nat.zero_le _, rfl, HG.out⟩
  case round =>
    clear HG
    obtain ⟨k, hk, rfl, hg⟩ := hrel
    have k1 := hg.cell (HST.out.box.cell 1)
    rcases Nat.eq_or_lt_of_le hk with rfl | hlt
    · have q2 : decide (((nl + 2 : Nat) : Int) ≤ ((nl + 1 : Nat) : Int)) = false := decide_eq_false (by omega)
      have q3 : ¬ nl + 2 ≤ nl + 1 := by omega
      have HE := hide (HST.out.grow hg)
      clear hg hk
      go_wp2
      go_ret
      exact ⟨rfl, HE.out.end_⟩
    · have q2 : decide ((k : Int) ≤ ((nl + 1 : Nat) : Int)) = true := decide_eq_true (by omega)
      have q3 : k ≤ nl + 1 := by omega
      have hw : IntKind.i64.wrap ((k : Int) + 1) = ((k + 1 : Nat) : Int) := (IntWalk.i64_in _ (by have := HN40.out; omega)).trans (by omega)
      have HK := hide hlt
      have HC1 := hide (HO.out _ hg k (by have := HN40.out; omega))
      have HC2 := hide (fun W (g : Grow wr W) => HOR.out _ (hg.trans g) k)
      generalize ofX F (k : Int) = X at *
      have HGG := hide hg
      clear hg hk hlt
      go_wp2_with fail
      refine HC1.out.mono ?_
      rintro e w11 ⟨rfl, c11⟩
      have HX := hide c11
      clear c11
      go_wp2_with fail
      refine (HC2.out _ HX.out).mono ?_
      rintro e w12 ⟨rfl, c12⟩
      have q4 : (X != X) = false := bne_self_eq_false _
      have HY := hide (HGG.out.trans (HX.out.trans c12))
      clear c12 HX HGG HC1 HC2
      go_wp2
      go_roundw
      case rel => exact ⟨k + 1, HK.out, rfl, HY.out⟩
      case measure => have := HK.out; simp [Go.RowKit.intOf]; omega
theorem walk (u : Wo) (cs : List Cl) (ns : List Int) (ts : List Tr) (a1 : Option Addr) (len1 cap1 : Nat) (zs : List Int) (lev : Int) (w : World) (h0 : IsWo w u cs ns ts) (h1 : IsRow .i64 w a1 len1 cap1 zs) (h2 : (Lit.int .i64 lev).wf = true) :
    Calls Try.prog 3 #[Wo.v u, .slice a1 len1 cap1, .int .i64 lev] w fun e w' => e = .returned (.bool true) ∧ Below w.heap.size w w' := by
  by_cases hg : good u cs
  · by_cases hl : 40 < len1
    · exact walk_no h0 h1 (.inr ⟨hg, hl⟩)
    · exact walk_main h0 h1 hg (by omega)
  · exact walk_no h0 h1 (.inl hg)
end
theorem own : ownKnob Try.prog.godebug = none := by kernel_rfl
theorem laidOut : laidOutB Try.prog = true := by kernel_rfl

set_option maxRecDepth 100000 in
theorem lifted (os : Os) (started : os.Started) (H : Type) (enc : TypeId × Value → H) :
    ReturnsInHanded {} Try.checked os 3 .any (Rows.strengthTellsSpec.pre6 enc Try.prog Try.f3 Rows.strengthTellsRow.domain false) (Rows.strengthTellsSpec.post enc Try.prog Try.f3 false true false false) := by
  refine returnsInHanded_of_change (C := Try.checked) own started (by kernel_rfl) Try.func3
    (ChangeSpec.witness6 (enc := enc) (C := Try.checked) false ⟨#[], #[.agg #[.slice none 0 0, .slice none 0 0, .slice none 0 0], .slice none 0 0, .int .i64 0], []⟩ 8 (by kernel_rfl) (by kernel_rfl) (by kernel_rfl) (by kernel_rfl)) ?_
  intro W base args ds gs before hval0 hW hcnd _
  have hval : ∀ (j : Nat) t v, Try.f3.params[j]? = some t → args[j]? = some v → Value.okWide Try.prog W .any base t v := hval0
  have hW' := hW
  obtain ⟨p, q, hA0, hV, rfl, hfz, hnd⟩ := hW
  have hA : DataW.TrodAll enc Try.prog W 0 (fun _ => true) true Try.f3.params.toList args.toList ds p := hA0
  rw [Try.params3] at hA hval
  obtain ⟨v0, vs0, d0, ds0, p0, q0, hargs, rfl, rfl, h0, r0⟩ := trodAll_cons hA
  obtain ⟨v1, vs1, d1, ds1, p1, q1, rfl, rfl, rfl, h1, r1⟩ := trodAll_cons r0
  obtain ⟨v2, vs2, d2, ds2, p2, q2, rfl, rfl, rfl, h2, r2⟩ := trodAll_cons r1
  obtain ⟨rfl, rfl, rfl⟩ := trodAll_nil r2
  obtain rfl : args = #[v0, v1, v2] := by cases args; simp_all
  obtain ⟨rfl, rfl⟩ := trodVars_none hV
  have k0 := h0
  have lt0 : ∀ x ∈ p0, x.block < W.heap.size := by obtain ⟨m, hm⟩ := k0; exact DataW.trod_lt m _ _ _ hm
  obtain ⟨u0, cs0, ns0, ts0, rfl, w0⟩ := open_world (hval 0 26 v0 rfl rfl) h0
  obtain ⟨a1, len1, cap1, rfl⟩ := okWide_slice Try.underlying27 (hval 1 27 v1 rfl rfl)
  have k1 := h1
  have lt1 : ∀ x ∈ p1, x.block < W.heap.size := by obtain ⟨m, hm⟩ := k1; exact DataW.trod_lt m _ _ _ hm
  obtain ⟨z1, w1⟩ : ∃ zs, IsRow .i64 W a1 len1 cap1 zs := open_row Try.underlying27 Try.underlying3 (by kernel_rfl) h1
  obtain ⟨a2, rfl, rfl, rfl, w2⟩ := open_int Try.underlying3 (hval 2 3 v2 rfl rfl) h2
  clear hA0 hval0
  refine (walk u0 cs0 ns0 ts0 a1 len1 cap1 z1 a2 W w0 w1 w2).mono fun e W' ⟨he, bel⟩ => ?_
  subst he
  exact ⟨_, rfl, _, _, _, [], _, [], hW', trodAll_mk1 (shut_bool Try.underlying4 _), (trodAll_cons_mk (Below.trod laidOut (by kernel_rfl) (of_decide_eq_true (by kernel_rfl)) k0 bel lt0) (trodAll_cons_mk (Below.trod laidOut (by kernel_rfl) (of_decide_eq_true (by kernel_rfl)) k1 bel lt1) (trodAll_cons_mk (shut_int Try.underlying3 w2) trodAll_mk0))), rfl, bel.frame _, fun h => by cases h⟩

theorem over : Rows.strengthTellsRow.holds Try.pinned (OpenSpec.ofChange Rows.strengthTellsSpec) :=
  OpenClaim.holds_of_wide 3 Try.f3 rfl rfl rfl rfl rfl rfl rfl ⟨rfl, rfl, rfl, rfl, rfl⟩ rfl rfl rfl rfl rfl (by kernel_rfl) Try.func3 (by kernel_rfl)
    (of_decide_eq_true (by kernel_rfl)) (by unfold Func.isWrapper; first | (rw [if_pos (by decide +kernel)]; kernel_rfl) | (rw [if_neg (by decide +kernel)]; exact ⟨rfl, rfl⟩))
    (fun os started H enc _ => lifted os started H enc)

/-- The statement. -/
theorem proved : Rows.StrengthTellsSaid := over
#print axioms proved
end Go.Proofs.Ytfiopfeejdmcoaa.strengthTells


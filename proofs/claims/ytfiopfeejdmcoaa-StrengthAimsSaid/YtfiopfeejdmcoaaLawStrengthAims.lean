/- For all worlds and roots StrengthAims answers true: the aim of a reference node that is reached within the level of its kind is reached within that; without such nodes, and without final ones, what isn't Strong is Gone. Conditions: none. -/
import Derived.Test.YtfiopfeejdmcoaaL10E
namespace Go.Proofs.Ytfiopfeejdmcoaa.strengthAims
open Go.ChangeShapes Go.WideShapes Go.ChangeAt Go.RowKit Go.Proofs.Ytfiopfeejdmcoaa.L10
open Go.Proofs.Ytfiopfeejdmcoaa.L9 (Nd nd GS RG Rf Lok In64 Srt nd_some nd_none nd_mem own_rd own_cast ptr newX_rt hasB hldX aimX wpList_app)
open Go.Proofs.Ytfiopfeejdmcoaa.L5 (Cl clAt isRf IsCls newX)
set_option linter.unusedVariables false
section
variable {w : World} {u : Wo} {cs : List Cl} {ns : List Int} {ts : List Tr} {a1 : Option Addr} {len1 cap1 : Nat} {zs : List Int}
theorem has_n {W : World} {b n cap : Nat} {a : Option Addr} {xs : List Int} (h : OL W b (.slice a n cap) xs) (hn : xs.length = n) (hi : ∀ i ∈ xs, In64 i) (hl : xs.length ≤ 1000000) (y : Int) :
    Calls Try.prog 18 #[.slice a n cap, .int .i64 y] W fun e w' => e = .returned (.bool (hasB xs y)) ∧ Grow W w' := by
  subst hn
  exact has_ol h hi hl y
set_option maxRecDepth 100000 in
set_option maxHeartbeats 2000000 in
theorem walk_no (h0 : IsWo w u cs ns ts) (h1 : IsRow .i64 w a1 len1 cap1 zs) (hg : ¬ good u cs ∨ (good u cs ∧ 40 < len1)) :
    Calls Try.prog 5 #[Wo.v u, .slice a1 len1 cap1] w fun e w' => e = .returned (.bool true) ∧ Below w.heap.size w w' := by
  rcases hg with hg | hg
  · skip
    obtain ⟨ca, cl, cc, na, nl, nc, ra, rl, rc⟩ := u
    have hbx := Blk.new w 26 [.slice ca cl cc, .slice na nl nc, .slice ra rl rc]
    have gB := Grow.box w (.cells [.slice ca cl cc, .slice na nl nc, .slice ra rl rc].toArray 26)
    have HWO := hide (h0.chg gB fun _ _ => id)
    have HRW := hide h1
    have HBX := hide hbx
    clear h0 h1 hbx
    have HM := hide (made_no HWO.out hg)
    clear hg HWO HRW HBX
    go_enter Try.func5, Try.ntmps5
    go_wp2_with fail
    refine HM.out.mono ?_
    rintro e w3 ⟨rfl, c3⟩
    have HG := hide (gB.trans c3)
    clear gB c3 HM
    go_wp2_with fail
    refine (awake_any _).mono ?_
    rintro e w4 ⟨rfl, c4⟩
    have HG4 := hide (HG.out.trans c4)
    clear c4
    go_wp2_with fail
    refine (awake_any _).mono ?_
    rintro e w5 ⟨rfl, c5⟩
    have HG5 := hide (HG4.out.trans c5)
    clear c5
    go_wp2
    go_ret
    exact ⟨rfl, HG5.out.below (fun _ _ h => h) (Nat.le_refl _)⟩
  · obtain ⟨hg, hlen⟩ := hg
    obtain ⟨ca, cl, cc, na, nl, nc, ra, rl, rc⟩ := u
    have hbx := Blk.new w 26 [.slice ca cl cc, .slice na nl nc, .slice ra rl rc]
    have gB := Grow.box w (.cells [.slice ca cl cc, .slice na nl nc, .slice ra rl rc].toArray 26)
    have HWO := hide (h0.chg gB fun _ _ => id)
    have HRW := hide h1
    have HBX := hide hbx
    clear h0 h1 hbx
    have HM := hide (made_yes HWO.out hg)
    have q1 : decide ((len1 : Int) > 40) = true := by simp; omega
    clear hg HWO HRW HBX hlen
    go_enter Try.func5, Try.ntmps5
    go_wp2_with fail
    refine HM.out.mono ?_
    rintro e w3 ⟨z, p, q, L, rfl, -, -, -, -, c3⟩
    have HG := hide (gB.trans c3)
    clear gB c3 HM
    go_wp2_with fail
    refine (awake_any _).mono ?_
    rintro e w4 ⟨rfl, c4⟩
    have HG4 := hide (HG.out.trans c4)
    clear c4
    go_wp2_with fail
    refine (awake_any _).mono ?_
    rintro e w5 ⟨rfl, c5⟩
    have HG5 := hide (HG4.out.trans c5)
    clear c5
    go_wp2
    go_ret
    exact ⟨rfl, HG5.out.below (fun _ _ h => h) (Nat.le_refl _)⟩
set_option maxRecDepth 100000 in
set_option maxHeartbeats 8000000 in
theorem walk_main (h0 : IsWo w u cs ns ts) (h1 : IsRow .i64 w a1 len1 cap1 zs) (hg : good u cs) (hle : len1 ≤ 40) :
    Calls Try.prog 5 #[Wo.v u, .slice a1 len1 cap1] w fun e w' => e = .returned (.bool true) ∧ Below w.heap.size w w' := by
  obtain ⟨ca, cl, cc, na, nl, nc, ra, rl, rc⟩ := u
  have hbx := Blk.new w 26 [.slice ca cl cc, .slice na nl nc, .slice ra rl rc]
  have gB := Grow.box w (.cells [.slice ca cl cc, .slice na nl nc, .slice ra rl rc].toArray 26)
  have HWO := hide (h0.chg gB fun _ _ => id)
  have HRW := hide h1
  have HBX := hide hbx
  clear h0 h1 hbx
  have HM := hide (made_yes HWO.out hg)
  have q1 : decide ((len1 : Int) > 40) = false := by simp; omega
  have HGD := hide (show nl ≤ 40 ∧ newX cs = 0 ∧ cl ≤ 63 from ⟨hg.1.1, hg.2.2, hg.2.1.2⟩)
  have HLE := hide hle
  clear hg hle
  go_enter Try.func5, Try.ntmps5
  go_wp2_with fail
  refine HM.out.mono ?_
  rintro e w3 ⟨z, p, q, L, rfl, hbo, hids, hrv, -, c3⟩
  obtain ⟨S, T, hgs, hrg, hap⟩ := hbo
  obtain ⟨b, hb⟩ : ∃ b, w.heap.size = b := ⟨_, rfl⟩
  have hst : St w w3 b z p q S T ca cl cc na nl nc ra rl rc cs L a1 len1 cap1 zs := ⟨gB.trans c3, hgs, ⟨hrg, HWO.out.c.chg c3 fun _ _ => id, hgs.lok, (newX_rt HGD.out.2.1).1, by have := congrArg List.length hids; rw [List.length_map, nms_len] at this; have := HGD.out.1; omega, by have := HGD.out.2.2; omega⟩, hap, HRW.out.chg (gB.trans c3) fun _ _ => id, by rw [← hb]; exact HBX.out.chg c3 id, hids, HGD.out.1, hrv, HLE.out⟩
  rw [hb]
  clear gB c3 HM hids hrv hgs hrg hap HWO HRW HBX HGD HLE hb
  go_wp2_with fail
  refine (awake_any _).mono ?_
  rintro e w4 ⟨rfl, c4⟩
  have HST := hide (hst.grow c4)
  clear c4 hst

  obtain ⟨F, hF⟩ := ex_of cs L zs
  have hz := HST.out.z40
  have HF := hide hF
  have k1 := HST.out.box.cell 1
  clear hF
  go_wp2_with fail
  clear k1
  go_loopw [8, 9] (fun v u wr => ∃ (k : Nat) (pl : Bool), 1 ≤ k ∧ k ≤ nl + 1 ∧ v = .bool pl ∧ u = .int .i64 k ∧ Grow w4 wr ∧ (pl = true → ∀ j : Nat, 1 ≤ j → j < k → (aimX cs L (j : Int)).2 = 0 ∧ fnB L (j : Int) = false)) (fun _ u _ => nl + 2 - (Go.RowKit.intOf u).toNat)
  case atStart => exact ⟨1, true, Nat.le_refl _, by omega, rfl, rfl, Chg.refl _ _, fun _ j h1 h2 => by omega⟩
  case round =>
    obtain ⟨k, pl, hk1, hk, rfl, rfl, hg, hpl⟩ := hrel
    have k1 := hg.cell (HST.out.box.cell 1)
    rcases Nat.eq_or_lt_of_le hk with hke | hlt
    · have q2 : decide ((k : Int) ≤ (nl : Int)) = false := decide_eq_false (by omega)
      have q3 : ¬ k ≤ nl := by omega
      have HS5 := hide (HST.out.grow hg)
      have HPL := hide (fun (h : pl = true) => plain_one HF.out (fun i hn => by
        obtain ⟨j, rfl, h1, h2⟩ := HST.out.named hn
        exact (hpl h j h1 (by omega)).1) (List.eq_nil_iff_forall_not_mem.2 fun i hi => by
        obtain ⟨y, hy, hyf⟩ := (fins_mem HST.out.gs.srt).1 hi
        obtain ⟨j, rfl, h1, h2⟩ := HST.out.named (show nd L i ≠ none by rw [hy]; simp)
        have := (hpl h j h1 (by omega)).2
        unfold fnB at this
        rw [hy] at this
        have h9 : y.fin = false := this
        rw [hyf] at h9
        cases h9))
      have HGR := hide hg
      clear hpl hg hk hk1 hke
      go_wp2_with fail
      clear k1 q2 q3
      go_loopw [17] (fun v wr => ∃ k : Nat, 1 ≤ k ∧ k ≤ nl + 1 ∧ v = .int .i64 k ∧ Grow w4 wr) (fun v _ => nl + 2 - (Go.RowKit.intOf v).toNat)
      case atStart => exact ⟨1, Nat.le_refl _, by omega, rfl, HGR.out⟩
      case round =>
        obtain ⟨k, hk1, hk, rfl, hg⟩ := hrel
        have k1 := hg.cell (HST.out.box.cell 1)
        have HS6 := hide (HST.out.grow hg)
        rcases Nat.eq_or_lt_of_le hk with hke | hlt
        · as_aux_lemma =>
          subst hke
          have q2 : decide (((nl + 1 : Nat) : Int) ≤ (nl : Int)) = false := decide_eq_false (by omega)
          have q3 : ¬ nl + 1 ≤ nl := by omega
          clear hg hk hk1
          go_wp2
          go_ret
          exact ⟨rfl, HS6.out.end_⟩
        · have q2 : decide ((k : Int) ≤ (nl : Int)) = true := decide_eq_true (by omega)
          have q3 : k ≤ nl := by omega
          cases pl with
          | false =>
            as_aux_lemma =>
            clear hg hk hk1 hlt
            go_wp2
            go_ret
            exact ⟨rfl, HS6.out.end_⟩
          | true =>
            have hN40 := HST.out.n40
            have hw : IntKind.i64.wrap ((k : Int) + 1) = ((k + 1 : Nat) : Int) := (IntWalk.i64_in _ (by omega)).trans (by omega)
            have HK := hide (And.intro hk1 hlt)
            have HC := hide (HS6.out.of_ (c := cap1) HS6.out.rd (by omega) HS6.out.i64 HF.out (in64_nat (by omega) : In64 (k : Int)))
            have HGR2 := hide hg
            rcases HPL.out rfl (k : Int) with hX | hX
            · skip
              rw [hX] at HC
              clear hg hk hk1 hlt hX hN40
              go_wp2_with fail
              refine HC.out.mono ?_
              rintro e w7 ⟨rfl, c7⟩
              have HY := hide (HGR2.out.trans c7)
              clear c7 k1
              go_wp2
              go_roundw
              case rel => exact ⟨k + 1, by omega, by have := HK.out; omega, rfl, HY.out⟩
              case measure => have := HK.out; simp [Go.RowKit.intOf]; omega
            · skip
              rw [hX] at HC
              clear hg hk hk1 hlt hX hN40
              go_wp2_with fail
              refine HC.out.mono ?_
              rintro e w7 ⟨rfl, c7⟩
              have HY := hide (HGR2.out.trans c7)
              clear c7 k1
              go_wp2
              go_roundw
              case rel => exact ⟨k + 1, by omega, by have := HK.out; omega, rfl, HY.out⟩
              case measure => have := HK.out; simp [Go.RowKit.intOf]; omega
    · have q2 : decide ((k : Int) ≤ (nl : Int)) = true := decide_eq_true (by omega)
      have q3 : k ≤ nl := by omega
      have hN40 := HST.out.n40
      have hw : IntKind.i64.wrap ((k : Int) + 1) = ((k + 1 : Nat) : Int) := (IntWalk.i64_in _ (by omega)).trans (by omega)
      have HK := hide (And.intro hk1 hlt)
      have hs5 := HST.out.grow hg
      have hki : In64 (k : Int) := in64_nat (by omega)
      obtain ⟨x, hx, hxi⟩ := hs5.at_ hk1 (by omega)
      have hxm := (nd_some hx).1
      have HND := hide (L9.node_yes hs5.gs hki hx)
      have HAI := hide (fun W (g : Grow wr W) => L9.aim_gs (hs5.grow g).gs hki)
      have HOF := hide (fun W (g : Grow wr W) (i : Int) (hi : In64 i) => (hs5.grow g).of_ (c := cap1) (hs5.grow g).rd (by omega) hs5.i64 HF.out hi)
      have HKI := hide hki
      have HKD := hide (aim_kind (cs := cs) (L := L) (k : Int))
      have HFN := hide (show fnB L (k : Int) = x.fin by unfold fnB; rw [hx])
      have HPL := hide hpl
      obtain ⟨⟨to, kd⟩, hax⟩ : ∃ pr : Int × Int, aimX cs L (k : Int) = pr := ⟨_, rfl⟩
      have HK0 := hide (show kd = 0 → to = 0 from fun h => by
        have e := hax
        simp only [aimX, hx] at e
        split at e
        · rename_i hr
          injection e with e1 e2
          rw [h] at e2
          rw [e2] at hr
          cases hr
        · injection e with e1 e2; exact e1.symm)
      have HTO := hide (show to ≠ 0 → In64 to ∧ nd L to ≠ none from fun h => by
        have hm : to ∈ x.refs := by have := aim_mem (cs := cs) hx (by rw [hax]; exact h); rwa [hax] at this
        exact ⟨(hs5.gs.ok hxm).rw_ to hm, hs5.ref hxm hm h⟩)
      have HAX := hide hax
      have HAM := hide (fun (l : Int) (h1 : 1 ≤ l) (h5 : l ≤ 5) (hb : ldB kd l = true) (ht : to ≠ 0) (hi : ofX F (k : Int) ≠ 0 ∧ ofX F (k : Int) ≤ l) => (show ofX F to ≠ 0 ∧ ofX F to ≤ l from by
        have := aims HF.out h1 h5 (by rw [hax]; exact hb) (by rw [hax]; exact (HTO.out ht).2) hi
        rwa [hax] at this))
      rw [hax] at HAI HKD
      have HGR := hide hg
      have HX0 := hide (HOF.out)
      clear hpl hg hk hk1 hlt hs5 hki hx hxi hxm hax hN40
      go_wp2_with fail
      refine HND.out.mono ?_
      rintro e w8 ⟨ar, cr, ad, cd, rfl, -, c8⟩
      have gc := c8.alloc (.cells #[.int .i64 x.id, .int .i64 x.c, .slice ar x.refs.length cr, .slice ad x.data.length cd, .bool x.fin] 43)
      have hxb := (Blk.new w8 43 [.int .i64 x.id, .int .i64 x.c, .slice ar x.refs.length cr, .slice ad x.data.length cd, .bool x.fin]).cell 4
      have HXB := hide hxb
      have HG8 := hide gc
      clear c8 gc hxb HND k1
      go_wp2_with fail
      refine (HAI.out _ HG8.out).mono ?_
      rintro e w9 ⟨rfl, c9⟩
      dsimp only
      have x4 := c9.cell HXB.out
      have HG9 := hide (HG8.out.trans c9)
      have HXO := hide (HOF.out _ (HG8.out.trans c9) (k : Int) HKI.out)
      obtain ⟨X, hX⟩ : ∃ X, ofX F (k : Int) = X := ⟨_, rfl⟩
      rw [hX] at HXO HAM
      clear c9 HXB HAI hX
      have HREL := hide (show ∀ pl' : Bool, (pl' = true → pl = true ∧ kd = 0 ∧ x.fin = false) → (pl' = true → ∀ j : Nat, 1 ≤ j → j < k + 1 → (aimX cs L (j : Int)).2 = 0 ∧ fnB L (j : Int) = false) from fun pl' h hp j h1 h2 => by
        obtain ⟨e1, e2, e3⟩ := h hp
        rcases Nat.eq_or_lt_of_le (Nat.le_of_lt_succ h2) with rfl | h3
        · rw [HAX.out, HFN.out]; exact ⟨e2, e3⟩
        · exact HPL.out e1 j h1 h3)
      have hix : ∀ W, (Instr.index 49 (.agg #[.int .i64 0, .int .i64 0, .int .i64 0, .int .i64 2, .int .i64 3, .int .i64 5]) (.int .i64 0)).run Try.prog W = .ok (.int .i64 0) W ∧ (Instr.index 49 (.agg #[.int .i64 0, .int .i64 0, .int .i64 0, .int .i64 2, .int .i64 3, .int .i64 5]) (.int .i64 3)).run Try.prog W = .ok (.int .i64 2) W ∧ (Instr.index 49 (.agg #[.int .i64 0, .int .i64 0, .int .i64 0, .int .i64 2, .int .i64 3, .int .i64 5]) (.int .i64 4)).run Try.prog W = .ok (.int .i64 3) W ∧ (Instr.index 49 (.agg #[.int .i64 0, .int .i64 0, .int .i64 0, .int .i64 2, .int .i64 3, .int .i64 5]) (.int .i64 5)).run Try.prog W = .ok (.int .i64 5) W := fun W => ⟨by kernel_rfl, by kernel_rfl, by kernel_rfl, by kernel_rfl⟩
      obtain ⟨i0, i3, i4, i5⟩ := hix w9
      clear hix
      obtain hk0 | hk3 | hk4 | hk5 := HKD.out
      · try dsimp only at hk0
        subst hk0
        clear i3 i4 i5
        have ht0 := HK0.out rfl
        subst ht0
        cases pl with
        | true =>
          cases hxf : x.fin with
          | true =>
            rw [hxf] at x4
            go_wp2_with fail
            refine HXO.out.mono ?_
            rintro e w10 ⟨rfl, c10⟩
            have HY := hide (HGR.out.trans (HG9.out.trans c10))
            clear c10 x4
            go_wp2
            go_roundw
            case rel => exact ⟨k + 1, false, by omega, by have := HK.out; omega, rfl, rfl, HY.out, HREL.out false (fun h => by cases h)⟩
            case measure => have := HK.out; simp [Go.RowKit.intOf]; omega
          | false =>
            rw [hxf] at x4
            have HXF := hide hxf
            clear hxf
            go_wp2_with fail
            refine HXO.out.mono ?_
            rintro e w10 ⟨rfl, c10⟩
            have HY := hide (HGR.out.trans (HG9.out.trans c10))
            clear c10 x4
            go_wp2
            go_roundw
            case rel => exact ⟨k + 1, true, by omega, by have := HK.out; omega, rfl, rfl, HY.out, HREL.out true (fun _ => ⟨by first | rfl | trivial, by first | rfl | trivial, HXF.out⟩)⟩
            case measure => have := HK.out; simp [Go.RowKit.intOf]; omega
        | false =>
          go_wp2_with fail
          refine HXO.out.mono ?_
          rintro e w10 ⟨rfl, c10⟩
          have HY := hide (HGR.out.trans (HG9.out.trans c10))
          clear c10 x4
          go_wp2
          go_roundw
          case rel => exact ⟨k + 1, false, by omega, by have := HK.out; omega, rfl, rfl, HY.out, HREL.out false (fun h => by cases h)⟩
          case measure => have := HK.out; simp [Go.RowKit.intOf]; omega
      · try dsimp only at hk3
        subst hk3
        clear i0 i4 i5
        cases pl with
        | true =>
          go_wp2_with fail
          refine HXO.out.mono ?_
          rintro e w10 ⟨rfl, c10⟩
          have HY := hide (HGR.out.trans (HG9.out.trans c10))
          have HG10 := hide (HG9.out.trans c10)
          clear c10 HXO
          by_cases ht : to = 0
          · have q5 : (to == 0) = true := by simpa using ht
            clear ht
            clear HG10 x4
            go_wp2
            go_roundw
            case rel => exact ⟨k + 1, false, by omega, by have := HK.out; omega, rfl, rfl, HY.out, HREL.out false (fun h => by cases h)⟩
            case measure => have := HK.out; simp [Go.RowKit.intOf]; omega
          · have q5 : (to == 0) = false := by simpa using ht
            by_cases hX0 : X = 0
            · have q6 : (X == 0) = true := by simpa using hX0
              clear ht hX0
              clear HG10 x4
              go_wp2
              go_roundw
              case rel => exact ⟨k + 1, false, by omega, by have := HK.out; omega, rfl, rfl, HY.out, HREL.out false (fun h => by cases h)⟩
              case measure => have := HK.out; simp [Go.RowKit.intOf]; omega
            · have q6 : (X == 0) = false := by simpa using hX0
              by_cases hXl : X ≤ 2
              · have q7 : decide (X > 2) = false := decide_eq_false (by omega)
                have hY := HAM.out 2 (by decide) (by decide) (by decide) ht ⟨hX0, hXl⟩
                have HTI := hide (HTO.out ht).1
                obtain ⟨Y, hYe⟩ : ∃ Y, ofX F to = Y := ⟨_, rfl⟩
                rw [hYe] at hY
                have HYE := hide hYe
                clear hYe
                have q8 : (Y == 0) = false := by simpa using hY.1
                have q9 : decide (Y > 2) = false := decide_eq_false (by have := hY.2; omega)
                have HO2 := hide (HOF.out _ HG10.out to HTI.out)
                rw [HYE.out] at HO2
                clear ht hX0 hXl hY HG10 x4
                go_wp2_with fail
                refine HO2.out.mono ?_
                rintro e w11 ⟨rfl, c11⟩
                have HZ := hide (HY.out.trans c11)
                clear c11 HO2
                go_wp2
                go_roundw
                case rel => exact ⟨k + 1, false, by omega, by have := HK.out; omega, rfl, rfl, HZ.out, HREL.out false (fun h => by cases h)⟩
                case measure => have := HK.out; simp [Go.RowKit.intOf]; omega
              · have q7 : decide (X > 2) = true := decide_eq_true (by omega)
                clear ht hX0 hXl
                clear HG10 x4
                go_wp2
                go_roundw
                case rel => exact ⟨k + 1, false, by omega, by have := HK.out; omega, rfl, rfl, HY.out, HREL.out false (fun h => by cases h)⟩
                case measure => have := HK.out; simp [Go.RowKit.intOf]; omega
        | false =>
          go_wp2_with fail
          refine HXO.out.mono ?_
          rintro e w10 ⟨rfl, c10⟩
          have HY := hide (HGR.out.trans (HG9.out.trans c10))
          have HG10 := hide (HG9.out.trans c10)
          clear c10 HXO
          by_cases ht : to = 0
          · have q5 : (to == 0) = true := by simpa using ht
            clear ht
            clear HG10 x4
            go_wp2
            go_roundw
            case rel => exact ⟨k + 1, false, by omega, by have := HK.out; omega, rfl, rfl, HY.out, HREL.out false (fun h => by cases h)⟩
            case measure => have := HK.out; simp [Go.RowKit.intOf]; omega
          · have q5 : (to == 0) = false := by simpa using ht
            by_cases hX0 : X = 0
            · have q6 : (X == 0) = true := by simpa using hX0
              clear ht hX0
              clear HG10 x4
              go_wp2
              go_roundw
              case rel => exact ⟨k + 1, false, by omega, by have := HK.out; omega, rfl, rfl, HY.out, HREL.out false (fun h => by cases h)⟩
              case measure => have := HK.out; simp [Go.RowKit.intOf]; omega
            · have q6 : (X == 0) = false := by simpa using hX0
              by_cases hXl : X ≤ 2
              · have q7 : decide (X > 2) = false := decide_eq_false (by omega)
                have hY := HAM.out 2 (by decide) (by decide) (by decide) ht ⟨hX0, hXl⟩
                have HTI := hide (HTO.out ht).1
                obtain ⟨Y, hYe⟩ : ∃ Y, ofX F to = Y := ⟨_, rfl⟩
                rw [hYe] at hY
                have HYE := hide hYe
                clear hYe
                have q8 : (Y == 0) = false := by simpa using hY.1
                have q9 : decide (Y > 2) = false := decide_eq_false (by have := hY.2; omega)
                have HO2 := hide (HOF.out _ HG10.out to HTI.out)
                rw [HYE.out] at HO2
                clear ht hX0 hXl hY HG10 x4
                go_wp2_with fail
                refine HO2.out.mono ?_
                rintro e w11 ⟨rfl, c11⟩
                have HZ := hide (HY.out.trans c11)
                clear c11 HO2
                go_wp2
                go_roundw
                case rel => exact ⟨k + 1, false, by omega, by have := HK.out; omega, rfl, rfl, HZ.out, HREL.out false (fun h => by cases h)⟩
                case measure => have := HK.out; simp [Go.RowKit.intOf]; omega
              · have q7 : decide (X > 2) = true := decide_eq_true (by omega)
                clear ht hX0 hXl
                clear HG10 x4
                go_wp2
                go_roundw
                case rel => exact ⟨k + 1, false, by omega, by have := HK.out; omega, rfl, rfl, HY.out, HREL.out false (fun h => by cases h)⟩
                case measure => have := HK.out; simp [Go.RowKit.intOf]; omega
      · try dsimp only at hk4
        subst hk4
        clear i0 i3 i5
        cases pl with
        | true =>
          go_wp2_with fail
          refine HXO.out.mono ?_
          rintro e w10 ⟨rfl, c10⟩
          have HY := hide (HGR.out.trans (HG9.out.trans c10))
          have HG10 := hide (HG9.out.trans c10)
          clear c10 HXO
          by_cases ht : to = 0
          · have q5 : (to == 0) = true := by simpa using ht
            clear ht
            clear HG10 x4
            go_wp2
            go_roundw
            case rel => exact ⟨k + 1, false, by omega, by have := HK.out; omega, rfl, rfl, HY.out, HREL.out false (fun h => by cases h)⟩
            case measure => have := HK.out; simp [Go.RowKit.intOf]; omega
          · have q5 : (to == 0) = false := by simpa using ht
            by_cases hX0 : X = 0
            · have q6 : (X == 0) = true := by simpa using hX0
              clear ht hX0
              clear HG10 x4
              go_wp2
              go_roundw
              case rel => exact ⟨k + 1, false, by omega, by have := HK.out; omega, rfl, rfl, HY.out, HREL.out false (fun h => by cases h)⟩
              case measure => have := HK.out; simp [Go.RowKit.intOf]; omega
            · have q6 : (X == 0) = false := by simpa using hX0
              by_cases hXl : X ≤ 3
              · have q7 : decide (X > 3) = false := decide_eq_false (by omega)
                have hY := HAM.out 3 (by decide) (by decide) (by decide) ht ⟨hX0, hXl⟩
                have HTI := hide (HTO.out ht).1
                obtain ⟨Y, hYe⟩ : ∃ Y, ofX F to = Y := ⟨_, rfl⟩
                rw [hYe] at hY
                have HYE := hide hYe
                clear hYe
                have q8 : (Y == 0) = false := by simpa using hY.1
                have q9 : decide (Y > 3) = false := decide_eq_false (by have := hY.2; omega)
                have HO2 := hide (HOF.out _ HG10.out to HTI.out)
                rw [HYE.out] at HO2
                clear ht hX0 hXl hY HG10 x4
                go_wp2_with fail
                refine HO2.out.mono ?_
                rintro e w11 ⟨rfl, c11⟩
                have HZ := hide (HY.out.trans c11)
                clear c11 HO2
                go_wp2
                go_roundw
                case rel => exact ⟨k + 1, false, by omega, by have := HK.out; omega, rfl, rfl, HZ.out, HREL.out false (fun h => by cases h)⟩
                case measure => have := HK.out; simp [Go.RowKit.intOf]; omega
              · have q7 : decide (X > 3) = true := decide_eq_true (by omega)
                clear ht hX0 hXl
                clear HG10 x4
                go_wp2
                go_roundw
                case rel => exact ⟨k + 1, false, by omega, by have := HK.out; omega, rfl, rfl, HY.out, HREL.out false (fun h => by cases h)⟩
                case measure => have := HK.out; simp [Go.RowKit.intOf]; omega
        | false =>
          go_wp2_with fail
          refine HXO.out.mono ?_
          rintro e w10 ⟨rfl, c10⟩
          have HY := hide (HGR.out.trans (HG9.out.trans c10))
          have HG10 := hide (HG9.out.trans c10)
          clear c10 HXO
          by_cases ht : to = 0
          · have q5 : (to == 0) = true := by simpa using ht
            clear ht
            clear HG10 x4
            go_wp2
            go_roundw
            case rel => exact ⟨k + 1, false, by omega, by have := HK.out; omega, rfl, rfl, HY.out, HREL.out false (fun h => by cases h)⟩
            case measure => have := HK.out; simp [Go.RowKit.intOf]; omega
          · have q5 : (to == 0) = false := by simpa using ht
            by_cases hX0 : X = 0
            · have q6 : (X == 0) = true := by simpa using hX0
              clear ht hX0
              clear HG10 x4
              go_wp2
              go_roundw
              case rel => exact ⟨k + 1, false, by omega, by have := HK.out; omega, rfl, rfl, HY.out, HREL.out false (fun h => by cases h)⟩
              case measure => have := HK.out; simp [Go.RowKit.intOf]; omega
            · have q6 : (X == 0) = false := by simpa using hX0
              by_cases hXl : X ≤ 3
              · have q7 : decide (X > 3) = false := decide_eq_false (by omega)
                have hY := HAM.out 3 (by decide) (by decide) (by decide) ht ⟨hX0, hXl⟩
                have HTI := hide (HTO.out ht).1
                obtain ⟨Y, hYe⟩ : ∃ Y, ofX F to = Y := ⟨_, rfl⟩
                rw [hYe] at hY
                have HYE := hide hYe
                clear hYe
                have q8 : (Y == 0) = false := by simpa using hY.1
                have q9 : decide (Y > 3) = false := decide_eq_false (by have := hY.2; omega)
                have HO2 := hide (HOF.out _ HG10.out to HTI.out)
                rw [HYE.out] at HO2
                clear ht hX0 hXl hY HG10 x4
                go_wp2_with fail
                refine HO2.out.mono ?_
                rintro e w11 ⟨rfl, c11⟩
                have HZ := hide (HY.out.trans c11)
                clear c11 HO2
                go_wp2
                go_roundw
                case rel => exact ⟨k + 1, false, by omega, by have := HK.out; omega, rfl, rfl, HZ.out, HREL.out false (fun h => by cases h)⟩
                case measure => have := HK.out; simp [Go.RowKit.intOf]; omega
              · have q7 : decide (X > 3) = true := decide_eq_true (by omega)
                clear ht hX0 hXl
                clear HG10 x4
                go_wp2
                go_roundw
                case rel => exact ⟨k + 1, false, by omega, by have := HK.out; omega, rfl, rfl, HY.out, HREL.out false (fun h => by cases h)⟩
                case measure => have := HK.out; simp [Go.RowKit.intOf]; omega
      · try dsimp only at hk5
        subst hk5
        clear i0 i3 i4
        cases pl with
        | true =>
          go_wp2_with fail
          refine HXO.out.mono ?_
          rintro e w10 ⟨rfl, c10⟩
          have HY := hide (HGR.out.trans (HG9.out.trans c10))
          have HG10 := hide (HG9.out.trans c10)
          clear c10 HXO
          by_cases ht : to = 0
          · have q5 : (to == 0) = true := by simpa using ht
            clear ht
            clear HG10 x4
            go_wp2
            go_roundw
            case rel => exact ⟨k + 1, false, by omega, by have := HK.out; omega, rfl, rfl, HY.out, HREL.out false (fun h => by cases h)⟩
            case measure => have := HK.out; simp [Go.RowKit.intOf]; omega
          · have q5 : (to == 0) = false := by simpa using ht
            by_cases hX0 : X = 0
            · have q6 : (X == 0) = true := by simpa using hX0
              clear ht hX0
              clear HG10 x4
              go_wp2
              go_roundw
              case rel => exact ⟨k + 1, false, by omega, by have := HK.out; omega, rfl, rfl, HY.out, HREL.out false (fun h => by cases h)⟩
              case measure => have := HK.out; simp [Go.RowKit.intOf]; omega
            · have q6 : (X == 0) = false := by simpa using hX0
              by_cases hXl : X ≤ 5
              · have q7 : decide (X > 5) = false := decide_eq_false (by omega)
                have hY := HAM.out 5 (by decide) (by decide) (by decide) ht ⟨hX0, hXl⟩
                have HTI := hide (HTO.out ht).1
                obtain ⟨Y, hYe⟩ : ∃ Y, ofX F to = Y := ⟨_, rfl⟩
                rw [hYe] at hY
                have HYE := hide hYe
                clear hYe
                have q8 : (Y == 0) = false := by simpa using hY.1
                have q9 : decide (Y > 5) = false := decide_eq_false (by have := hY.2; omega)
                have HO2 := hide (HOF.out _ HG10.out to HTI.out)
                rw [HYE.out] at HO2
                clear ht hX0 hXl hY HG10 x4
                go_wp2_with fail
                refine HO2.out.mono ?_
                rintro e w11 ⟨rfl, c11⟩
                have HZ := hide (HY.out.trans c11)
                clear c11 HO2
                go_wp2
                go_roundw
                case rel => exact ⟨k + 1, false, by omega, by have := HK.out; omega, rfl, rfl, HZ.out, HREL.out false (fun h => by cases h)⟩
                case measure => have := HK.out; simp [Go.RowKit.intOf]; omega
              · have q7 : decide (X > 5) = true := decide_eq_true (by omega)
                clear ht hX0 hXl
                clear HG10 x4
                go_wp2
                go_roundw
                case rel => exact ⟨k + 1, false, by omega, by have := HK.out; omega, rfl, rfl, HY.out, HREL.out false (fun h => by cases h)⟩
                case measure => have := HK.out; simp [Go.RowKit.intOf]; omega
        | false =>
          go_wp2_with fail
          refine HXO.out.mono ?_
          rintro e w10 ⟨rfl, c10⟩
          have HY := hide (HGR.out.trans (HG9.out.trans c10))
          have HG10 := hide (HG9.out.trans c10)
          clear c10 HXO
          by_cases ht : to = 0
          · have q5 : (to == 0) = true := by simpa using ht
            clear ht
            clear HG10 x4
            go_wp2
            go_roundw
            case rel => exact ⟨k + 1, false, by omega, by have := HK.out; omega, rfl, rfl, HY.out, HREL.out false (fun h => by cases h)⟩
            case measure => have := HK.out; simp [Go.RowKit.intOf]; omega
          · have q5 : (to == 0) = false := by simpa using ht
            by_cases hX0 : X = 0
            · have q6 : (X == 0) = true := by simpa using hX0
              clear ht hX0
              clear HG10 x4
              go_wp2
              go_roundw
              case rel => exact ⟨k + 1, false, by omega, by have := HK.out; omega, rfl, rfl, HY.out, HREL.out false (fun h => by cases h)⟩
              case measure => have := HK.out; simp [Go.RowKit.intOf]; omega
            · have q6 : (X == 0) = false := by simpa using hX0
              by_cases hXl : X ≤ 5
              · have q7 : decide (X > 5) = false := decide_eq_false (by omega)
                have hY := HAM.out 5 (by decide) (by decide) (by decide) ht ⟨hX0, hXl⟩
                have HTI := hide (HTO.out ht).1
                obtain ⟨Y, hYe⟩ : ∃ Y, ofX F to = Y := ⟨_, rfl⟩
                rw [hYe] at hY
                have HYE := hide hYe
                clear hYe
                have q8 : (Y == 0) = false := by simpa using hY.1
                have q9 : decide (Y > 5) = false := decide_eq_false (by have := hY.2; omega)
                have HO2 := hide (HOF.out _ HG10.out to HTI.out)
                rw [HYE.out] at HO2
                clear ht hX0 hXl hY HG10 x4
                go_wp2_with fail
                refine HO2.out.mono ?_
                rintro e w11 ⟨rfl, c11⟩
                have HZ := hide (HY.out.trans c11)
                clear c11 HO2
                go_wp2
                go_roundw
                case rel => exact ⟨k + 1, false, by omega, by have := HK.out; omega, rfl, rfl, HZ.out, HREL.out false (fun h => by cases h)⟩
                case measure => have := HK.out; simp [Go.RowKit.intOf]; omega
              · have q7 : decide (X > 5) = true := decide_eq_true (by omega)
                clear ht hX0 hXl
                clear HG10 x4
                go_wp2
                go_roundw
                case rel => exact ⟨k + 1, false, by omega, by have := HK.out; omega, rfl, rfl, HY.out, HREL.out false (fun h => by cases h)⟩
                case measure => have := HK.out; simp [Go.RowKit.intOf]; omega
theorem walk (u : Wo) (cs : List Cl) (ns : List Int) (ts : List Tr) (a1 : Option Addr) (len1 cap1 : Nat) (zs : List Int) (w : World) (h0 : IsWo w u cs ns ts) (h1 : IsRow .i64 w a1 len1 cap1 zs) :
    Calls Try.prog 5 #[Wo.v u, .slice a1 len1 cap1] w fun e w' => e = .returned (.bool true) ∧ Below w.heap.size w w' := by
  by_cases hg : good u cs
  · by_cases hl : 40 < len1
    · exact walk_no h0 h1 (.inr ⟨hg, hl⟩)
    · exact walk_main h0 h1 hg (by omega)
  · exact walk_no h0 h1 (.inl hg)
end
theorem own : ownKnob Try.prog.godebug = none := by kernel_rfl
theorem laidOut : laidOutB Try.prog = true := by kernel_rfl

set_option maxRecDepth 100000 in
theorem lifted (os : Os) (started : os.Started) (H : Type) (enc : TypeId × Value → H) :
    ReturnsInHanded {} Try.checked os 5 .any (Rows.strengthAimsSpec.pre6 enc Try.prog Try.f5 Rows.strengthAimsRow.domain false) (Rows.strengthAimsSpec.post enc Try.prog Try.f5 false true false false) := by
  refine returnsInHanded_of_change (C := Try.checked) own started (by kernel_rfl) Try.func5
    (ChangeSpec.witness6 (enc := enc) (C := Try.checked) false ⟨#[], #[.agg #[.slice none 0 0, .slice none 0 0, .slice none 0 0], .slice none 0 0], []⟩ 8 (by kernel_rfl) (by kernel_rfl) (by kernel_rfl) (by kernel_rfl)) ?_
  intro W base args ds gs before hval0 hW hcnd _
  have hval : ∀ (j : Nat) t v, Try.f5.params[j]? = some t → args[j]? = some v → Value.okWide Try.prog W .any base t v := hval0
  have hW' := hW
  obtain ⟨p, q, hA0, hV, rfl, hfz, hnd⟩ := hW
  have hA : DataW.TrodAll enc Try.prog W 0 (fun _ => true) true Try.f5.params.toList args.toList ds p := hA0
  rw [Try.params5] at hA hval
  obtain ⟨v0, vs0, d0, ds0, p0, q0, hargs, rfl, rfl, h0, r0⟩ := trodAll_cons hA
  obtain ⟨v1, vs1, d1, ds1, p1, q1, rfl, rfl, rfl, h1, r1⟩ := trodAll_cons r0
  obtain ⟨rfl, rfl, rfl⟩ := trodAll_nil r1
  obtain rfl : args = #[v0, v1] := by cases args; simp_all
  obtain ⟨rfl, rfl⟩ := trodVars_none hV
  have k0 := h0
  have lt0 : ∀ x ∈ p0, x.block < W.heap.size := by obtain ⟨m, hm⟩ := k0; exact DataW.trod_lt m _ _ _ hm
  obtain ⟨u0, cs0, ns0, ts0, rfl, w0⟩ := open_world (hval 0 26 v0 rfl rfl) h0
  obtain ⟨a1, len1, cap1, rfl⟩ := okWide_slice Try.underlying27 (hval 1 27 v1 rfl rfl)
  have k1 := h1
  have lt1 : ∀ x ∈ p1, x.block < W.heap.size := by obtain ⟨m, hm⟩ := k1; exact DataW.trod_lt m _ _ _ hm
  obtain ⟨z1, w1⟩ : ∃ zs, IsRow .i64 W a1 len1 cap1 zs := open_row Try.underlying27 Try.underlying3 (by kernel_rfl) h1
  clear hA0 hval0
  refine (walk u0 cs0 ns0 ts0 a1 len1 cap1 z1 W w0 w1).mono fun e W' ⟨he, bel⟩ => ?_
  subst he
  exact ⟨_, rfl, _, _, _, [], _, [], hW', trodAll_mk1 (shut_bool Try.underlying4 _), (trodAll_cons_mk (Below.trod laidOut (by kernel_rfl) (of_decide_eq_true (by kernel_rfl)) k0 bel lt0) (trodAll_cons_mk (Below.trod laidOut (by kernel_rfl) (of_decide_eq_true (by kernel_rfl)) k1 bel lt1) trodAll_mk0)), rfl, bel.frame _, fun h => by cases h⟩

theorem over : Rows.strengthAimsRow.holds Try.pinned (OpenSpec.ofChange Rows.strengthAimsSpec) :=
  OpenClaim.holds_of_wide 5 Try.f5 rfl rfl rfl rfl rfl rfl rfl ⟨rfl, rfl, rfl, rfl, rfl⟩ rfl rfl rfl rfl rfl (by kernel_rfl) Try.func5 (by kernel_rfl)
    (of_decide_eq_true (by kernel_rfl)) (by unfold Func.isWrapper; first | (rw [if_pos (by decide +kernel)]; kernel_rfl) | (rw [if_neg (by decide +kernel)]; exact ⟨rfl, rfl⟩))
    (fun os started H enc _ => lifted os started H enc)

/-- The statement. -/
theorem proved : Rows.StrengthAimsSaid := over
#print axioms proved
end Go.Proofs.Ytfiopfeejdmcoaa.strengthAims


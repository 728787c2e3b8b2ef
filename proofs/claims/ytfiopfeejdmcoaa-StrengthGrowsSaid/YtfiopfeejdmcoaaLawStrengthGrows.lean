/- For all worlds, roots and one root more StrengthGrows answers true: what is reached within a level is reached within each greater one; with one root more no node's strength is lesser; what a node holds is reached as strongly as itself. Conditions: none. -/
import Derived.Test.YtfiopfeejdmcoaaL10E
namespace Go.Proofs.Ytfiopfeejdmcoaa.strengthGrows
open Go.ChangeShapes Go.WideShapes Go.ChangeAt Go.RowKit Go.Proofs.Ytfiopfeejdmcoaa.L10
open Go.Proofs.Ytfiopfeejdmcoaa.L9 (Nd nd GS RG Rf Lok In64 Srt nd_some nd_none nd_mem own_rd own_cast ptr newX_rt hasB hldX aimX wpList_app)
open Go.Proofs.Ytfiopfeejdmcoaa.L5 (Cl clAt isRf IsCls newX)
set_option linter.unusedVariables false
section
variable {w : World} {u : Wo} {cs : List Cl} {ns : List Int} {ts : List Tr} {a1 : Option Addr} {len1 cap1 : Nat} {zs : List Int} {lev : Int}
theorem has_n {W : World} {b n cap : Nat} {a : Option Addr} {xs : List Int} (h : OL W b (.slice a n cap) xs) (hn : xs.length = n) (hi : ∀ i ∈ xs, In64 i) (hl : xs.length ≤ 1000000) (y : Int) :
    Calls Try.prog 18 #[.slice a n cap, .int .i64 y] W fun e w' => e = .returned (.bool (hasB xs y)) ∧ Grow W w' := by
  subst hn
  exact has_ol h hi hl y
set_option maxRecDepth 100000 in
set_option maxHeartbeats 2000000 in
theorem walk_no (h0 : IsWo w u cs ns ts) (h1 : IsRow .i64 w a1 len1 cap1 zs) (hg : ¬ good u cs ∨ (good u cs ∧ 40 < len1)) :
    Calls Try.prog 4 #[Wo.v u, .slice a1 len1 cap1, .int .i64 lev] w fun e w' => e = .returned (.bool true) ∧ Below w.heap.size w w' := by
  rcases hg with hg | hg
  · skip
    obtain ⟨ca, cl, cc, na, nl, nc, ra, rl, rc⟩ := u
    have hbx := Blk.new w 26 [.slice ca cl cc, .slice na nl nc, .slice ra rl rc]
    have gB := Grow.box w (.cells [.slice ca cl cc, .slice na nl nc, .slice ra rl rc].toArray 26)
    have HWO := hide (h0.chg gB fun _ _ => id)
    have HRW := hide h1
    have HBX := hide hbx
    clear h0 h1 hbx
    have HM := hide (made_no HWO.out hg)
    clear hg HWO HRW HBX
    go_enter Try.func4, Try.ntmps4
    go_wp2_with fail
    refine HM.out.mono ?_
    rintro e w3 ⟨rfl, c3⟩
    have HG := hide (gB.trans c3)
    clear gB c3 HM
    go_wp2_with fail
    refine (awake_any _).mono ?_
    rintro e w4 ⟨rfl, c4⟩
    have HG4 := hide (HG.out.trans c4)
    clear c4
    go_wp2_with fail
    refine (awake_any _).mono ?_
    rintro e w5 ⟨rfl, c5⟩
    have HG5 := hide (HG4.out.trans c5)
    clear c5
    go_wp2
    go_ret
    exact ⟨rfl, HG5.out.below (fun _ _ h => h) (Nat.le_refl _)⟩
  · obtain ⟨hg, hlen⟩ := hg
    obtain ⟨ca, cl, cc, na, nl, nc, ra, rl, rc⟩ := u
    have hbx := Blk.new w 26 [.slice ca cl cc, .slice na nl nc, .slice ra rl rc]
    have gB := Grow.box w (.cells [.slice ca cl cc, .slice na nl nc, .slice ra rl rc].toArray 26)
    have HWO := hide (h0.chg gB fun _ _ => id)
    have HRW := hide h1
    have HBX := hide hbx
    clear h0 h1 hbx
    have HM := hide (made_yes HWO.out hg)
    have q1 : decide ((len1 : Int) > 40) = true := by simp; omega
    clear hg HWO HRW HBX hlen
    go_enter Try.func4, Try.ntmps4
    go_wp2_with fail
    refine HM.out.mono ?_
    rintro e w3 ⟨z, p, q, L, rfl, -, -, -, -, c3⟩
    have HG := hide (gB.trans c3)
    clear gB c3 HM
    go_wp2_with fail
    refine (awake_any _).mono ?_
    rintro e w4 ⟨rfl, c4⟩
    have HG4 := hide (HG.out.trans c4)
    clear c4
    go_wp2_with fail
    refine (awake_any _).mono ?_
    rintro e w5 ⟨rfl, c5⟩
    have HG5 := hide (HG4.out.trans c5)
    clear c5
    go_wp2
    go_ret
    exact ⟨rfl, HG5.out.below (fun _ _ h => h) (Nat.le_refl _)⟩
set_option maxRecDepth 100000 in
set_option maxHeartbeats 8000000 in
theorem walk_main (h0 : IsWo w u cs ns ts) (h1 : IsRow .i64 w a1 len1 cap1 zs) (hg : good u cs) (hle : len1 ≤ 40) (h2 : (Lit.int .i64 lev).wf = true) :
    Calls Try.prog 4 #[Wo.v u, .slice a1 len1 cap1, .int .i64 lev] w fun e w' => e = .returned (.bool true) ∧ Below w.heap.size w w' := by
  obtain ⟨ca, cl, cc, na, nl, nc, ra, rl, rc⟩ := u
  have hbx := Blk.new w 26 [.slice ca cl cc, .slice na nl nc, .slice ra rl rc]
  have gB := Grow.box w (.cells [.slice ca cl cc, .slice na nl nc, .slice ra rl rc].toArray 26)
  have HWO := hide (h0.chg gB fun _ _ => id)
  have HRW := hide h1
  have HBX := hide hbx
  clear h0 h1 hbx
  have HM := hide (made_yes HWO.out hg)
  have q1 : decide ((len1 : Int) > 40) = false := by simp; omega
  have HGD := hide (show nl ≤ 40 ∧ newX cs = 0 ∧ cl ≤ 63 from ⟨hg.1.1, hg.2.2, hg.2.1.2⟩)
  have HLE := hide hle
  clear hg hle
  go_enter Try.func4, Try.ntmps4
  go_wp2_with fail
  refine HM.out.mono ?_
  rintro e w3 ⟨z, p, q, L, rfl, hbo, hids, hrv, -, c3⟩
  obtain ⟨S, T, hgs, hrg, hap⟩ := hbo
  obtain ⟨b, hb⟩ : ∃ b, w.heap.size = b := ⟨_, rfl⟩
  have hst : St w w3 b z p q S T ca cl cc na nl nc ra rl rc cs L a1 len1 cap1 zs := ⟨gB.trans c3, hgs, ⟨hrg, HWO.out.c.chg c3 fun _ _ => id, hgs.lok, (newX_rt HGD.out.2.1).1, by have := congrArg List.length hids; rw [List.length_map, nms_len] at this; have := HGD.out.1; omega, by have := HGD.out.2.2; omega⟩, hap, HRW.out.chg (gB.trans c3) fun _ _ => id, by rw [← hb]; exact HBX.out.chg c3 id, hids, HGD.out.1, hrv, HLE.out⟩
  rw [hb]
  clear gB c3 HM hids hrv hgs hrg hap HWO HRW HBX HGD HLE hb
  go_wp2_with fail
  refine (awake_any _).mono ?_
  rintro e w4 ⟨rfl, c4⟩
  have HST := hide (hst.grow c4)
  clear c4 hst

  have HEX := hide (fun (l : Int) => ex_rc cs L l (srcW L l zs))
  obtain ⟨F, hF⟩ := ex_of cs L zs
  obtain ⟨G, hG⟩ := ex_of cs L (zs ++ [lev])
  have hz := HST.out.z40
  have HF := hide hF
  have HGG := hide hG
  have HLV := hide h2
  clear hF hG h2
  go_wp2_with fail
  go_loopw [10] (fun v wr => ∃ k : Nat, k ≤ 6 ∧ v = .int .i64 k ∧ Grow w4 wr) (fun v _ => 6 - (Go.RowKit.intOf v).toNat)
  case atStart => exact ⟨0, by omega, rfl, Chg.refl _ _⟩
  case round =>
    obtain ⟨k, hk, rfl, hg⟩ := hrel
    rcases Nat.eq_or_lt_of_le hk with rfl | hlt
    · have hs4 := HST.out.grow hg
      clear hg hk
      have HS := hide hs4
      have hbN := Grow.box wr (.cells (ints []).toArray 3)
      obtain ⟨v1, W1, hr1, ho1, cg1, -⟩ := app_more (c0 := cap1) hbN (OL.lit wr [] (by simp)) (L9.L1.Rd.chg hs4.rd hbN fun _ _ => id) (by simp; omega)
      rw [List.nil_append] at ho1
      have hbM := Grow.box W1 (.cells [.int .i64 lev].toArray 3)
      obtain ⟨v2, W2, hr2, ho2, cg2, -⟩ := app_more (c0 := 1) (cg1.trans hbM) (OL.grow ho1 hbM) (L1.Rd.of_blk (Blk.new W1 3 [.int .i64 lev]) rfl : L1.Rd _ _ 1 [lev]) (by have := hs4.row.1; omega)
      obtain ⟨va2, vc2, rfl⟩ := own_len ho2
      have hln : (zs ++ [lev]).length = len1 + 1 := by rw [List.length_append, hs4.row.1]; rfl
      have HLN := hide hln
      have hrd2 := own_rd ho2
      rw [hln] at hr2 hrd2
      have KA1 := hide hr1
      have KA2 := hide hr2
      have HWI := hide hrd2
      have HS2 := hide (hs4.grow cg2)
      clear hs4 hbN hr1 ho1 cg1 hbM hr2 ho2 cg2 hln hrd2
      go_wp2_with (at_builtin; first | (refine wpList_app rfl _ _ 27 rfl (.slice (some ⟨wr.heap.size, 0, none⟩) 0 0) (.slice a1 len1 cap1) v1 _ W1 rfl rfl KA1.out ?_) | (refine wpList_app rfl _ _ 27 rfl v1 (.slice (some ⟨W1.heap.size, 0, none⟩) 1 1) (.slice va2 (len1 + 1) vc2) _ W2 rfl rfl KA2.out ?_))
      have k1 := HS2.out.box.cell 1
      clear KA1 KA2 HEX HS
      go_loopw [15] (fun v wr => ∃ k : Nat, 1 ≤ k ∧ k ≤ nl + 1 ∧ v = .int .i64 k ∧ Grow W2 wr) (fun v _ => nl + 2 - (Go.RowKit.intOf v).toNat)
      case atStart => exact ⟨1, Nat.le_refl _, by omega, rfl, Chg.refl _ _⟩
      case round =>
        clear k1
        obtain ⟨k, hk1, hk, rfl, hg⟩ := hrel
        have k1 := hg.cell (HS2.out.box.cell 1)
        rcases Nat.eq_or_lt_of_le hk with rfl | hlt
        · have q2 : decide (((nl + 1 : Nat) : Int) ≤ (nl : Int)) = false := decide_eq_false (by omega)
          have q3 : ¬ nl + 1 ≤ nl := by omega
          have HE := hide (HS2.out.grow hg)
          clear hg hk hk1
          go_wp2
          go_ret
          exact ⟨rfl, HE.out.end_⟩
        · have q2 : decide ((k : Int) ≤ (nl : Int)) = true := decide_eq_true (by omega)
          have q3 : k ≤ nl := by omega
          have hN40 := HST.out.n40
          have hw : IntKind.i64.wrap ((k : Int) + 1) = ((k + 1 : Nat) : Int) := (IntWalk.i64_in _ (by omega)).trans (by omega)
          have HK := hide (And.intro hk1 hlt)
          have hs5 := HS2.out.grow hg
          have hki : In64 (k : Int) := in64_nat (by omega)
          have HC1 := hide (hs5.of_ (c := cap1) hs5.rd (by omega) hs5.i64 HF.out hki)
          have HC2 := hide (fun (W : World) (c : Grow wr W) => (hs5.grow c).of_ (c := vc2) (L9.L1.Rd.chg HWI.out (hg.trans c) fun _ _ => id) (by omega) (fun i hi => by
            rcases List.mem_append.1 hi with hi | hi
            · exact hs5.i64 i hi
            · rw [List.mem_singleton.1 hi]; exact HLV.out) HGG.out hki)
          have HHO := hide (fun (W : World) (c : Grow wr W) => L9.holds_gs (hs5.grow c).gs hki)
          obtain ⟨x, hx, hxi⟩ := hs5.at_ hk1 (by omega)
          have hxm := (nd_some hx).1
          have HLI := hide (fun j (hj : j ∈ hldX cs L (k : Int)) => (show In64 j from (hs5.gs.ok hxm).rw_ j (hld_mem hx hj).1))
          have HLL := hide (show (hldX cs L (k : Int)).length ≤ 1000000 from by have := L9.hldX_len (i := (k : Int)) hs5.gs.lok; unfold hldX; rw [hx]; have h2 := L9.hld_len (isRf (L9.kd (clAt cs x.c))) x.refs; have h3 := (hs5.gs.ok hxm).rl; show (L9.hld _ x.refs).length ≤ _; omega)
          have HH1 := hide (grows_root HF.out HGG.out (k : Int))
          have HH2 := hide (fun j (hj : j ∈ hldX cs L (k : Int)) => grows_held HF.out hj (hs5.ref hxm (hld_mem hx hj).1 (hld_mem hx hj).2))
          have HC3 := hide (fun (W : World) (c : Grow wr W) (j : Int) (hj : In64 j) => (hs5.grow c).of_ (c := cap1) (hs5.grow c).rd (by omega) hs5.i64 HF.out hj)
          have HGR := hide hg
          clear hs5 hg hk hlt hx hxi hxm hk1 hki hN40
          generalize hldX cs L (k : Int) = l at *
          obtain ⟨m1, hm1⟩ : ∃ m1, l.length = m1 := ⟨_, rfl⟩
          have HM1 := hide hm1
          rw [hm1] at HHO HLL
          obtain ⟨X, hX⟩ : ∃ X, ofX F (k : Int) = X := ⟨_, rfl⟩
          obtain ⟨Y, hY⟩ : ∃ Y, ofX G (k : Int) = Y := ⟨_, rfl⟩
          rw [hX] at HC1 HH1 HH2
          rw [hY] at HC2 HH1
          clear hX hY hm1
          by_cases hX0 : X = 0
          · as_aux_lemma =>
            have q5 : (X != 0) = false := by simpa using hX0
            clear HH1 HH2
            go_wp2_with fail
            refine HC1.out.mono ?_
            rintro e w5 ⟨rfl, c5⟩
            have HG5 := hide c5
            clear c5 HC1
            go_wp2_with fail
            refine (HC2.out _ HG5.out).mono ?_
            rintro e w6 ⟨rfl, c6⟩
            have HG6 := hide (HG5.out.trans c6)
            clear c6 HC2 HG5
            go_wp2_with fail
            refine (HHO.out _ HG6.out).mono ?_
            rintro e w7 ⟨ha, hca, rfl, ho, c7⟩
            have HO := hide (show OL w7 w6.heap.size (.slice ha m1 hca) l from own_cast ho HM1.out.symm)
            have HG7 := hide (HG6.out.trans c7)
            clear c7 ho HHO HG6
            go_wp2_with fail
            go_loopw [102] (fun v wr => ∃ j : Nat, j ≤ m1 ∧ v = .int .i64 j ∧ Grow w7 wr) (fun v _ => m1 - (Go.RowKit.intOf v).toNat)
            case atStart => exact ⟨0, Nat.zero_le _, rfl, Chg.refl _ _⟩
            case round =>
              obtain ⟨j, hj, rfl, gg⟩ := hrel
              rcases Nat.eq_or_lt_of_le hj with hje | hjl
              · have hje2 := hje.symm
                subst hje2
                have q8 : decide ((m1 : Int) < m1) = false := by simp
                have HY := hide (HGR.out.trans (HG7.out.trans gg))
                clear gg hj hje
                go_wp2
                go_roundw
                case rel => exact ⟨k + 1, by omega, by have := HK.out; omega, rfl, HY.out⟩
                case measure => have := HK.out; simp [Go.RowKit.intOf]; omega
              · have q8 : decide ((j : Int) < m1) = true := decide_eq_true (by omega)
                have hwj : IntKind.i64.wrap ((j : Int) + 1) = ((j + 1 : Nat) : Int) := (IntWalk.i64_in _ (by have := HLL.out; omega)).trans (by omega)
                obtain ⟨gl, hla, -, -, -, hcj⟩ := L9.own_at (own_cast (OL.grow HO.out gg) HM1.out) hjl
                subst hla
                have hm := getD_mem (xs := l) (j := j) (by rw [HM1.out]; exact hjl)
                have hti := HLI.out _ hm
                have hzz := True.intro
                generalize l.getD j 0 = t at *
                have HC4 := hide (HC3.out _ (HG7.out.trans gg) t hti)
                have HJ := hide hjl
                have HGJ := hide gg
                skip
                obtain ⟨Z, hZ⟩ : ∃ Z, ofX F t = Z := ⟨_, rfl⟩
                rw [hZ] at HC4
                skip
                clear gg hj hjl hm hti hzz hZ
                go_wp2_with fail
                refine HC4.out.mono ?_
                rintro e w8 ⟨rfl, c8⟩
                have HY := hide (HGJ.out.trans c8)
                clear c8 hcj HC4
                go_wp2
                go_roundw
                case rel => exact ⟨j + 1, HJ.out, rfl, HY.out⟩
                case measure => have := HJ.out; simp [Go.RowKit.intOf]; omega
          · as_aux_lemma =>
            have q5 : (X != 0) = true := by simpa using hX0
            have q6 : (Y == 0) = false := by simpa using (HH1.out hX0).1
            have q7 : decide (Y > X) = false := decide_eq_false (by have := (HH1.out hX0).2; omega)
            go_wp2_with fail
            refine HC1.out.mono ?_
            rintro e w5 ⟨rfl, c5⟩
            have HG5 := hide c5
            clear c5 HC1
            go_wp2_with fail
            refine (HC2.out _ HG5.out).mono ?_
            rintro e w6 ⟨rfl, c6⟩
            have HG6 := hide (HG5.out.trans c6)
            clear c6 HC2 HG5
            go_wp2_with fail
            refine (HHO.out _ HG6.out).mono ?_
            rintro e w7 ⟨ha, hca, rfl, ho, c7⟩
            have HO := hide (show OL w7 w6.heap.size (.slice ha m1 hca) l from own_cast ho HM1.out.symm)
            have HG7 := hide (HG6.out.trans c7)
            clear c7 ho HHO HG6
            go_wp2_with fail
            go_loopw [102] (fun v wr => ∃ j : Nat, j ≤ m1 ∧ v = .int .i64 j ∧ Grow w7 wr) (fun v _ => m1 - (Go.RowKit.intOf v).toNat)
            case atStart => exact ⟨0, Nat.zero_le _, rfl, Chg.refl _ _⟩
            case round =>
              obtain ⟨j, hj, rfl, gg⟩ := hrel
              rcases Nat.eq_or_lt_of_le hj with hje | hjl
              · have hje2 := hje.symm
                subst hje2
                have q8 : decide ((m1 : Int) < m1) = false := by simp
                have HY := hide (HGR.out.trans (HG7.out.trans gg))
                clear gg hj hje
                go_wp2
                go_roundw
                case rel => exact ⟨k + 1, by omega, by have := HK.out; omega, rfl, HY.out⟩
                case measure => have := HK.out; simp [Go.RowKit.intOf]; omega
              · have q8 : decide ((j : Int) < m1) = true := decide_eq_true (by omega)
                have hwj : IntKind.i64.wrap ((j : Int) + 1) = ((j + 1 : Nat) : Int) := (IntWalk.i64_in _ (by have := HLL.out; omega)).trans (by omega)
                obtain ⟨gl, hla, -, -, -, hcj⟩ := L9.own_at (own_cast (OL.grow HO.out gg) HM1.out) hjl
                subst hla
                have hm := getD_mem (xs := l) (j := j) (by rw [HM1.out]; exact hjl)
                have hti := HLI.out _ hm
                have hzz := HH2.out _ hm
                generalize l.getD j 0 = t at *
                have HC4 := hide (HC3.out _ (HG7.out.trans gg) t hti)
                have HJ := hide hjl
                have HGJ := hide gg
                (have q9 : (ofX F t == 0) = false := (by simpa using (hzz hX0).1); have q10 : decide (ofX F t > X) = false := decide_eq_false (by have := (hzz hX0).2; omega))
                obtain ⟨Z, hZ⟩ : ∃ Z, ofX F t = Z := ⟨_, rfl⟩
                rw [hZ] at HC4
                (rw [hZ] at q9 q10)
                clear gg hj hjl hm hti hzz hZ
                go_wp2_with fail
                refine HC4.out.mono ?_
                rintro e w8 ⟨rfl, c8⟩
                have HY := hide (HGJ.out.trans c8)
                clear c8 hcj HC4
                go_wp2
                go_roundw
                case rel => exact ⟨j + 1, HJ.out, rfl, HY.out⟩
                case measure => have := HJ.out; simp [Go.RowKit.intOf]; omega
    · have q2 : decide ((k : Int) ≤ 5) = true := decide_eq_true (by omega)
      have hw : IntKind.i64.wrap ((k : Int) + 1) = ((k + 1 : Nat) : Int) := (IntWalk.i64_in _ (by omega)).trans (by omega)
      have HK := hide hlt
      obtain ⟨f, hf⟩ := HEX.out k
      obtain ⟨g, hgg⟩ := HEX.out ((k + 1 : Nat) : Int)
      have hs4 := HST.out.grow hg
      have HA := hide (hs4.within (c := cap1) k hs4.rd (by omega) hs4.i64 hf)
      have HB := hide (fun (W : World) (c : Grow wr W) => (hs4.grow c).within (c := cap1) ((k + 1 : Nat) : Int) (hs4.grow c).rd (by omega) hs4.i64 hgg)
      have HIN := hide (fun i (h : i ∈ clL L f) => (show hasB (clL L g) i = true from hasB_iff.2 ((clL_mem hgg).2 (grows_lev hf hgg (by omega) ((clL_mem hf).1 h)))))
      have HL1 := hide (hs4.cl_in g)
      have HL0 := hide (hs4.cl_in f).2
      have HGR := hide hg
      clear hf hgg hs4 hg hk hlt
      generalize clL L f = xs at *
      generalize clL L g = ys at *
      obtain ⟨n1, hn1⟩ : ∃ n1, xs.length = n1 := ⟨_, rfl⟩
      obtain ⟨n2, hn2⟩ : ∃ n2, ys.length = n2 := ⟨_, rfl⟩
      have HN1 := hide hn1
      have HN2 := hide hn2
      rw [hn1] at HA HL0
      rw [hn2] at HB
      clear hn1 hn2
      go_wp2_with fail
      refine HA.out.mono ?_
      rintro e w5 ⟨ha, hca, rfl, ho, c5⟩
      have HO1 := hide ho
      have HG5 := hide c5
      clear ho c5 HA
      go_wp2_with fail
      refine (HB.out _ HG5.out).mono ?_
      rintro e w6 ⟨hb, hcb, rfl, ho, c6⟩
      have HOA := hide (OL.grow HO1.out c6)
      have HOB := hide ho
      have HG6 := hide (HGR.out.trans (HG5.out.trans c6))
      clear ho c6 HO1 HB HG5
      go_wp2_with fail
      go_loopw [54] (fun v wr => ∃ j : Nat, j ≤ n1 ∧ v = .int .i64 j ∧ Grow w6 wr) (fun v _ => n1 - (Go.RowKit.intOf v).toNat)
      case atStart => exact ⟨0, Nat.zero_le _, rfl, Chg.refl _ _⟩
      case round =>
        obtain ⟨j, hj, rfl, gg⟩ := hrel
        rcases Nat.eq_or_lt_of_le hj with hje | hjl
        · have hje2 := hje.symm
          subst hje2
          have q3 : decide ((n1 : Int) < n1) = false := by simp
          have HY := hide (HG6.out.trans gg)
          clear gg hj hje
          go_wp2
          go_roundw
          case rel => exact ⟨k + 1, HK.out, rfl, HY.out⟩
          case measure => have := HK.out; simp [Go.RowKit.intOf]; omega
        · have q3 : decide ((j : Int) < n1) = true := decide_eq_true (by omega)
          have hwj : IntKind.i64.wrap ((j : Int) + 1) = ((j + 1 : Nat) : Int) := (IntWalk.i64_in _ (by have := HL0.out; omega)).trans (by omega)
          obtain ⟨gl, hla, -, -, -, hcj⟩ := L9.own_at (own_cast (OL.grow HOA.out gg) HN1.out) hjl
          subst hla
          have hm := getD_mem (xs := xs) (j := j) (by rw [HN1.out]; exact hjl)
          have hmt := HIN.out _ hm
          have HHA := hide (has_n (OL.grow HOB.out gg) HN2.out HL1.out.1 HL1.out.2 (xs.getD j 0))
          rw [hmt] at HHA
          generalize xs.getD j 0 = t at *
          have HJ := hide hjl
          have HGJ := hide gg
          clear gg hj hjl hm hmt
          go_wp2_with fail
          refine HHA.out.mono ?_
          rintro e w7 ⟨rfl, c7⟩
          have HY := hide (HGJ.out.trans c7)
          clear c7 hcj HHA
          go_wp2
          go_roundw
          case rel => exact ⟨j + 1, HJ.out, rfl, HY.out⟩
          case measure => have := HJ.out; simp [Go.RowKit.intOf]; omega
theorem walk (u : Wo) (cs : List Cl) (ns : List Int) (ts : List Tr) (a1 : Option Addr) (len1 cap1 : Nat) (zs : List Int) (lev : Int) (w : World) (h0 : IsWo w u cs ns ts) (h1 : IsRow .i64 w a1 len1 cap1 zs) (h2 : (Lit.int .i64 lev).wf = true) :
    Calls Try.prog 4 #[Wo.v u, .slice a1 len1 cap1, .int .i64 lev] w fun e w' => e = .returned (.bool true) ∧ Below w.heap.size w w' := by
  by_cases hg : good u cs
  · by_cases hl : 40 < len1
    · exact walk_no h0 h1 (.inr ⟨hg, hl⟩)
    · exact walk_main h0 h1 hg (by omega) h2
  · exact walk_no h0 h1 (.inl hg)
end
theorem own : ownKnob Try.prog.godebug = none := by kernel_rfl
theorem laidOut : laidOutB Try.prog = true := by kernel_rfl

set_option maxRecDepth 100000 in
theorem lifted (os : Os) (started : os.Started) (H : Type) (enc : TypeId × Value → H) :
    ReturnsInHanded {} Try.checked os 4 .any (Rows.strengthGrowsSpec.pre6 enc Try.prog Try.f4 Rows.strengthGrowsRow.domain false) (Rows.strengthGrowsSpec.post enc Try.prog Try.f4 false true false false) := by
  refine returnsInHanded_of_change (C := Try.checked) own started (by kernel_rfl) Try.func4
    (ChangeSpec.witness6 (enc := enc) (C := Try.checked) false ⟨#[], #[.agg #[.slice none 0 0, .slice none 0 0, .slice none 0 0], .slice none 0 0, .int .i64 0], []⟩ 8 (by kernel_rfl) (by kernel_rfl) (by kernel_rfl) (by kernel_rfl)) ?_
  intro W base args ds gs before hval0 hW hcnd _
  have hval : ∀ (j : Nat) t v, Try.f4.params[j]? = some t → args[j]? = some v → Value.okWide Try.prog W .any base t v := hval0
  have hW' := hW
  obtain ⟨p, q, hA0, hV, rfl, hfz, hnd⟩ := hW
  have hA : DataW.TrodAll enc Try.prog W 0 (fun _ => true) true Try.f4.params.toList args.toList ds p := hA0
  rw [Try.params4] at hA hval
  obtain ⟨v0, vs0, d0, ds0, p0, q0, hargs, rfl, rfl, h0, r0⟩ := trodAll_cons hA
  obtain ⟨v1, vs1, d1, ds1, p1, q1, rfl, rfl, rfl, h1, r1⟩ := trodAll_cons r0
  obtain ⟨v2, vs2, d2, ds2, p2, q2, rfl, rfl, rfl, h2, r2⟩ := trodAll_cons r1
  obtain ⟨rfl, rfl, rfl⟩ := trodAll_nil r2
  obtain rfl : args = #[v0, v1, v2] := by cases args; simp_all
  obtain ⟨rfl, rfl⟩ := trodVars_none hV
  have k0 := h0
  have lt0 : ∀ x ∈ p0, x.block < W.heap.size := by obtain ⟨m, hm⟩ := k0; exact DataW.trod_lt m _ _ _ hm
  obtain ⟨u0, cs0, ns0, ts0, rfl, w0⟩ := open_world (hval 0 26 v0 rfl rfl) h0
  obtain ⟨a1, len1, cap1, rfl⟩ := okWide_slice Try.underlying27 (hval 1 27 v1 rfl rfl)
  have k1 := h1
  have lt1 : ∀ x ∈ p1, x.block < W.heap.size := by obtain ⟨m, hm⟩ := k1; exact DataW.trod_lt m _ _ _ hm
  obtain ⟨z1, w1⟩ : ∃ zs, IsRow .i64 W a1 len1 cap1 zs := open_row Try.underlying27 Try.underlying3 (by kernel_rfl) h1
  obtain ⟨a2, rfl, rfl, rfl, w2⟩ := open_int Try.underlying3 (hval 2 3 v2 rfl rfl) h2
  clear hA0 hval0
  refine (walk u0 cs0 ns0 ts0 a1 len1 cap1 z1 a2 W w0 w1 w2).mono fun e W' ⟨he, bel⟩ => ?_
  subst he
  exact ⟨_, rfl, _, _, _, [], _, [], hW', trodAll_mk1 (shut_bool Try.underlying4 _), (trodAll_cons_mk (Below.trod laidOut (by kernel_rfl) (of_decide_eq_true (by kernel_rfl)) k0 bel lt0) (trodAll_cons_mk (Below.trod laidOut (by kernel_rfl) (of_decide_eq_true (by kernel_rfl)) k1 bel lt1) (trodAll_cons_mk (shut_int Try.underlying3 w2) trodAll_mk0))), rfl, bel.frame _, fun h => by cases h⟩

theorem over : Rows.strengthGrowsRow.holds Try.pinned (OpenSpec.ofChange Rows.strengthGrowsSpec) :=
  OpenClaim.holds_of_wide 4 Try.f4 rfl rfl rfl rfl rfl rfl rfl ⟨rfl, rfl, rfl, rfl, rfl⟩ rfl rfl rfl rfl rfl (by kernel_rfl) Try.func4 (by kernel_rfl)
    (of_decide_eq_true (by kernel_rfl)) (by unfold Func.isWrapper; first | (rw [if_pos (by decide +kernel)]; kernel_rfl) | (rw [if_neg (by decide +kernel)]; exact ⟨rfl, rfl⟩))
    (fun os started H enc _ => lifted os started H enc)

/-- The statement. -/
theorem proved : Rows.StrengthGrowsSaid := over
#print axioms proved
end Go.Proofs.Ytfiopfeejdmcoaa.strengthGrows


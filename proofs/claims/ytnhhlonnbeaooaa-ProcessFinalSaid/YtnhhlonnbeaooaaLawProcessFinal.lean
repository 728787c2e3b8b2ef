/- For all worlds and roots ProcessFinal answers true: a node that is Final stays; it is to be finalized just if it isn't live without that; done, and applied, it goes the next time. Conditions: none. -/
import Derived.Test.YtnhhlonnbeaooaaL13W
namespace Go.Proofs.Ytnhhlonnbeaooaa.processFinal
open Go.ChangeShapes Go.WideShapes Go.ChangeAt Go.RowKit Go.Proofs.Ytnhhlonnbeaooaa.L10 Go.Proofs.Ytnhhlonnbeaooaa.L13
open Go.Proofs.Ytnhhlonnbeaooaa.L9 (Nd nd GS RG Rf Lok In64 Srt nd_some nd_none nd_mem own_rd own_cast ptr newX_rt hasB hldX aimX wpList_app aim_gs node_yes kpL kpN)
open Go.Proofs.Ytnhhlonnbeaooaa.graphKeeps (Clo nd_ne)
open Go.Proofs.Ytnhhlonnbeaooaa.L5 (Cl clAt isRf IsCls newX)
set_option linter.unusedVariables false
section
variable {w : World} {u : Wo} {cs : List Cl} {ns : List Int} {ts : List Tr} {a1 : Option Addr} {len1 cap1 : Nat} {zs : List Int}
set_option maxRecDepth 100000 in
set_option maxHeartbeats 2000000 in
theorem walk_no (h0 : IsWo w u cs ns ts) (h1 : IsRow .i64 w a1 len1 cap1 zs) (hg : ¬ good u cs ∨ (good u cs ∧ 40 < len1)) :
    Calls Try.prog 8 #[Wo.v u, .slice a1 len1 cap1] w fun e w' => e = .returned (.bool true) ∧ Below w.heap.size w w' := by
  rcases hg with hg | hg
  · skip
    obtain ⟨ca, cl, cc, na, nl, nc, ra, rl, rc⟩ := u
    obtain ⟨hbx, gB, -⟩ := boxes1 w 26 [.slice ca cl cc, .slice na nl nc, .slice ra rl rc]
    have HWO := hide (h0.chg gB fun _ _ => id)
    have HRW := hide h1
    have HBX := hide hbx
    clear h0 h1 hbx
    have HM := hide (made_no HWO.out hg)
    clear hg HWO HRW HBX
    go_enter Try.func8, Try.ntmps8
    go_wp2_with fail
    refine HM.out.mono ?_
    rintro e w3 ⟨rfl, c3⟩
    have HG := hide (gB.trans c3)
    clear gB c3 HM
    go_wp2_with fail
    refine (awake_any _).mono ?_
    rintro e w4 ⟨rfl, c4⟩
    have HG4 := hide (HG.out.trans c4)
    clear c4
    go_wp2_with fail
    refine (awake_any _).mono ?_
    rintro e w5 ⟨rfl, c5⟩
    have HG5 := hide (HG4.out.trans c5)
    clear c5
    go_wp2
    go_ret
    exact ⟨rfl, HG5.out.below (fun _ _ h => h) (Nat.le_refl _)⟩
  · obtain ⟨hg, hlen⟩ := hg
    obtain ⟨ca, cl, cc, na, nl, nc, ra, rl, rc⟩ := u
    obtain ⟨hbx, gB, -⟩ := boxes1 w 26 [.slice ca cl cc, .slice na nl nc, .slice ra rl rc]
    have HWO := hide (h0.chg gB fun _ _ => id)
    have HRW := hide h1
    have HBX := hide hbx
    clear h0 h1 hbx
    have HM := hide (made_yes HWO.out hg)
    have q1 : decide ((len1 : Int) > 40) = true := by simp; omega
    clear hg HWO HRW HBX hlen
    go_enter Try.func8, Try.ntmps8
    go_wp2_with fail
    refine HM.out.mono ?_
    rintro e w3 ⟨z, p, q, L, rfl, -, -, -, -, -, c3⟩
    have HG := hide (gB.trans c3)
    clear gB c3 HM
    go_wp2_with fail
    refine (awake_any _).mono ?_
    rintro e w4 ⟨rfl, c4⟩
    have HG4 := hide (HG.out.trans c4)
    clear c4
    go_wp2_with fail
    refine (awake_any _).mono ?_
    rintro e w5 ⟨rfl, c5⟩
    have HG5 := hide (HG4.out.trans c5)
    clear c5
    go_wp2
    go_ret
    exact ⟨rfl, HG5.out.below (fun _ _ h => h) (Nat.le_refl _)⟩
set_option maxRecDepth 100000 in
set_option maxHeartbeats 8000000 in
theorem walk_main (h0 : IsWo w u cs ns ts) (h1 : IsRow .i64 w a1 len1 cap1 zs) (hg : good u cs) (hle : len1 ≤ 40) :
    Calls Try.prog 8 #[Wo.v u, .slice a1 len1 cap1] w fun e w' => e = .returned (.bool true) ∧ Below w.heap.size w w' := by
  obtain ⟨ca, cl, cc, na, nl, nc, ra, rl, rc⟩ := u
  obtain ⟨hbx, gB, -⟩ := boxes1 w 26 [.slice ca cl cc, .slice na nl nc, .slice ra rl rc]
  have HWO := hide (h0.chg gB fun _ _ => id)
  have HRW := hide h1
  have HBX := hide hbx
  clear h0 h1 hbx
  have HM := hide (made_yes HWO.out hg)
  have q1 : decide ((len1 : Int) > 40) = false := by simp; omega
  have HGD := hide (show nl ≤ 40 ∧ newX cs = 0 ∧ cl ≤ 63 from ⟨hg.1.1, hg.2.2, hg.2.1.2⟩)
  have HLE := hide hle
  clear hg hle
  go_enter Try.func8, Try.ntmps8
  go_wp2_with fail
  refine HM.out.mono ?_
  rintro e w3 ⟨z, p, q, L, rfl, hbo, hids, hrv, hfv, hzz, c3⟩
  obtain ⟨S, T, hgs, hrg, hap⟩ := hbo
  obtain ⟨b, hb⟩ : ∃ b, w.heap.size = b := ⟨_, rfl⟩
  have hst : St w w3 b z p q S T ca cl cc na nl nc ra rl rc cs L a1 len1 cap1 zs := ⟨gB.trans c3, hgs, ⟨hrg, HWO.out.c.chg c3 fun _ _ => id, hgs.lok, (newX_rt HGD.out.2.1).1, by have := congrArg List.length hids; rw [List.length_map, nms_len] at this; have := HGD.out.1; omega, by have := HGD.out.2.2; omega⟩, hap, HRW.out.chg (gB.trans c3) fun _ _ => id, by rw [← hb]; exact HBX.out.chg c3 id, hids, HGD.out.1, hrv, hfv, Nat.le_trans gB.size hzz, by rw [← hb]; exact Nat.lt_of_lt_of_le HBX.out.lt hzz, HRW.out, HLE.out⟩
  rw [hb]
  have HGB := hide gB
  clear gB HM hids hrv hfv hgs hrg hap HWO HRW HBX HGD HLE
  go_wp2_with fail
  refine (awake_any _).mono ?_
  rintro e w4 ⟨rfl, c4⟩
  have HST := hide (hst.grow c4)
  skip
  clear c3 c4 hst hb HGB hzz
  obtain ⟨p1, q1', hR⟩ := ex_rs cs L no zs
  obtain ⟨r, hr⟩ := ex_rc cs L 1 zs
  have hrp : r = p1 := by
    have h1 : IsKc cs L no zs r := fun i => by rw [hr i]; exact ⟨Rc.toKc, Kc.toRc⟩
    exact h1.eq hR.a
  subst hrp
  have hl40 := HST.out.l40
  have hz := HST.out.z40
  have hlok := HST.out.lok
  have hclo := HST.out.clo
  obtain ⟨l1, e1⟩ : ∃ l, clL L q1' = l := ⟨_, rfl⟩
  obtain ⟨l2, e2⟩ : ∃ l, ces cs L r q1' = l := ⟨_, rfl⟩
  obtain ⟨l3, e3⟩ : ∃ l, clL L (fi L r) = l := ⟨_, rfl⟩
  obtain ⟨l4, e4⟩ : ∃ l, clL L r = l := ⟨_, rfl⟩
  obtain ⟨m1, f1⟩ : ∃ n, l1.length = n := ⟨_, rfl⟩
  obtain ⟨m2, f2⟩ : ∃ n, l2.length = n := ⟨_, rfl⟩
  obtain ⟨m3, f3⟩ : ∃ n, l3.length = n := ⟨_, rfl⟩
  obtain ⟨m4, f4⟩ : ∃ n, l4.length = n := ⟨_, rfl⟩
  have HCL := hide (close_l (cc := cap1) HST.out.pg hl40 HST.out.rd (by omega) hr e4 f4)
  have HRU := hide (fun (W : World) (g : Grow w4 W) => run_ln (cc := cap1) (HST.out.grow g).gs hl40 (HST.out.grow g).rd (by omega) HST.out.i64 hR e1 e2 e3 f1 f2 f3)
  have HF := hide (show ∀ x ∈ L, (x.fin = true → hasB l1 x.id = true) ∧ hasB l3 x.id = (x.fin && !r x.id) ∧ hasB l4 x.id = r x.id from fun x hx => by
    have hfb := L10.fnB_nd hlok.1 hx
    refine ⟨fun hf => ?_, ?_, ?_⟩
    · rw [← e1, has_cl hlok.1 fun i hi => hR.n2 hi]
      exact hR.fin hlok.1 (by rw [hfb]; exact hf)
    · rw [← e3, has_cl hlok.1 fun i hi => fi_nd hi]
      unfold fi
      rw [hfb]
    · rw [← e4, has_cl hlok.1 fun i hi => hR.n1 hi])
  have HM := hide (show m1 ≤ 40 ∧ m3 ≤ 40 from by
    rw [← f1, ← f3, ← e1, ← e3]
    have h1 := clL_le L q1'
    have h2 := clL_le L (fi L r)
    omega)
  obtain ⟨L', hL'⟩ : ∃ L', apL cs L l1 l2 l3 = L' := ⟨_, rfl⟩
  have hL2 : gAp cs L r q1' = L' := by rw [← hL', ← e1, ← e2, ← e3]
  obtain ⟨p2, q2', hR2⟩ := ex_rs cs L' no zs
  have hp2 : p2 = r := by
    rw [← hL2] at hR2
    exact hR.again_p hlok hclo hR2
  have hn2 : clL L' (fi L' p2) = [] := by
    rw [← hL2] at hR2 ⊢
    exact hR.again_fin hlok hclo hR2 (fun _ h => h) fun _ h => h
  have hs2 : Srt L' := by rw [← hL2]; exact hR.ap_srt hlok hclo
  have hq2 : q2' = p2 := hR2.same hn2 hs2
  have hr2 : IsRc cs L' 1 zs p2 := fun i => by
    rw [hR2.a i]
    exact ⟨Kc.toRc, Rc.toKc⟩
  have hl2 : L'.length ≤ 40 := by
    have h1 := hR.ap_ids hlok hclo
    rw [hL2] at h1
    have h2 := congrArg List.length h1
    rw [List.length_map] at h2
    have := clL_le L q1'
    omega
  obtain ⟨l5, e5⟩ : ∃ l, clL L' q2' = l := ⟨_, rfl⟩
  obtain ⟨l6, e6⟩ : ∃ l, ces cs L' p2 q2' = l := ⟨_, rfl⟩
  obtain ⟨m5, f5⟩ : ∃ n, l5.length = n := ⟨_, rfl⟩
  obtain ⟨m6, f6⟩ : ∃ n, l6.length = n := ⟨_, rfl⟩
  have HAP := hide (fun (W : World) (g : Grow w4 W) => (HST.out.grow g).gs)
  have HR2 := hide (fun (W : World) (g : Grow w W) (hg : GS W z S p cs L') => run_ln (cc := cap1) hg hl2 (HST.out.rd_old g) (by omega) HST.out.i64 hR2 e5 e6 hn2 f5 f6 (show ([] : List Int).length = 0 from rfl))
  have HRE := hide (fun (W : World) (g : Grow w W) (hg : GS W z S p cs L') => reach_l (cc := cap1) hg hl2 (HST.out.rd_old g) (by omega) HST.out.i64 hr2 (show clL L' p2 = l5 by rw [← e5, hq2]) f5)
  have HM5 := hide (show m5 ≤ 40 from by rw [← f5, ← e5]; have := clL_le L' q2'; omega)
  have HL40 := hide hl40
  have HLP := hide hL'
  have HSB := hide HST.out.sb
  obtain ⟨v, rr, dd, ow, hrf⟩ := HST.out.pg.r
  obtain ⟨va, vc, hv⟩ := hrf.val
  subst hv
  have HRF := hide hrf
  obtain ⟨N, hN⟩ : ∃ N, L.length = N := ⟨_, rfl⟩
  have HN := hide hN
  have kk1 := hrf.cell1
  rw [hN] at kk1
  clear hR hr hl40 hz hlok hclo e1 e2 e3 e4 f1 f2 f3 f4 hL' hL2 hR2 hp2 hn2 hs2 hq2 hr2 hl2 e5 e6 f5 f6 hrf hN
  go_wp2_with fail
  refine HCL.out.mono ?_
  rintro e w5 ⟨sa, sc, rfl, hnl, g5⟩
  have HS5 := hide hnl
  replace kk1 := g5.cell kk1
  have HG5 := hide g5
  clear hnl g5 HCL
  go_wp2_with fail
  refine (HRU.out _ HG5.out).mono ?_
  rintro e w6 ⟨x1, y1, x2, y2, x3, y3, rfl, o1, o2, o3, c6⟩
  have HA := hide (Rr.boxed c6 o1 o2 o3)
  have hcc := c6.alloc (.cells [.slice x1 m1 y1, .slice x2 m2 y2, .slice x3 m3 y3].toArray 35)
  have HS6 := hide (HS5.out.grow hcc)
  have HG6 := hide (HG5.out.trans hcc)
  replace kk1 := Grow.cell hcc kk1
  clear o1 o2 o3 c6 hcc HRU HS5
  go_wp2_with fail
  generalize w6.alloc (.cells #[.slice x1 m1 y1, .slice x2 m2 y2, .slice x3 m3 y3] 35) = wa at *
  generalize w6.heap.size = ta at *
  clear kk1
  go_loopw [43] (fun v wr => ∃ k : Nat, k ≤ N ∧ v = .int .i64 k ∧ Grow wa wr) (fun v _ => N - (Go.RowKit.intOf v).toNat)
  case atStart => exact ⟨0, Nat.zero_le _, rfl, Chg.refl _ _⟩
  case round =>
    obtain ⟨k, hk, rfl, hg⟩ := hrel
    rcases Nat.eq_or_lt_of_le hk with hke | hlt
    · have hke2 := hke.symm
      subst hke2
      clear hke
      have q1 : decide ((N : Int) < N) = false := by simp
      have hA := HA.out.grow hg
      have r0 := hA.k0
      have r1 := hA.k1
      have r2 := hA.k2
      have HA2 := hide hA
      have HAPP := hide (apply_l (HAP.out _ (HG6.out.trans hg)) HL40.out hA (fun k hk => Nat.lt_of_lt_of_le (HSB.out k hk) HG5.out.size) (by have := HM.out; omega))
      rw [HLP.out] at HAPP
      have HG7 := hide (HG6.out.trans hg)
      clear hA hg hk
      go_wp2_with fail
      clear r0 r1 r2
      refine HAPP.out.mono ?_
      rintro e w8 ⟨rfl, c8, h8⟩
      have HA8 := hide (HA2.out.chg c8 fun k hk => Nat.lt_of_lt_of_le (HSB.out k hk) HG5.out.size)
      have HO8 := hide (HST.out.old HG7.out c8)
      have H8 := hide h8
      clear c8 h8 HAPP HA2
      go_wp2_with fail
      refine (HR2.out _ HO8.out H8.out).mono ?_
      rintro e w10 ⟨x4, y4, x5, y5, x6, y6, rfl, o1, o2, o3, c10⟩
      have HB := hide (Rr.boxed c10 o1 o2 o3)
      have hcc := c10.alloc (.cells [.slice x4 m5 y4, .slice x5 m6 y5, .slice x6 0 y6].toArray 35)
      have HA9 := hide (HA8.out.grow hcc)
      have HO9 := hide (HO8.out.trans hcc)
      have H9 := hide (H8.out.grow hcc)
      have r2 := HA9.out.k2
      clear o1 o2 o3 c10 hcc HR2 HA8 HO8 H8
      go_wp2_with fail
      generalize w10.alloc (.cells #[.slice x4 m5 y4, .slice x5 m6 y5, .slice x6 0 y6] 35) = wb at *
      generalize w10.heap.size = tb at *
      clear r2
      go_loopw [90] (fun v wr => ∃ k : Nat, k ≤ m3 ∧ v = .int .i64 k ∧ Grow wb wr) (fun v _ => m3 - (Go.RowKit.intOf v).toNat)
      case atStart => exact ⟨0, Nat.zero_le _, rfl, Chg.refl _ _⟩
      case round =>
        obtain ⟨k, hk, rfl, hg⟩ := hrel
        rcases Nat.eq_or_lt_of_le hk with hke | hlt
        · have hke2 := hke.symm
          subst hke2
          clear hke
          have q1 : decide ((m3 : Int) < m3) = false := by simp
          have r0 := (HB.out.grow hg).k0
          have r2 := (HB.out.grow hg).k2
          have HRX := hide (fun (W : World) (g : Grow wr W) => HRE.out W ((HO9.out.trans hg).trans g) ((H9.out.grow hg).grow g))
          have HB2 := hide (HB.out.grow hg)
          have HE := hide (HO9.out.trans hg)
          clear hg hk
          have HK1 := hide (fun (W : World) (c : Grow wr.drew W) => And.intro (c.cell (show wr.drew.cell? ⟨tb, 0, none⟩ = some (.slice x4 m5 y4) from r0)) (c.cell (show wr.drew.cell? ⟨tb, 2, none⟩ = some (.slice x6 0 y6) from r2)))
          have HRO := hide (fun (W : World) (c : Grow wr.drew W) => (HB2.out.grow ((Chg.refl (fun _ => False) wr).drew.trans c)).o1.rd)
          go_wp2_with fail
          go_region_held3 (fun W => W.cell? ⟨tb, 0, none⟩ = some (.slice x4 m5 y4) ∧ W.cell? ⟨tb, 2, none⟩ = some (.slice x6 0 y6)) (first | exact HK1.out _ c5 | exact HK1.out _ (c5.trans c6) | go_keep) (first | (go_at_call 19; refine (HRX.out _ ((Chg.refl (fun _ => False) wr).drew)).mono ?_; rintro e w11 ⟨fa, fc, rfl, hnl, c5⟩) | (go_at_call 22; refine (L1.same_yes _ _ m5 _ _ l5 _ (HRO.out _ c5) (hnl.rd) (by have := HM5.out; omega)).mono ?_; rintro e w12 ⟨rfl, c6⟩))
          go_wp2
          go_ret
          exact ⟨by simp, (((HE.out.trans ((Chg.refl (fun _ => False) wr).drew)).trans c5).trans c6).below (fun _ _ h => h) (Nat.le_refl _)⟩
        · have q1 : decide ((k : Int) < m3) = true := decide_eq_true (by omega)
          have q2 : k < m3 := hlt
          have hw : IntKind.i64.wrap ((k : Int) + 1) = ((k + 1 : Nat) : Int) := (IntWalk.i64_in _ (by have := HM.out; omega)).trans (by omega)
          obtain ⟨g, rfl, k0, hi, hm⟩ := (HA9.out.grow hg).o3.at_ hlt
          have r2 := (HB.out.grow hg).k2
          have s2 := (HA9.out.grow hg).k2
          have HX1 := hide (fun (W : World) (gg : Grow wr W) => ((HB.out.grow hg).grow gg).o3.has (l3.getD k 0))
          have hno : ∀ y, hasB [] y = false := fun y => rfl
          rw [hno] at HX1
          generalize l3.getD k 0 = i at *
          have HLT := hide hlt
          have HGG := hide hg
          clear hno hm hi hlt hk hg
          go_wp2_with fail
          refine wp_region_grow (by kernel_rfl) (by kernel_rfl) ?_
          repeat (
            with_reducible refine wpQuiet_step ?_
            intro K hK
            first
              | ((with_reducible refine quiet_offT rfl ?_ (hK _ ?_)); focus (refine ⟨_, rfl, ?_⟩; with_reducible rfl))
              | ((with_reducible refine quiet_offF rfl ?_ (hK _ ?_)); focus (refine ⟨_, rfl, ?_⟩; with_reducible rfl))
              | ((with_reducible refine quiet_offN rfl ?_ (hK _ ?_)); focus (exact rfl))
              | ((first | with_reducible refine quiet_free rfl ?_ | ((with_reducible refine quiet_on rfl ?_ ?_); focus (refine ⟨_, rfl, ?_⟩; with_reducible rfl)))
                 apply Exists.intro
                 refine ⟨fun Wq hW => ?_, hK _ ?_⟩
                 focus (have q0 := Grow.cell hW r2; have q1 := Grow.cell hW s2; have q2 := Grow.cell hW k0; go_simp; first | done | with_reducible rfl | (go_at_call 16; (first | with_reducible exact grown_call hW (HX1.out _ hW) | with_reducible exact grown_same hW (HX1.out _ hW)))))
            clear hK K
            simp only [Act.put, List.setIfInBounds_toArray, List.set_cons_zero, List.set_cons_succ])
          with_reducible refine wpQuiet_nil ?_
          intro w11 c11
          have HN2 := hide (HGG.out.trans c11)
          clear c11 r2 s2 k0 HX1
          go_wp2
          go_roundw
          case rel => exact ⟨k + 1, HLT.out, rfl, HN2.out⟩
          case measure => have := HLT.out; simp [Go.RowKit.intOf]; omega
    · have q1 : decide ((k : Int) < N) = true := decide_eq_true (by omega)
      have q2 : k < N := hlt
      obtain ⟨x, hx⟩ : ∃ x, L[k]? = some x := ⟨_, List.getElem?_eq_getElem (by rw [HN.out]; exact hlt)⟩
      have hxm := List.mem_of_getElem? hx
      have hw : IntKind.i64.wrap ((k : Int) + 1) = ((k + 1 : Nat) : Int) := (IntWalk.i64_in _ (by have := HN.out; have := HL40.out; omega)).trans (by omega)
      have hrf := HRF.out.chg (HG6.out.trans hg) fun _ _ => id
      have kk1 := hrf.cell1
      rw [HN.out] at kk1
      obtain ⟨gn, rfl, -, -, -, x0, xx1, xx2, xx3, x4'⟩ := hrf.at2 hx
      obtain ⟨hf1, hf2, hf3⟩ := HF.out x hxm
      have hA := HA.out.grow hg
      have hS := HS6.out.grow hg
      obtain ⟨i, hi⟩ : ∃ i, x.id = i := ⟨_, rfl⟩
      obtain ⟨xc, hxc⟩ : ∃ i, x.c = i := ⟨_, rfl⟩
      obtain ⟨fin, hfin⟩ : ∃ i, x.fin = i := ⟨_, rfl⟩
      rw [hi] at x0 xx2 xx3 hf1 hf2 hf3
      rw [hxc] at xx1
      rw [hfin] at x4' hf1 hf2
      obtain ⟨rb, hrb⟩ : ∃ v, rr i = v := ⟨_, rfl⟩
      obtain ⟨db, hdb⟩ : ∃ v, dd i = v := ⟨_, rfl⟩
      obtain ⟨rn, hrn⟩ : ∃ v, x.refs.length = v := ⟨_, rfl⟩
      obtain ⟨dn, hdn⟩ : ∃ v, x.data.length = v := ⟨_, rfl⟩
      rw [hrb, hrn] at xx2
      rw [hdb, hdn] at xx3
      have gN := Grow.box wr (.cells [.int .i64 i, .int .i64 xc, .slice (some ⟨rb, 0, none⟩) rn rn, .slice (some ⟨db, 0, none⟩) dn dn, .bool fin].toArray 38)
      have hnb := Blk.new wr 38 [.int .i64 i, .int .i64 xc, .slice (some ⟨rb, 0, none⟩) rn rn, .slice (some ⟨db, 0, none⟩) dn dn, .bool fin]
      have b0 := hnb.cell 0
      have b4 := hnb.cell 4
      have r0 := (hA.grow gN).k0
      have r2 := (hA.grow gN).k2
      have HX1 := hide (fun (W : World) (gg : Grow (wr.alloc (.cells [.int .i64 i, .int .i64 xc, .slice (some ⟨rb, 0, none⟩) rn rn, .slice (some ⟨db, 0, none⟩) dn dn, .bool fin].toArray 38)) W) => (hA.grow (gN.trans gg)).o1.has i)
      have HX2 := hide (fun (W : World) (gg : Grow (wr.alloc (.cells [.int .i64 i, .int .i64 xc, .slice (some ⟨rb, 0, none⟩) rn rn, .slice (some ⟨db, 0, none⟩) dn dn, .bool fin].toArray 38)) W) => (hA.grow (gN.trans gg)).o3.has i)
      have HX3 := hide (fun (W : World) (gg : Grow (wr.alloc (.cells [.int .i64 i, .int .i64 xc, .slice (some ⟨rb, 0, none⟩) rn rn, .slice (some ⟨db, 0, none⟩) dn dn, .bool fin].toArray 38)) W) => (hS.grow (gN.trans gg)).has i)
      rw [hf2] at HX2
      rw [hf3] at HX3
      have HGG := hide (hg.trans gN)
      have HLT := hide hlt
      generalize r i = ri at *
      clear hrf hA hS hx hxm hi hxc hfin hrb hdb hrn hdn hnb gN hf2 hf3 hg hlt hk
      cases fin with
      | true =>
        rw [hf1 rfl] at HX1
        clear hf1
        cases ri with
        | true =>
          go_wp2_with fail
          generalize wr.alloc (.cells #[.int .i64 i, .int .i64 xc, .slice (some ⟨rb, 0, none⟩) rn rn, .slice (some ⟨db, 0, none⟩) dn dn, .bool true] 38) = wn at *
          generalize wr.heap.size = nb at *
          refine wp_region_grow (by kernel_rfl) (by kernel_rfl) ?_
          repeat (
            with_reducible refine wpQuiet_step ?_
            intro K hK
            first
              | ((with_reducible refine quiet_offT rfl ?_ (hK _ ?_)); focus (refine ⟨_, rfl, ?_⟩; with_reducible rfl))
              | ((with_reducible refine quiet_offF rfl ?_ (hK _ ?_)); focus (refine ⟨_, rfl, ?_⟩; with_reducible rfl))
              | ((with_reducible refine quiet_offN rfl ?_ (hK _ ?_)); focus (exact rfl))
              | ((first | with_reducible refine quiet_free rfl ?_ | ((with_reducible refine quiet_on rfl ?_ ?_); focus (refine ⟨_, rfl, ?_⟩; with_reducible rfl)))
                 apply Exists.intro
                 refine ⟨fun Wq hW => ?_, hK _ ?_⟩
                 focus (have q0 := Grow.cell hW r0; have q1 := Grow.cell hW r2; have q2 := Grow.cell hW b0; have q3 := Grow.cell hW b4; go_simp; first | done | with_reducible rfl | (go_at_call 16; (first | with_reducible exact grown_call hW (HX1.out _ hW) | with_reducible exact grown_same hW (HX1.out _ hW))) | (go_at_call 16; (first | with_reducible exact grown_call hW (HX2.out _ hW) | with_reducible exact grown_same hW (HX2.out _ hW))) | (go_at_call 16; (first | with_reducible exact grown_call hW (HX3.out _ hW) | with_reducible exact grown_same hW (HX3.out _ hW)))))
            clear hK K
            simp only [Act.put, List.setIfInBounds_toArray, List.set_cons_zero, List.set_cons_succ])
          with_reducible refine wpQuiet_nil ?_
          intro w9 c9
          have HN2 := hide (HGG.out.trans c9)
          clear c9
          go_wp2
          go_roundw
          case rel => exact ⟨k + 1, HLT.out, rfl, HN2.out⟩
          case measure => have := HLT.out; simp [Go.RowKit.intOf]; omega
        | false =>
          go_wp2_with fail
          generalize wr.alloc (.cells #[.int .i64 i, .int .i64 xc, .slice (some ⟨rb, 0, none⟩) rn rn, .slice (some ⟨db, 0, none⟩) dn dn, .bool true] 38) = wn at *
          generalize wr.heap.size = nb at *
          refine wp_region_grow (by kernel_rfl) (by kernel_rfl) ?_
          repeat (
            with_reducible refine wpQuiet_step ?_
            intro K hK
            first
              | ((with_reducible refine quiet_offT rfl ?_ (hK _ ?_)); focus (refine ⟨_, rfl, ?_⟩; with_reducible rfl))
              | ((with_reducible refine quiet_offF rfl ?_ (hK _ ?_)); focus (refine ⟨_, rfl, ?_⟩; with_reducible rfl))
              | ((with_reducible refine quiet_offN rfl ?_ (hK _ ?_)); focus (exact rfl))
              | ((first | with_reducible refine quiet_free rfl ?_ | ((with_reducible refine quiet_on rfl ?_ ?_); focus (refine ⟨_, rfl, ?_⟩; with_reducible rfl)))
                 apply Exists.intro
                 refine ⟨fun Wq hW => ?_, hK _ ?_⟩
                 focus (have q0 := Grow.cell hW r0; have q1 := Grow.cell hW r2; have q2 := Grow.cell hW b0; have q3 := Grow.cell hW b4; go_simp; first | done | with_reducible rfl | (go_at_call 16; (first | with_reducible exact grown_call hW (HX1.out _ hW) | with_reducible exact grown_same hW (HX1.out _ hW))) | (go_at_call 16; (first | with_reducible exact grown_call hW (HX2.out _ hW) | with_reducible exact grown_same hW (HX2.out _ hW))) | (go_at_call 16; (first | with_reducible exact grown_call hW (HX3.out _ hW) | with_reducible exact grown_same hW (HX3.out _ hW)))))
            clear hK K
            simp only [Act.put, List.setIfInBounds_toArray, List.set_cons_zero, List.set_cons_succ])
          with_reducible refine wpQuiet_nil ?_
          intro w9 c9
          have HN2 := hide (HGG.out.trans c9)
          clear c9
          go_wp2
          go_roundw
          case rel => exact ⟨k + 1, HLT.out, rfl, HN2.out⟩
          case measure => have := HLT.out; simp [Go.RowKit.intOf]; omega
      | false =>
        clear hf1
        go_wp2_with fail
        generalize wr.alloc (.cells #[.int .i64 i, .int .i64 xc, .slice (some ⟨rb, 0, none⟩) rn rn, .slice (some ⟨db, 0, none⟩) dn dn, .bool false] 38) = wn at *
        generalize wr.heap.size = nb at *
        refine wp_region_grow (by kernel_rfl) (by kernel_rfl) ?_
        repeat (
          with_reducible refine wpQuiet_step ?_
          intro K hK
          first
            | ((with_reducible refine quiet_offT rfl ?_ (hK _ ?_)); focus (refine ⟨_, rfl, ?_⟩; with_reducible rfl))
            | ((with_reducible refine quiet_offF rfl ?_ (hK _ ?_)); focus (refine ⟨_, rfl, ?_⟩; with_reducible rfl))
            | ((with_reducible refine quiet_offN rfl ?_ (hK _ ?_)); focus (exact rfl))
            | ((first | with_reducible refine quiet_free rfl ?_ | ((with_reducible refine quiet_on rfl ?_ ?_); focus (refine ⟨_, rfl, ?_⟩; with_reducible rfl)))
               apply Exists.intro
               refine ⟨fun Wq hW => ?_, hK _ ?_⟩
               focus (have q0 := Grow.cell hW r0; have q1 := Grow.cell hW r2; have q2 := Grow.cell hW b0; have q3 := Grow.cell hW b4; go_simp; first | done | with_reducible rfl | (go_at_call 16; (first | with_reducible exact grown_call hW (HX1.out _ hW) | with_reducible exact grown_same hW (HX1.out _ hW))) | (go_at_call 16; (first | with_reducible exact grown_call hW (HX2.out _ hW) | with_reducible exact grown_same hW (HX2.out _ hW))) | (go_at_call 16; (first | with_reducible exact grown_call hW (HX3.out _ hW) | with_reducible exact grown_same hW (HX3.out _ hW)))))
          clear hK K
          simp only [Act.put, List.setIfInBounds_toArray, List.set_cons_zero, List.set_cons_succ])
        with_reducible refine wpQuiet_nil ?_
        intro w9 c9
        have HN2 := hide (HGG.out.trans c9)
        clear c9
        go_wp2
        go_roundw
        case rel => exact ⟨k + 1, HLT.out, rfl, HN2.out⟩
        case measure => have := HLT.out; simp [Go.RowKit.intOf]; omega
theorem walk (u : Wo) (cs : List Cl) (ns : List Int) (ts : List Tr) (a1 : Option Addr) (len1 cap1 : Nat) (zs : List Int) (w : World) (h0 : IsWo w u cs ns ts) (h1 : IsRow .i64 w a1 len1 cap1 zs) :
    Calls Try.prog 8 #[Wo.v u, .slice a1 len1 cap1] w fun e w' => e = .returned (.bool true) ∧ Below w.heap.size w w' := by
  skip
  by_cases hg : good u cs
  · by_cases hl : 40 < len1
    · exact walk_no h0 h1 (.inr ⟨hg, hl⟩)
    · exact walk_main h0 h1 hg (by omega)
  · exact walk_no h0 h1 (.inl hg)
end
theorem own : ownKnob Try.prog.godebug = none := by kernel_rfl
theorem laidOut : laidOutB Try.prog = true := by kernel_rfl

set_option maxRecDepth 100000 in
theorem lifted (os : Os) (started : os.Started) (H : Type) (enc : TypeId × Value → H) :
    ReturnsInHanded {} Try.checked os 8 .any (Rows.processFinalSpec.pre6 enc Try.prog Try.f8 Rows.processFinalRow.domain false) (Rows.processFinalSpec.post enc Try.prog Try.f8 false true false false) := by
  refine returnsInHanded_of_change (C := Try.checked) own started (by kernel_rfl) Try.func8
    (ChangeSpec.witness6 (enc := enc) (C := Try.checked) false ⟨#[], #[.agg #[.slice none 0 0, .slice none 0 0, .slice none 0 0], .slice none 0 0], []⟩ 8 (by kernel_rfl) (by kernel_rfl) (by kernel_rfl) (by kernel_rfl)) ?_
  intro W base args ds gs before hval0 hW hcnd _
  have hval : ∀ (j : Nat) t v, Try.f8.params[j]? = some t → args[j]? = some v → Value.okWide Try.prog W .any base t v := hval0
  have hW' := hW
  obtain ⟨p, q, hA0, hV, rfl, hfz, hnd⟩ := hW
  have hA : DataW.TrodAll enc Try.prog W 0 (fun _ => true) true Try.f8.params.toList args.toList ds p := hA0
  rw [Try.params8] at hA hval
  obtain ⟨v0, vs0, d0, ds0, p0, q0, hargs, rfl, rfl, h0, r0⟩ := trodAll_cons hA
  obtain ⟨v1, vs1, d1, ds1, p1, q1, rfl, rfl, rfl, h1, r1⟩ := trodAll_cons r0
  obtain ⟨rfl, rfl, rfl⟩ := trodAll_nil r1
  obtain rfl : args = #[v0, v1] := by cases args; simp_all
  obtain ⟨rfl, rfl⟩ := trodVars_none hV
  have k0 := h0
  have lt0 : ∀ x ∈ p0, x.block < W.heap.size := by obtain ⟨m, hm⟩ := k0; exact DataW.trod_lt m _ _ _ hm
  obtain ⟨u0, cs0, ns0, ts0, rfl, w0⟩ := open_world (hval 0 26 v0 rfl rfl) h0
  obtain ⟨a1, len1, cap1, rfl⟩ := okWide_slice Try.underlying27 (hval 1 27 v1 rfl rfl)
  have k1 := h1
  have lt1 : ∀ x ∈ p1, x.block < W.heap.size := by obtain ⟨m, hm⟩ := k1; exact DataW.trod_lt m _ _ _ hm
  obtain ⟨z1, w1⟩ : ∃ zs, IsRow .i64 W a1 len1 cap1 zs := open_row Try.underlying27 Try.underlying3 (by kernel_rfl) h1
  clear hA0 hval0
  refine (walk u0 cs0 ns0 ts0 a1 len1 cap1 z1 W w0 w1).mono fun e W' ⟨he, bel⟩ => ?_
  subst he
  exact ⟨_, rfl, _, _, _, [], _, [], hW', trodAll_mk1 (shut_bool Try.underlying4 _), (trodAll_cons_mk (Below.trod laidOut (by kernel_rfl) (of_decide_eq_true (by kernel_rfl)) k0 bel lt0) (trodAll_cons_mk (Below.trod laidOut (by kernel_rfl) (of_decide_eq_true (by kernel_rfl)) k1 bel lt1) trodAll_mk0)), rfl, bel.frame _, fun h => by cases h⟩

theorem over : Rows.processFinalRow.holds Try.pinned (OpenSpec.ofChange Rows.processFinalSpec) :=
  OpenClaim.holds_of_wide 8 Try.f8 rfl rfl rfl rfl rfl rfl rfl ⟨rfl, rfl, rfl, rfl, rfl⟩ rfl rfl rfl rfl rfl (by kernel_rfl) Try.func8 (by kernel_rfl)
    (of_decide_eq_true (by kernel_rfl)) (by unfold Func.isWrapper; first | (rw [if_pos (by decide +kernel)]; kernel_rfl) | (rw [if_neg (by decide +kernel)]; exact ⟨rfl, rfl⟩))
    (fun os started H enc _ => lifted os started H enc)

/-- The statement. -/
theorem proved : Rows.ProcessFinalSaid := over
#print axioms proved
end Go.Proofs.Ytnhhlonnbeaooaa.processFinal


/- For all worlds, roots and bits ProcessSoft answers true: the more is kept, the fewer Soft and Weak nodes of what is Strong are cleared; where all is kept no Strong Soft node is. Conditions: none. -/
import Derived.Test.YtnhhlonnbeaooaaL13W
namespace Go.Proofs.Ytnhhlonnbeaooaa.processSoft
open Go.ChangeShapes Go.WideShapes Go.ChangeAt Go.RowKit Go.Proofs.Ytnhhlonnbeaooaa.L10 Go.Proofs.Ytnhhlonnbeaooaa.L13
open Go.Proofs.Ytnhhlonnbeaooaa.L9 (Nd nd GS RG Rf Lok In64 Srt nd_some nd_none nd_mem own_rd own_cast ptr newX_rt hasB hldX aimX wpList_app aim_gs node_yes kpL kpN)
open Go.Proofs.Ytnhhlonnbeaooaa.graphKeeps (Clo nd_ne)
open Go.Proofs.Ytnhhlonnbeaooaa.L5 (Cl clAt isRf IsCls newX)
set_option linter.unusedVariables false
section
variable {w : World} {u : Wo} {cs : List Cl} {ns : List Int} {ts : List Tr} {a1 : Option Addr} {len1 cap1 : Nat} {zs : List Int} {B C : Nat}
theorem nat_u64 {x : Int} (h : (Lit.int .u64 x).wf = true) : ∃ B : Nat, x = B ∧ B < 18446744073709551616 := by
  simp [Lit.wf, IntKind.min, IntKind.max, IntKind.signed, IntKind.bits] at h
  exact ⟨x.toNat, by omega, by omega⟩
set_option maxRecDepth 100000 in
set_option maxHeartbeats 2000000 in
theorem walk_no (h0 : IsWo w u cs ns ts) (h1 : IsRow .i64 w a1 len1 cap1 zs) (hg : ¬ good u cs ∨ (good u cs ∧ 40 < len1)) :
    Calls Try.prog 7 #[Wo.v u, .slice a1 len1 cap1, .int .u64 B, .int .u64 C] w fun e w' => e = .returned (.bool true) ∧ Below w.heap.size w w' := by
  rcases hg with hg | hg
  · skip
    obtain ⟨ca, cl, cc, na, nl, nc, ra, rl, rc⟩ := u
    obtain ⟨hbx, hb2, hb3, gB, -⟩ := boxes3 w 26 [.slice ca cl cc, .slice na nl nc, .slice ra rl rc] 28 [.int .u64 (B : Int)] 28 [.int .u64 (C : Int)]
    have HB2 := hide hb2
    have HB3 := hide hb3
    clear hb2 hb3
    have HWO := hide (h0.chg gB fun _ _ => id)
    have HRW := hide h1
    have HBX := hide hbx
    clear h0 h1 hbx
    have HM := hide (made_no HWO.out hg)
    clear hg HWO HRW HBX
    go_enter Try.func7, Try.ntmps7
    go_wp2_with fail
    refine HM.out.mono ?_
    rintro e w3 ⟨rfl, c3⟩
    have HG := hide (gB.trans c3)
    clear gB c3 HM
    go_wp2_with fail
    refine (awake_any _).mono ?_
    rintro e w4 ⟨rfl, c4⟩
    have HG4 := hide (HG.out.trans c4)
    clear c4
    go_wp2_with fail
    refine (awake_any _).mono ?_
    rintro e w5 ⟨rfl, c5⟩
    have HG5 := hide (HG4.out.trans c5)
    clear c5
    go_wp2
    go_ret
    exact ⟨rfl, HG5.out.below (fun _ _ h => h) (Nat.le_refl _)⟩
  · obtain ⟨hg, hlen⟩ := hg
    obtain ⟨ca, cl, cc, na, nl, nc, ra, rl, rc⟩ := u
    obtain ⟨hbx, hb2, hb3, gB, -⟩ := boxes3 w 26 [.slice ca cl cc, .slice na nl nc, .slice ra rl rc] 28 [.int .u64 (B : Int)] 28 [.int .u64 (C : Int)]
    have HB2 := hide hb2
    have HB3 := hide hb3
    clear hb2 hb3
    have HWO := hide (h0.chg gB fun _ _ => id)
    have HRW := hide h1
    have HBX := hide hbx
    clear h0 h1 hbx
    have HM := hide (made_yes HWO.out hg)
    have q1 : decide ((len1 : Int) > 40) = true := by simp; omega
    clear hg HWO HRW HBX hlen
    go_enter Try.func7, Try.ntmps7
    go_wp2_with fail
    refine HM.out.mono ?_
    rintro e w3 ⟨z, p, q, L, rfl, -, -, -, -, -, c3⟩
    have HG := hide (gB.trans c3)
    clear gB c3 HM
    go_wp2_with fail
    refine (awake_any _).mono ?_
    rintro e w4 ⟨rfl, c4⟩
    have HG4 := hide (HG.out.trans c4)
    clear c4
    go_wp2_with fail
    refine (awake_any _).mono ?_
    rintro e w5 ⟨rfl, c5⟩
    have HG5 := hide (HG4.out.trans c5)
    clear c5
    go_wp2
    go_ret
    exact ⟨rfl, HG5.out.below (fun _ _ h => h) (Nat.le_refl _)⟩
set_option maxRecDepth 100000 in
set_option maxHeartbeats 8000000 in
theorem walk_main (h0 : IsWo w u cs ns ts) (h1 : IsRow .i64 w a1 len1 cap1 zs) (hg : good u cs) (hle : len1 ≤ 40) (hBB : B < 18446744073709551616) (hCC : C < 18446744073709551616) :
    Calls Try.prog 7 #[Wo.v u, .slice a1 len1 cap1, .int .u64 B, .int .u64 C] w fun e w' => e = .returned (.bool true) ∧ Below w.heap.size w w' := by
  obtain ⟨ca, cl, cc, na, nl, nc, ra, rl, rc⟩ := u
  obtain ⟨hbx, hb2, hb3, gB, -⟩ := boxes3 w 26 [.slice ca cl cc, .slice na nl nc, .slice ra rl rc] 28 [.int .u64 (B : Int)] 28 [.int .u64 (C : Int)]
  have HB2 := hide hb2
  have HB3 := hide hb3
  clear hb2 hb3
  have HWO := hide (h0.chg gB fun _ _ => id)
  have HRW := hide h1
  have HBX := hide hbx
  clear h0 h1 hbx
  have HM := hide (made_yes HWO.out hg)
  have q1 : decide ((len1 : Int) > 40) = false := by simp; omega
  have HGD := hide (show nl ≤ 40 ∧ newX cs = 0 ∧ cl ≤ 63 from ⟨hg.1.1, hg.2.2, hg.2.1.2⟩)
  have HLE := hide hle
  clear hg hle
  go_enter Try.func7, Try.ntmps7
  go_wp2_with fail
  refine HM.out.mono ?_
  rintro e w3 ⟨z, p, q, L, rfl, hbo, hids, hrv, hfv, hzz, c3⟩
  obtain ⟨S, T, hgs, hrg, hap⟩ := hbo
  obtain ⟨b, hb⟩ : ∃ b, w.heap.size = b := ⟨_, rfl⟩
  have hst : St w w3 b z p q S T ca cl cc na nl nc ra rl rc cs L a1 len1 cap1 zs := ⟨gB.trans c3, hgs, ⟨hrg, HWO.out.c.chg c3 fun _ _ => id, hgs.lok, (newX_rt HGD.out.2.1).1, by have := congrArg List.length hids; rw [List.length_map, nms_len] at this; have := HGD.out.1; omega, by have := HGD.out.2.2; omega⟩, hap, HRW.out.chg (gB.trans c3) fun _ _ => id, by rw [← hb]; exact HBX.out.chg c3 id, hids, HGD.out.1, hrv, hfv, Nat.le_trans gB.size hzz, by rw [← hb]; exact Nat.lt_of_lt_of_le HBX.out.lt hzz, HRW.out, HLE.out⟩
  rw [hb]
  have HGB := hide gB
  clear gB HM hids hrv hfv hgs hrg hap HWO HRW HBX HGD HLE
  go_wp2_with fail
  refine (awake_any _).mono ?_
  rintro e w4 ⟨rfl, c4⟩
  have HST := hide (hst.grow c4)
  have HB2 := hide ((HB2.out.chg c3 id).chg c4 id)
  have HB3 := hide ((HB3.out.chg c3 id).chg c4 id)
  rw [hb] at HB2 HB3
  clear c3 c4 hst hb HGB hzz
  have hmf : ∀ (fn : Fn) (first cap : Array Value) (w : World), (Instr.makeFunc fn first cap).run Try.prog w = .ok (.func fn first cap) w := fun _ _ _ _ => rfl
  have hsm : Small L := fun i hn => by
    obtain ⟨k, e, h1, h2⟩ := HST.out.named hn
    exact ⟨k, e, by have := HST.out.n40; omega⟩
  have hl40 : L.length ≤ 40 := by rw [HST.out.len]; exact HST.out.n40
  obtain ⟨pa, qa, hA⟩ := ex_rs cs L (kB B) zs
  obtain ⟨pb, qb, hB⟩ := ex_rs cs L (kB (B ||| C)) zs
  obtain ⟨pc, qc, hC⟩ := ex_rs cs L (fun _ => true) zs
  obtain ⟨r, hr⟩ := ex_rc cs L 1 zs
  have hz := HST.out.z40
  have HK1 := hide (keeps_soft1 (L := L) HB2.out hBB hsm)
  have HK2 := hide (keeps_soft2 (L := L) HB2.out HB3.out hBB hCC hsm)
  obtain ⟨l2a, e2a⟩ : ∃ l, ces cs L pa qa = l := ⟨_, rfl⟩
  obtain ⟨l2b, e2b⟩ : ∃ l, ces cs L pb qb = l := ⟨_, rfl⟩
  obtain ⟨l2c, e2c⟩ : ∃ l, ces cs L pc qc = l := ⟨_, rfl⟩
  obtain ⟨l1c, e1c⟩ : ∃ l, clL L qc = l := ⟨_, rfl⟩
  obtain ⟨n1c, m1c⟩ : ∃ n, l1c.length = n := ⟨_, rfl⟩
  obtain ⟨R, eR⟩ : ∃ l, clL L r = l := ⟨_, rfl⟩
  obtain ⟨M, mR⟩ : ∃ n, R.length = n := ⟨_, rfl⟩
  have HRA := hide (fun (W : World) (g : Grow w4 W) => run_l (cc := cap1) (enters_of Try.func28 (by kernel_rfl) rfl) (HK1.out.grow g) (HST.out.grow g).gs hl40 (HST.out.grow g).rd (by omega) HST.out.i64 hA rfl e2a rfl rfl rfl rfl)
  have HRB := hide (fun (W : World) (g : Grow w4 W) => run_l (cc := cap1) (enters_of Try.func29 (by kernel_rfl) rfl) (HK2.out.grow g) (HST.out.grow g).gs hl40 (HST.out.grow g).rd (by omega) HST.out.i64 hB rfl e2b rfl rfl rfl rfl)
  have HRC := hide (fun (W : World) (g : Grow w4 W) => run_l (cc := cap1) (enters_of Try.func30 (by kernel_rfl) rfl) (keeps_soft3 (w := W) (L := L)) (HST.out.grow g).gs hl40 (HST.out.grow g).rd (by omega) HST.out.i64 hC e1c e2c rfl m1c rfl rfl)
  have HRE := hide (fun (W : World) (g : Grow w4 W) => reach_l (cc := cap1) (HST.out.grow g).gs hl40 (HST.out.grow g).rd (by omega) HST.out.i64 hr eR mR)
  have hs := HST.out.gs.srt
  have HF1 := hide (show ∀ i ∈ R, ((aimX cs L i).2 = 3 ∨ (aimX cs L i).2 = 4) → hasB l2b i = true → hasB l2a i = true from fun i hi h34 hb => by
    rw [← e2b, hB.has_ces hs] at hb
    rw [← e2a, hA.has_ces hs]
    rw [← eR] at hi
    exact soft_le hA hB hs (fun i h => kB_or B C i h) hr ((clL_iff hs).1 hi).2 h34 hb)
  have HF2 := hide (show ∀ i ∈ R, (aimX cs L i).2 = 3 → hasB l2c i = false from fun i hi h3 => by
    rw [← e2c, hC.has_ces hs]
    rw [← eR] at hi
    exact soft_all hC hs hr ((clL_iff hs).1 hi).2 h3)
  have HF3 := hide (show M ≤ n1c from by
    rw [← mR, ← m1c, ← eR, ← e1c]
    exact clL_mono fun x hx h => hC.up hs (hC.strong hr h))
  have HM40 := hide (show M ≤ 40 from by rw [← mR, ← eR]; have := clL_le L r; omega)
  obtain ⟨n2a, m2a⟩ : ∃ n, l2a.length = n := ⟨_, rfl⟩
  obtain ⟨n2b, m2b⟩ : ∃ n, l2b.length = n := ⟨_, rfl⟩
  obtain ⟨n2c, m2c⟩ : ∃ n, l2c.length = n := ⟨_, rfl⟩
  rw [m2a] at HRA
  rw [m2b] at HRB
  rw [m2c] at HRC
  clear e2a e2b e2c e1c m1c eR mR hA hB hC hr hs hsm hl40 hz HK1 HK2 m2a m2b m2c
  generalize clL L qa = l1a at *
  generalize clL L (fi L pa) = l3a at *
  generalize clL L qb = l1b at *
  generalize clL L (fi L pb) = l3b at *
  generalize clL L (fi L pc) = l3c at *
  generalize l1a.length = n1a at *
  generalize l3a.length = n3a at *
  generalize l1b.length = n1b at *
  generalize l3b.length = n3b at *
  generalize l3c.length = n3c at *
  go_wp2_with fail
  refine (HRA.out _ (Chg.refl _ _)).mono ?_
  rintro e w5 ⟨x1, y1, x2, y2, x3, y3, rfl, o1, o2, o3, c5⟩
  have HA := hide (Rr.boxed c5 o1 o2 o3)
  have HGA := hide (c5.alloc (.cells [.slice x1 n1a y1, .slice x2 n2a y2, .slice x3 n3a y3].toArray 35))
  clear o1 o2 o3 c5 HRA
  go_wp2_with fail
  generalize w5.alloc (.cells #[.slice x1 n1a y1, .slice x2 n2a y2, .slice x3 n3a y3] 35) = wa at *
  generalize w5.heap.size = ta at *
  refine (HRB.out _ HGA.out).mono ?_
  rintro e w6 ⟨x4, y4, x5, y5, x6, y6, rfl, o1, o2, o3, c6⟩
  have HB := hide (Rr.boxed c6 o1 o2 o3)
  have hcc := c6.alloc (.cells [.slice x4 n1b y4, .slice x5 n2b y5, .slice x6 n3b y6].toArray 35)
  have HA6 := hide (HA.out.grow hcc)
  have HGB := hide (HGA.out.trans hcc)
  clear o1 o2 o3 c6 hcc HRB HA
  go_wp2_with fail
  generalize w6.alloc (.cells #[.slice x4 n1b y4, .slice x5 n2b y5, .slice x6 n3b y6] 35) = wb at *
  generalize w6.heap.size = tb at *
  refine (HRC.out _ HGB.out).mono ?_
  rintro e w7 ⟨x7, y7, x8, y8, x9, y9, rfl, o1, o2, o3, c7⟩
  have HCR := hide (Rr.boxed c7 o1 o2 o3)
  have hcc := c7.alloc (.cells [.slice x7 n1c y7, .slice x8 n2c y8, .slice x9 n3c y9].toArray 35)
  have HA7 := hide (HA6.out.grow hcc)
  have HB7 := hide (HB.out.grow hcc)
  have HGC := hide (HGB.out.trans hcc)
  clear o1 o2 o3 c7 hcc HRC HA6 HB
  clear hmf
  go_wp2_with fail
  generalize w7.alloc (.cells #[.slice x7 n1c y7, .slice x8 n2c y8, .slice x9 n3c y9] 35) = wc at *
  generalize w7.heap.size = tc at *
  refine (HRE.out _ HGC.out).mono ?_
  rintro e w8 ⟨ra, rc2, rfl, ho, g8⟩
  have HRR := hide ho
  have HA8 := hide (HA7.out.grow g8)
  have HB8 := hide (HB7.out.grow g8)
  have HC8 := hide (HCR.out.grow g8)
  have HG8 := hide (HGC.out.trans g8)
  clear ho g8 HRE HA7 HB7 HCR HGA HGB HGC
  go_wp2_with fail
  go_loopw [55] (fun v wr => ∃ k : Nat, k ≤ M ∧ v = .int .i64 k ∧ Grow w8 wr) (fun v _ => M - (Go.RowKit.intOf v).toNat)
  case atStart => exact ⟨0, Nat.zero_le _, rfl, Chg.refl _ _⟩
  case round =>
    obtain ⟨k, hk, rfl, hg⟩ := hrel
    rcases Nat.eq_or_lt_of_le hk with hke | hlt
    · have hke2 := hke.symm
      subst hke2
      clear hke
      have q1 : decide ((M : Int) < M) = false := by simp
      have k0 := (HC8.out.grow hg).k0
      have q2 : decide (M ≤ n1c) = true := decide_eq_true HF3.out
      have q3 : decide ((n1c : Int) ≥ M) = true := decide_eq_true (by have := HF3.out; omega)
      have q4 : M ≤ n1c := HF3.out
      have HE := hide (HST.out.grow (HG8.out.trans hg))
      clear hg hk
      go_wp2
      go_ret
      exact ⟨by simp, HE.out.end_⟩
    · have q1 : decide ((k : Int) < M) = true := decide_eq_true (by omega)
      have q2 : k < M := hlt
      have hw : IntKind.i64.wrap ((k : Int) + 1) = ((k + 1 : Nat) : Int) := (IntWalk.i64_in _ (by have := HM40.out; omega)).trans (by omega)
      obtain ⟨g, rfl, k0, hi, hm⟩ := (HRR.out.grow hg).at_ hlt
      have HAI := hide (fun (W : World) (gg : Grow wr W) => aim_gs (HST.out.grow ((HG8.out.trans hg).trans gg)).gs hi)
      have HX1 := hide (fun (W : World) (gg : Grow wr W) => ((HA8.out.grow hg).grow gg).o2.has (R.getD k 0))
      have HX2 := hide (fun (W : World) (gg : Grow wr W) => ((HB8.out.grow hg).grow gg).o2.has (R.getD k 0))
      have HX3 := hide (fun (W : World) (gg : Grow wr W) => ((HC8.out.grow hg).grow gg).o2.has (R.getD k 0))
      have hf1 := HF1.out _ hm
      have hf2 := HF2.out _ hm
      have kA := (HA8.out.grow hg).k1
      have kB_ := (HB8.out.grow hg).k1
      have kC := (HC8.out.grow hg).k1
      generalize R.getD k 0 = i at *
      obtain ⟨t, ht⟩ : ∃ t, aimX cs L i = t := ⟨_, rfl⟩
      rw [ht] at HAI hf1 hf2
      obtain ⟨t1, t2⟩ := t
      dsimp only at hf1 hf2
      have HLT := hide hlt
      have HGG := hide hg
      generalize hasB l2a i = xa at *
      generalize hasB l2b i = xb at *
      generalize hasB l2c i = xc at *
      have HFF := hide (And.intro hf1 hf2)
      clear hf1 hf2 ht hm hi hg hlt hk
      go_wp2_with fail
      refine (HAI.out _ (Chg.refl _ _)).mono ?_
      rintro e w9 ⟨rfl, g9⟩
      dsimp only
      replace k0 := g9.cell k0
      replace kA := g9.cell kA
      replace kB_ := g9.cell kB_
      replace kC := g9.cell kC
      have HC1 := hide (fun (W : World) (gg : Grow w9 W) => HX1.out _ (g9.trans gg))
      have HC2 := hide (fun (W : World) (gg : Grow w9 W) => HX2.out _ (g9.trans gg))
      have HX3b := hide (fun (W : World) (gg : Grow w9 W) => HX3.out _ (g9.trans gg))
      have HG9 := hide (HGG.out.trans g9)
      clear g9 HAI HX1 HX2 HX3
      have hff := HFF.out
      by_cases h3 : t2 = 3
      · subst h3
        have hxc := hff.2 rfl
        subst hxc
        have hab := hff.1 (.inl rfl)
        clear hff HFF
        cases xb with
        | false =>
          clear hab
          cases xa with
          | false =>
            go_wp2_with fail
            refine wp_region_grow (by kernel_rfl) (by kernel_rfl) ?_
            repeat (
              with_reducible refine wpQuiet_step ?_
              intro K hK
              first
                | ((with_reducible refine quiet_offT rfl ?_ (hK _ ?_)); focus (refine ⟨_, rfl, ?_⟩; with_reducible rfl))
                | ((with_reducible refine quiet_offF rfl ?_ (hK _ ?_)); focus (refine ⟨_, rfl, ?_⟩; with_reducible rfl))
                | ((with_reducible refine quiet_offN rfl ?_ (hK _ ?_)); focus (exact rfl))
                | ((first | with_reducible refine quiet_free rfl ?_ | ((with_reducible refine quiet_on rfl ?_ ?_); focus (refine ⟨_, rfl, ?_⟩; with_reducible rfl)))
                   apply Exists.intro
                   refine ⟨fun Wq hW => ?_, hK _ ?_⟩
                   focus (have q0 := Grow.cell hW kA; have q1 := Grow.cell hW kB_; have q2 := Grow.cell hW k0; go_simp; first | done | with_reducible rfl | (go_at_call 16; (first | with_reducible exact grown_call hW (HC1.out _ hW) | with_reducible exact grown_same hW (HC1.out _ hW))) | (go_at_call 16; (first | with_reducible exact grown_call hW (HC2.out _ hW) | with_reducible exact grown_same hW (HC2.out _ hW)))))
              clear hK K
              simp only [Act.put, List.setIfInBounds_toArray, List.set_cons_zero, List.set_cons_succ])
            with_reducible refine wpQuiet_nil ?_
            intro w10 c10
            replace k0 := Grow.cell c10 k0
            replace kC := Grow.cell c10 kC
            have HX3c := hide (fun (W : World) (gg : Grow w10 W) => HX3b.out _ (c10.trans gg))
            have HG10 := hide (HG9.out.trans c10)
            clear c10 kA kB_ HC1 HC2 HX3b HG9
            go_wp2_with fail
            refine wp_region_grow (by kernel_rfl) (by kernel_rfl) ?_
            repeat (
              with_reducible refine wpQuiet_step ?_
              intro K hK
              first
                | ((with_reducible refine quiet_offT rfl ?_ (hK _ ?_)); focus (refine ⟨_, rfl, ?_⟩; with_reducible rfl))
                | ((with_reducible refine quiet_offF rfl ?_ (hK _ ?_)); focus (refine ⟨_, rfl, ?_⟩; with_reducible rfl))
                | ((with_reducible refine quiet_offN rfl ?_ (hK _ ?_)); focus (exact rfl))
                | ((first | with_reducible refine quiet_free rfl ?_ | ((with_reducible refine quiet_on rfl ?_ ?_); focus (refine ⟨_, rfl, ?_⟩; with_reducible rfl)))
                   apply Exists.intro
                   refine ⟨fun Wq hW => ?_, hK _ ?_⟩
                   focus (have q0 := Grow.cell hW k0; have q1 := Grow.cell hW kC; go_simp; first | done | with_reducible rfl | (go_at_call 16; (first | with_reducible exact grown_call hW (HX3c.out _ hW) | with_reducible exact grown_same hW (HX3c.out _ hW)))))
              clear hK K
              simp only [Act.put, List.setIfInBounds_toArray, List.set_cons_zero, List.set_cons_succ])
            with_reducible refine wpQuiet_nil ?_
            intro w11 c11
            have HN := hide (HG10.out.trans c11)
            clear c11 k0 kC HX3c HG10
            go_wp2
            go_roundw
            case rel => exact ⟨k + 1, HLT.out, rfl, HN.out⟩
            case measure => have := HLT.out; simp [Go.RowKit.intOf]; omega
          | true =>
            go_wp2_with fail
            refine wp_region_grow (by kernel_rfl) (by kernel_rfl) ?_
            repeat (
              with_reducible refine wpQuiet_step ?_
              intro K hK
              first
                | ((with_reducible refine quiet_offT rfl ?_ (hK _ ?_)); focus (refine ⟨_, rfl, ?_⟩; with_reducible rfl))
                | ((with_reducible refine quiet_offF rfl ?_ (hK _ ?_)); focus (refine ⟨_, rfl, ?_⟩; with_reducible rfl))
                | ((with_reducible refine quiet_offN rfl ?_ (hK _ ?_)); focus (exact rfl))
                | ((first | with_reducible refine quiet_free rfl ?_ | ((with_reducible refine quiet_on rfl ?_ ?_); focus (refine ⟨_, rfl, ?_⟩; with_reducible rfl)))
                   apply Exists.intro
                   refine ⟨fun Wq hW => ?_, hK _ ?_⟩
                   focus (have q0 := Grow.cell hW kA; have q1 := Grow.cell hW kB_; have q2 := Grow.cell hW k0; go_simp; first | done | with_reducible rfl | (go_at_call 16; (first | with_reducible exact grown_call hW (HC1.out _ hW) | with_reducible exact grown_same hW (HC1.out _ hW))) | (go_at_call 16; (first | with_reducible exact grown_call hW (HC2.out _ hW) | with_reducible exact grown_same hW (HC2.out _ hW)))))
              clear hK K
              simp only [Act.put, List.setIfInBounds_toArray, List.set_cons_zero, List.set_cons_succ])
            with_reducible refine wpQuiet_nil ?_
            intro w10 c10
            replace k0 := Grow.cell c10 k0
            replace kC := Grow.cell c10 kC
            have HX3c := hide (fun (W : World) (gg : Grow w10 W) => HX3b.out _ (c10.trans gg))
            have HG10 := hide (HG9.out.trans c10)
            clear c10 kA kB_ HC1 HC2 HX3b HG9
            go_wp2_with fail
            refine wp_region_grow (by kernel_rfl) (by kernel_rfl) ?_
            repeat (
              with_reducible refine wpQuiet_step ?_
              intro K hK
              first
                | ((with_reducible refine quiet_offT rfl ?_ (hK _ ?_)); focus (refine ⟨_, rfl, ?_⟩; with_reducible rfl))
                | ((with_reducible refine quiet_offF rfl ?_ (hK _ ?_)); focus (refine ⟨_, rfl, ?_⟩; with_reducible rfl))
                | ((with_reducible refine quiet_offN rfl ?_ (hK _ ?_)); focus (exact rfl))
                | ((first | with_reducible refine quiet_free rfl ?_ | ((with_reducible refine quiet_on rfl ?_ ?_); focus (refine ⟨_, rfl, ?_⟩; with_reducible rfl)))
                   apply Exists.intro
                   refine ⟨fun Wq hW => ?_, hK _ ?_⟩
                   focus (have q0 := Grow.cell hW k0; have q1 := Grow.cell hW kC; go_simp; first | done | with_reducible rfl | (go_at_call 16; (first | with_reducible exact grown_call hW (HX3c.out _ hW) | with_reducible exact grown_same hW (HX3c.out _ hW)))))
              clear hK K
              simp only [Act.put, List.setIfInBounds_toArray, List.set_cons_zero, List.set_cons_succ])
            with_reducible refine wpQuiet_nil ?_
            intro w11 c11
            have HN := hide (HG10.out.trans c11)
            clear c11 k0 kC HX3c HG10
            go_wp2
            go_roundw
            case rel => exact ⟨k + 1, HLT.out, rfl, HN.out⟩
            case measure => have := HLT.out; simp [Go.RowKit.intOf]; omega
        | true =>
          have hxa := hab rfl
          subst hxa
          clear hab
          go_wp2_with fail
          refine wp_region_grow (by kernel_rfl) (by kernel_rfl) ?_
          repeat (
            with_reducible refine wpQuiet_step ?_
            intro K hK
            first
              | ((with_reducible refine quiet_offT rfl ?_ (hK _ ?_)); focus (refine ⟨_, rfl, ?_⟩; with_reducible rfl))
              | ((with_reducible refine quiet_offF rfl ?_ (hK _ ?_)); focus (refine ⟨_, rfl, ?_⟩; with_reducible rfl))
              | ((with_reducible refine quiet_offN rfl ?_ (hK _ ?_)); focus (exact rfl))
              | ((first | with_reducible refine quiet_free rfl ?_ | ((with_reducible refine quiet_on rfl ?_ ?_); focus (refine ⟨_, rfl, ?_⟩; with_reducible rfl)))
                 apply Exists.intro
                 refine ⟨fun Wq hW => ?_, hK _ ?_⟩
                 focus (have q0 := Grow.cell hW kA; have q1 := Grow.cell hW kB_; have q2 := Grow.cell hW k0; go_simp; first | done | with_reducible rfl | (go_at_call 16; (first | with_reducible exact grown_call hW (HC1.out _ hW) | with_reducible exact grown_same hW (HC1.out _ hW))) | (go_at_call 16; (first | with_reducible exact grown_call hW (HC2.out _ hW) | with_reducible exact grown_same hW (HC2.out _ hW)))))
            clear hK K
            simp only [Act.put, List.setIfInBounds_toArray, List.set_cons_zero, List.set_cons_succ])
          with_reducible refine wpQuiet_nil ?_
          intro w10 c10
          replace k0 := Grow.cell c10 k0
          replace kC := Grow.cell c10 kC
          have HX3c := hide (fun (W : World) (gg : Grow w10 W) => HX3b.out _ (c10.trans gg))
          have HG10 := hide (HG9.out.trans c10)
          clear c10 kA kB_ HC1 HC2 HX3b HG9
          go_wp2_with fail
          refine wp_region_grow (by kernel_rfl) (by kernel_rfl) ?_
          repeat (
            with_reducible refine wpQuiet_step ?_
            intro K hK
            first
              | ((with_reducible refine quiet_offT rfl ?_ (hK _ ?_)); focus (refine ⟨_, rfl, ?_⟩; with_reducible rfl))
              | ((with_reducible refine quiet_offF rfl ?_ (hK _ ?_)); focus (refine ⟨_, rfl, ?_⟩; with_reducible rfl))
              | ((with_reducible refine quiet_offN rfl ?_ (hK _ ?_)); focus (exact rfl))
              | ((first | with_reducible refine quiet_free rfl ?_ | ((with_reducible refine quiet_on rfl ?_ ?_); focus (refine ⟨_, rfl, ?_⟩; with_reducible rfl)))
                 apply Exists.intro
                 refine ⟨fun Wq hW => ?_, hK _ ?_⟩
                 focus (have q0 := Grow.cell hW k0; have q1 := Grow.cell hW kC; go_simp; first | done | with_reducible rfl | (go_at_call 16; (first | with_reducible exact grown_call hW (HX3c.out _ hW) | with_reducible exact grown_same hW (HX3c.out _ hW)))))
            clear hK K
            simp only [Act.put, List.setIfInBounds_toArray, List.set_cons_zero, List.set_cons_succ])
          with_reducible refine wpQuiet_nil ?_
          intro w11 c11
          have HN := hide (HG10.out.trans c11)
          clear c11 k0 kC HX3c HG10
          go_wp2
          go_roundw
          case rel => exact ⟨k + 1, HLT.out, rfl, HN.out⟩
          case measure => have := HLT.out; simp [Go.RowKit.intOf]; omega
      · by_cases h4 : t2 = 4
        · subst h4
          have hab := hff.1 (.inr rfl)
          clear hff HFF h3
          cases xb with
          | false =>
            clear hab
            cases xa with
            | false =>
              go_wp2_with fail
              refine wp_region_grow (by kernel_rfl) (by kernel_rfl) ?_
              repeat (
                with_reducible refine wpQuiet_step ?_
                intro K hK
                first
                  | ((with_reducible refine quiet_offT rfl ?_ (hK _ ?_)); focus (refine ⟨_, rfl, ?_⟩; with_reducible rfl))
                  | ((with_reducible refine quiet_offF rfl ?_ (hK _ ?_)); focus (refine ⟨_, rfl, ?_⟩; with_reducible rfl))
                  | ((with_reducible refine quiet_offN rfl ?_ (hK _ ?_)); focus (exact rfl))
                  | ((first | with_reducible refine quiet_free rfl ?_ | ((with_reducible refine quiet_on rfl ?_ ?_); focus (refine ⟨_, rfl, ?_⟩; with_reducible rfl)))
                     apply Exists.intro
                     refine ⟨fun Wq hW => ?_, hK _ ?_⟩
                     focus (have q0 := Grow.cell hW kA; have q1 := Grow.cell hW kB_; have q2 := Grow.cell hW k0; go_simp; first | done | with_reducible rfl | (go_at_call 16; (first | with_reducible exact grown_call hW (HC1.out _ hW) | with_reducible exact grown_same hW (HC1.out _ hW))) | (go_at_call 16; (first | with_reducible exact grown_call hW (HC2.out _ hW) | with_reducible exact grown_same hW (HC2.out _ hW)))))
                clear hK K
                simp only [Act.put, List.setIfInBounds_toArray, List.set_cons_zero, List.set_cons_succ])
              with_reducible refine wpQuiet_nil ?_
              intro w10 c10
              replace k0 := Grow.cell c10 k0
              replace kC := Grow.cell c10 kC
              have HX3c := hide (fun (W : World) (gg : Grow w10 W) => HX3b.out _ (c10.trans gg))
              have HG10 := hide (HG9.out.trans c10)
              clear c10 kA kB_ HC1 HC2 HX3b HG9
              go_wp2_with fail
              refine wp_region_grow (by kernel_rfl) (by kernel_rfl) ?_
              repeat (
                with_reducible refine wpQuiet_step ?_
                intro K hK
                first
                  | ((with_reducible refine quiet_offT rfl ?_ (hK _ ?_)); focus (refine ⟨_, rfl, ?_⟩; with_reducible rfl))
                  | ((with_reducible refine quiet_offF rfl ?_ (hK _ ?_)); focus (refine ⟨_, rfl, ?_⟩; with_reducible rfl))
                  | ((with_reducible refine quiet_offN rfl ?_ (hK _ ?_)); focus (exact rfl))
                  | ((first | with_reducible refine quiet_free rfl ?_ | ((with_reducible refine quiet_on rfl ?_ ?_); focus (refine ⟨_, rfl, ?_⟩; with_reducible rfl)))
                     apply Exists.intro
                     refine ⟨fun Wq hW => ?_, hK _ ?_⟩
                     focus (have q0 := Grow.cell hW k0; have q1 := Grow.cell hW kC; go_simp; first | done | with_reducible rfl | (go_at_call 16; (first | with_reducible exact grown_call hW (HX3c.out _ hW) | with_reducible exact grown_same hW (HX3c.out _ hW)))))
                clear hK K
                simp only [Act.put, List.setIfInBounds_toArray, List.set_cons_zero, List.set_cons_succ])
              with_reducible refine wpQuiet_nil ?_
              intro w11 c11
              have HN := hide (HG10.out.trans c11)
              clear c11 k0 kC HX3c HG10
              go_wp2
              go_roundw
              case rel => exact ⟨k + 1, HLT.out, rfl, HN.out⟩
              case measure => have := HLT.out; simp [Go.RowKit.intOf]; omega
            | true =>
              go_wp2_with fail
              refine wp_region_grow (by kernel_rfl) (by kernel_rfl) ?_
              repeat (
                with_reducible refine wpQuiet_step ?_
                intro K hK
                first
                  | ((with_reducible refine quiet_offT rfl ?_ (hK _ ?_)); focus (refine ⟨_, rfl, ?_⟩; with_reducible rfl))
                  | ((with_reducible refine quiet_offF rfl ?_ (hK _ ?_)); focus (refine ⟨_, rfl, ?_⟩; with_reducible rfl))
                  | ((with_reducible refine quiet_offN rfl ?_ (hK _ ?_)); focus (exact rfl))
                  | ((first | with_reducible refine quiet_free rfl ?_ | ((with_reducible refine quiet_on rfl ?_ ?_); focus (refine ⟨_, rfl, ?_⟩; with_reducible rfl)))
                     apply Exists.intro
                     refine ⟨fun Wq hW => ?_, hK _ ?_⟩
                     focus (have q0 := Grow.cell hW kA; have q1 := Grow.cell hW kB_; have q2 := Grow.cell hW k0; go_simp; first | done | with_reducible rfl | (go_at_call 16; (first | with_reducible exact grown_call hW (HC1.out _ hW) | with_reducible exact grown_same hW (HC1.out _ hW))) | (go_at_call 16; (first | with_reducible exact grown_call hW (HC2.out _ hW) | with_reducible exact grown_same hW (HC2.out _ hW)))))
                clear hK K
                simp only [Act.put, List.setIfInBounds_toArray, List.set_cons_zero, List.set_cons_succ])
              with_reducible refine wpQuiet_nil ?_
              intro w10 c10
              replace k0 := Grow.cell c10 k0
              replace kC := Grow.cell c10 kC
              have HX3c := hide (fun (W : World) (gg : Grow w10 W) => HX3b.out _ (c10.trans gg))
              have HG10 := hide (HG9.out.trans c10)
              clear c10 kA kB_ HC1 HC2 HX3b HG9
              go_wp2_with fail
              refine wp_region_grow (by kernel_rfl) (by kernel_rfl) ?_
              repeat (
                with_reducible refine wpQuiet_step ?_
                intro K hK
                first
                  | ((with_reducible refine quiet_offT rfl ?_ (hK _ ?_)); focus (refine ⟨_, rfl, ?_⟩; with_reducible rfl))
                  | ((with_reducible refine quiet_offF rfl ?_ (hK _ ?_)); focus (refine ⟨_, rfl, ?_⟩; with_reducible rfl))
                  | ((with_reducible refine quiet_offN rfl ?_ (hK _ ?_)); focus (exact rfl))
                  | ((first | with_reducible refine quiet_free rfl ?_ | ((with_reducible refine quiet_on rfl ?_ ?_); focus (refine ⟨_, rfl, ?_⟩; with_reducible rfl)))
                     apply Exists.intro
                     refine ⟨fun Wq hW => ?_, hK _ ?_⟩
                     focus (have q0 := Grow.cell hW k0; have q1 := Grow.cell hW kC; go_simp; first | done | with_reducible rfl | (go_at_call 16; (first | with_reducible exact grown_call hW (HX3c.out _ hW) | with_reducible exact grown_same hW (HX3c.out _ hW)))))
                clear hK K
                simp only [Act.put, List.setIfInBounds_toArray, List.set_cons_zero, List.set_cons_succ])
              with_reducible refine wpQuiet_nil ?_
              intro w11 c11
              have HN := hide (HG10.out.trans c11)
              clear c11 k0 kC HX3c HG10
              go_wp2
              go_roundw
              case rel => exact ⟨k + 1, HLT.out, rfl, HN.out⟩
              case measure => have := HLT.out; simp [Go.RowKit.intOf]; omega
          | true =>
            have hxa := hab rfl
            subst hxa
            clear hab
            go_wp2_with fail
            refine wp_region_grow (by kernel_rfl) (by kernel_rfl) ?_
            repeat (
              with_reducible refine wpQuiet_step ?_
              intro K hK
              first
                | ((with_reducible refine quiet_offT rfl ?_ (hK _ ?_)); focus (refine ⟨_, rfl, ?_⟩; with_reducible rfl))
                | ((with_reducible refine quiet_offF rfl ?_ (hK _ ?_)); focus (refine ⟨_, rfl, ?_⟩; with_reducible rfl))
                | ((with_reducible refine quiet_offN rfl ?_ (hK _ ?_)); focus (exact rfl))
                | ((first | with_reducible refine quiet_free rfl ?_ | ((with_reducible refine quiet_on rfl ?_ ?_); focus (refine ⟨_, rfl, ?_⟩; with_reducible rfl)))
                   apply Exists.intro
                   refine ⟨fun Wq hW => ?_, hK _ ?_⟩
                   focus (have q0 := Grow.cell hW kA; have q1 := Grow.cell hW kB_; have q2 := Grow.cell hW k0; go_simp; first | done | with_reducible rfl | (go_at_call 16; (first | with_reducible exact grown_call hW (HC1.out _ hW) | with_reducible exact grown_same hW (HC1.out _ hW))) | (go_at_call 16; (first | with_reducible exact grown_call hW (HC2.out _ hW) | with_reducible exact grown_same hW (HC2.out _ hW)))))
              clear hK K
              simp only [Act.put, List.setIfInBounds_toArray, List.set_cons_zero, List.set_cons_succ])
            with_reducible refine wpQuiet_nil ?_
            intro w10 c10
            replace k0 := Grow.cell c10 k0
            replace kC := Grow.cell c10 kC
            have HX3c := hide (fun (W : World) (gg : Grow w10 W) => HX3b.out _ (c10.trans gg))
            have HG10 := hide (HG9.out.trans c10)
            clear c10 kA kB_ HC1 HC2 HX3b HG9
            go_wp2_with fail
            refine wp_region_grow (by kernel_rfl) (by kernel_rfl) ?_
            repeat (
              with_reducible refine wpQuiet_step ?_
              intro K hK
              first
                | ((with_reducible refine quiet_offT rfl ?_ (hK _ ?_)); focus (refine ⟨_, rfl, ?_⟩; with_reducible rfl))
                | ((with_reducible refine quiet_offF rfl ?_ (hK _ ?_)); focus (refine ⟨_, rfl, ?_⟩; with_reducible rfl))
                | ((with_reducible refine quiet_offN rfl ?_ (hK _ ?_)); focus (exact rfl))
                | ((first | with_reducible refine quiet_free rfl ?_ | ((with_reducible refine quiet_on rfl ?_ ?_); focus (refine ⟨_, rfl, ?_⟩; with_reducible rfl)))
                   apply Exists.intro
                   refine ⟨fun Wq hW => ?_, hK _ ?_⟩
                   focus (have q0 := Grow.cell hW k0; have q1 := Grow.cell hW kC; go_simp; first | done | with_reducible rfl | (go_at_call 16; (first | with_reducible exact grown_call hW (HX3c.out _ hW) | with_reducible exact grown_same hW (HX3c.out _ hW)))))
              clear hK K
              simp only [Act.put, List.setIfInBounds_toArray, List.set_cons_zero, List.set_cons_succ])
            with_reducible refine wpQuiet_nil ?_
            intro w11 c11
            have HN := hide (HG10.out.trans c11)
            clear c11 k0 kC HX3c HG10
            go_wp2
            go_roundw
            case rel => exact ⟨k + 1, HLT.out, rfl, HN.out⟩
            case measure => have := HLT.out; simp [Go.RowKit.intOf]; omega
        · have q5 : (t2 == 3) = false := by simpa using h3
          have q6 : (t2 == 4) = false := by simpa using h4
          clear hff HFF h3 h4
          go_wp2_with fail
          refine wp_region_grow (by kernel_rfl) (by kernel_rfl) ?_
          repeat (
            with_reducible refine wpQuiet_step ?_
            intro K hK
            first
              | ((with_reducible refine quiet_offT rfl ?_ (hK _ ?_)); focus (refine ⟨_, rfl, ?_⟩; with_reducible rfl))
              | ((with_reducible refine quiet_offF rfl ?_ (hK _ ?_)); focus (refine ⟨_, rfl, ?_⟩; with_reducible rfl))
              | ((with_reducible refine quiet_offN rfl ?_ (hK _ ?_)); focus (exact rfl))
              | ((first | with_reducible refine quiet_free rfl ?_ | ((with_reducible refine quiet_on rfl ?_ ?_); focus (refine ⟨_, rfl, ?_⟩; with_reducible rfl)))
                 apply Exists.intro
                 refine ⟨fun Wq hW => ?_, hK _ ?_⟩
                 focus (have q0 := Grow.cell hW kA; have q1 := Grow.cell hW kB_; have q2 := Grow.cell hW k0; go_simp; first | done | with_reducible rfl | (go_at_call 16; (first | with_reducible exact grown_call hW (HC1.out _ hW) | with_reducible exact grown_same hW (HC1.out _ hW))) | (go_at_call 16; (first | with_reducible exact grown_call hW (HC2.out _ hW) | with_reducible exact grown_same hW (HC2.out _ hW)))))
            clear hK K
            simp only [Act.put, List.setIfInBounds_toArray, List.set_cons_zero, List.set_cons_succ])
          with_reducible refine wpQuiet_nil ?_
          intro w10 c10
          replace k0 := Grow.cell c10 k0
          replace kC := Grow.cell c10 kC
          have HX3c := hide (fun (W : World) (gg : Grow w10 W) => HX3b.out _ (c10.trans gg))
          have HG10 := hide (HG9.out.trans c10)
          clear c10 kA kB_ HC1 HC2 HX3b HG9
          go_wp2_with fail
          refine wp_region_grow (by kernel_rfl) (by kernel_rfl) ?_
          repeat (
            with_reducible refine wpQuiet_step ?_
            intro K hK
            first
              | ((with_reducible refine quiet_offT rfl ?_ (hK _ ?_)); focus (refine ⟨_, rfl, ?_⟩; with_reducible rfl))
              | ((with_reducible refine quiet_offF rfl ?_ (hK _ ?_)); focus (refine ⟨_, rfl, ?_⟩; with_reducible rfl))
              | ((with_reducible refine quiet_offN rfl ?_ (hK _ ?_)); focus (exact rfl))
              | ((first | with_reducible refine quiet_free rfl ?_ | ((with_reducible refine quiet_on rfl ?_ ?_); focus (refine ⟨_, rfl, ?_⟩; with_reducible rfl)))
                 apply Exists.intro
                 refine ⟨fun Wq hW => ?_, hK _ ?_⟩
                 focus (have q0 := Grow.cell hW k0; have q1 := Grow.cell hW kC; go_simp; first | done | with_reducible rfl | (go_at_call 16; (first | with_reducible exact grown_call hW (HX3c.out _ hW) | with_reducible exact grown_same hW (HX3c.out _ hW)))))
            clear hK K
            simp only [Act.put, List.setIfInBounds_toArray, List.set_cons_zero, List.set_cons_succ])
          with_reducible refine wpQuiet_nil ?_
          intro w11 c11
          have HN := hide (HG10.out.trans c11)
          clear c11 k0 kC HX3c HG10
          go_wp2
          go_roundw
          case rel => exact ⟨k + 1, HLT.out, rfl, HN.out⟩
          case measure => have := HLT.out; simp [Go.RowKit.intOf]; omega
theorem walk (u : Wo) (cs : List Cl) (ns : List Int) (ts : List Tr) (a1 : Option Addr) (len1 cap1 : Nat) (zs : List Int) (b c : Int) (w : World) (h0 : IsWo w u cs ns ts) (h1 : IsRow .i64 w a1 len1 cap1 zs) (h2 : (Lit.int .u64 b).wf = true) (h3 : (Lit.int .u64 c).wf = true) :
    Calls Try.prog 7 #[Wo.v u, .slice a1 len1 cap1, .int .u64 b, .int .u64 c] w fun e w' => e = .returned (.bool true) ∧ Below w.heap.size w w' := by
  obtain ⟨B, rfl, hB⟩ := nat_u64 h2
  obtain ⟨C, rfl, hC⟩ := nat_u64 h3
  by_cases hg : good u cs
  · by_cases hl : 40 < len1
    · exact walk_no h0 h1 (.inr ⟨hg, hl⟩)
    · exact walk_main h0 h1 hg (by omega) hB hC
  · exact walk_no h0 h1 (.inl hg)
end
theorem own : ownKnob Try.prog.godebug = none := by kernel_rfl
theorem laidOut : laidOutB Try.prog = true := by kernel_rfl

set_option maxRecDepth 100000 in
theorem lifted (os : Os) (started : os.Started) (H : Type) (enc : TypeId × Value → H) :
    ReturnsInHanded {} Try.checked os 7 .any (Rows.processSoftSpec.pre6 enc Try.prog Try.f7 Rows.processSoftRow.domain false) (Rows.processSoftSpec.post enc Try.prog Try.f7 false true false false) := by
  refine returnsInHanded_of_change (C := Try.checked) own started (by kernel_rfl) Try.func7
    (ChangeSpec.witness6 (enc := enc) (C := Try.checked) false ⟨#[], #[.agg #[.slice none 0 0, .slice none 0 0, .slice none 0 0], .slice none 0 0, .int .u64 0, .int .u64 0], []⟩ 8 (by kernel_rfl) (by kernel_rfl) (by kernel_rfl) (by kernel_rfl)) ?_
  intro W base args ds gs before hval0 hW hcnd _
  have hval : ∀ (j : Nat) t v, Try.f7.params[j]? = some t → args[j]? = some v → Value.okWide Try.prog W .any base t v := hval0
  have hW' := hW
  obtain ⟨p, q, hA0, hV, rfl, hfz, hnd⟩ := hW
  have hA : DataW.TrodAll enc Try.prog W 0 (fun _ => true) true Try.f7.params.toList args.toList ds p := hA0
  rw [Try.params7] at hA hval
  obtain ⟨v0, vs0, d0, ds0, p0, q0, hargs, rfl, rfl, h0, r0⟩ := trodAll_cons hA
  obtain ⟨v1, vs1, d1, ds1, p1, q1, rfl, rfl, rfl, h1, r1⟩ := trodAll_cons r0
  obtain ⟨v2, vs2, d2, ds2, p2, q2, rfl, rfl, rfl, h2, r2⟩ := trodAll_cons r1
  obtain ⟨v3, vs3, d3, ds3, p3, q3, rfl, rfl, rfl, h3, r3⟩ := trodAll_cons r2
  obtain ⟨rfl, rfl, rfl⟩ := trodAll_nil r3
  obtain rfl : args = #[v0, v1, v2, v3] := by cases args; simp_all
  obtain ⟨rfl, rfl⟩ := trodVars_none hV
  have k0 := h0
  have lt0 : ∀ x ∈ p0, x.block < W.heap.size := by obtain ⟨m, hm⟩ := k0; exact DataW.trod_lt m _ _ _ hm
  obtain ⟨u0, cs0, ns0, ts0, rfl, w0⟩ := open_world (hval 0 26 v0 rfl rfl) h0
  obtain ⟨a1, len1, cap1, rfl⟩ := okWide_slice Try.underlying27 (hval 1 27 v1 rfl rfl)
  have k1 := h1
  have lt1 : ∀ x ∈ p1, x.block < W.heap.size := by obtain ⟨m, hm⟩ := k1; exact DataW.trod_lt m _ _ _ hm
  obtain ⟨z1, w1⟩ : ∃ zs, IsRow .i64 W a1 len1 cap1 zs := open_row Try.underlying27 Try.underlying3 (by kernel_rfl) h1
  obtain ⟨a2, rfl, rfl, rfl, w2⟩ := open_int Try.underlying28 (hval 2 28 v2 rfl rfl) h2
  obtain ⟨a3, rfl, rfl, rfl, w3⟩ := open_int Try.underlying28 (hval 3 28 v3 rfl rfl) h3
  clear hA0 hval0
  refine (walk u0 cs0 ns0 ts0 a1 len1 cap1 z1 a2 a3 W w0 w1 w2 w3).mono fun e W' ⟨he, bel⟩ => ?_
  subst he
  exact ⟨_, rfl, _, _, _, [], _, [], hW', trodAll_mk1 (shut_bool Try.underlying4 _), (trodAll_cons_mk (Below.trod laidOut (by kernel_rfl) (of_decide_eq_true (by kernel_rfl)) k0 bel lt0) (trodAll_cons_mk (Below.trod laidOut (by kernel_rfl) (of_decide_eq_true (by kernel_rfl)) k1 bel lt1) (trodAll_cons_mk (shut_int Try.underlying28 w2) (trodAll_cons_mk (shut_int Try.underlying28 w3) trodAll_mk0)))), rfl, bel.frame _, fun h => by cases h⟩

theorem over : Rows.processSoftRow.holds Try.pinned (OpenSpec.ofChange Rows.processSoftSpec) :=
  OpenClaim.holds_of_wide 7 Try.f7 rfl rfl rfl rfl rfl rfl rfl ⟨rfl, rfl, rfl, rfl, rfl⟩ rfl rfl rfl rfl rfl (by kernel_rfl) Try.func7 (by kernel_rfl)
    (of_decide_eq_true (by kernel_rfl)) (by unfold Func.isWrapper; first | (rw [if_pos (by decide +kernel)]; kernel_rfl) | (rw [if_neg (by decide +kernel)]; exact ⟨rfl, rfl⟩))
    (fun os started H enc _ => lifted os started H enc)

/-- The statement. -/
theorem proved : Rows.ProcessSoftSaid := over
#print axioms proved
end Go.Proofs.Ytnhhlonnbeaooaa.processSoft


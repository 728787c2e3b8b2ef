/- For all worlds, roots, bits and whether all is kept ProcessStrong answers true: no aim that is Strong is cleared, nor is a node that is Strong finalized; all that is Strong stays; a Phantom node is cleared only if its aim is reached neither strongly, nor by what is to be finalized, and, where all that is Soft is kept, nor softly. Conditions: none. -/
import Derived.Test.YtnhhlonnbeaooaaL13W
namespace Go.Proofs.Ytnhhlonnbeaooaa.processStrong
open Go.ChangeShapes Go.WideShapes Go.ChangeAt Go.RowKit Go.Proofs.Ytnhhlonnbeaooaa.L10 Go.Proofs.Ytnhhlonnbeaooaa.L13
open Go.Proofs.Ytnhhlonnbeaooaa.L9 (Nd nd GS RG Rf Lok In64 Srt nd_some nd_none nd_mem own_rd own_cast ptr newX_rt hasB hldX aimX wpList_app aim_gs node_yes kpL kpN)
open Go.Proofs.Ytnhhlonnbeaooaa.graphKeeps (Clo nd_ne)
open Go.Proofs.Ytnhhlonnbeaooaa.L5 (Cl clAt isRf IsCls newX)
set_option linter.unusedVariables false
section
variable {w : World} {u : Wo} {cs : List Cl} {ns : List Int} {ts : List Tr} {a1 : Option Addr} {len1 cap1 : Nat} {zs : List Int} {B : Nat} {al : Bool}
theorem nat_u64 {x : Int} (h : (Lit.int .u64 x).wf = true) : ∃ B : Nat, x = B ∧ B < 18446744073709551616 := by
  simp [Lit.wf, IntKind.min, IntKind.max, IntKind.signed, IntKind.bits] at h
  exact ⟨x.toNat, by omega, by omega⟩
theorem of1 {F : Int → Int → Bool} {i : Int} (h : ofX F i = 1) : F 1 i = true := by
  unfold ofX at h
  cases h1 : F 1 i with
  | true => rfl
  | false =>
    rw [h1, if_neg (by simp)] at h
    (repeat' split at h) <;> simp at h
theorem of2 {F : Int → Int → Bool} {i : Int} (h : ofX F i = 2) : F 2 i = true := by
  unfold ofX at h
  cases h2 : F 2 i with
  | true => rfl
  | false =>
    rw [h2] at h
    (repeat' split at h) <;> simp_all
theorem soft_live {L : List Nd} {i : Int} (h : Rc cs L 2 zs i) : Kc cs L (fun _ => true) zs i := by
  induction h with
  | st h k => exact .st h k
  | go _ hj hn ih =>
    unfold outs at hj
    rcases List.mem_append.1 hj with hj | hj
    · exact .go ih hj hn
    · split at hj
      · rename_i hk
        have h3 := hk
        unfold ldB at h3
        simp at h3
        rw [List.mem_singleton.1 hj] at hn ⊢
        exact .kp ih h3 rfl hn
      · cases hj
set_option maxRecDepth 100000 in
set_option maxHeartbeats 2000000 in
theorem walk_no (h0 : IsWo w u cs ns ts) (h1 : IsRow .i64 w a1 len1 cap1 zs) (hg : ¬ good u cs ∨ (good u cs ∧ 40 < len1)) :
    Calls Try.prog 3 #[Wo.v u, .slice a1 len1 cap1, .int .u64 B, .bool al] w fun e w' => e = .returned (.bool true) ∧ Below w.heap.size w w' := by
  rcases hg with hg | hg
  · skip
    obtain ⟨ca, cl, cc, na, nl, nc, ra, rl, rc⟩ := u
    obtain ⟨hbx, hb2, hb3, gB, -⟩ := boxes3 w 26 [.slice ca cl cc, .slice na nl nc, .slice ra rl rc] 28 [.int .u64 (B : Int)] 4 [.bool al]
    have HB2 := hide hb2
    have HB3 := hide hb3
    clear hb2 hb3
    have HWO := hide (h0.chg gB fun _ _ => id)
    have HRW := hide h1
    have HBX := hide hbx
    clear h0 h1 hbx
    have HM := hide (made_no HWO.out hg)
    clear hg HWO HRW HBX
    go_enter Try.func3, Try.ntmps3
    go_wp2_with fail
    refine HM.out.mono ?_
    rintro e w3 ⟨rfl, c3⟩
    have HG := hide (gB.trans c3)
    clear gB c3 HM
    go_wp2_with fail
    refine (awake_any _).mono ?_
    rintro e w4 ⟨rfl, c4⟩
    have HG4 := hide (HG.out.trans c4)
    clear c4
    go_wp2_with fail
    refine (awake_any _).mono ?_
    rintro e w5 ⟨rfl, c5⟩
    have HG5 := hide (HG4.out.trans c5)
    clear c5
    go_wp2
    go_ret
    exact ⟨rfl, HG5.out.below (fun _ _ h => h) (Nat.le_refl _)⟩
  · obtain ⟨hg, hlen⟩ := hg
    obtain ⟨ca, cl, cc, na, nl, nc, ra, rl, rc⟩ := u
    obtain ⟨hbx, hb2, hb3, gB, -⟩ := boxes3 w 26 [.slice ca cl cc, .slice na nl nc, .slice ra rl rc] 28 [.int .u64 (B : Int)] 4 [.bool al]
    have HB2 := hide hb2
    have HB3 := hide hb3
    clear hb2 hb3
    have HWO := hide (h0.chg gB fun _ _ => id)
    have HRW := hide h1
    have HBX := hide hbx
    clear h0 h1 hbx
    have HM := hide (made_yes HWO.out hg)
    have q1 : decide ((len1 : Int) > 40) = true := by simp; omega
    clear hg HWO HRW HBX hlen
    go_enter Try.func3, Try.ntmps3
    go_wp2_with fail
    refine HM.out.mono ?_
    rintro e w3 ⟨z, p, q, L, rfl, -, -, -, -, -, c3⟩
    have HG := hide (gB.trans c3)
    clear gB c3 HM
    go_wp2_with fail
    refine (awake_any _).mono ?_
    rintro e w4 ⟨rfl, c4⟩
    have HG4 := hide (HG.out.trans c4)
    clear c4
    go_wp2_with fail
    refine (awake_any _).mono ?_
    rintro e w5 ⟨rfl, c5⟩
    have HG5 := hide (HG4.out.trans c5)
    clear c5
    go_wp2
    go_ret
    exact ⟨rfl, HG5.out.below (fun _ _ h => h) (Nat.le_refl _)⟩
set_option maxRecDepth 100000 in
set_option maxHeartbeats 8000000 in
theorem walk_main (h0 : IsWo w u cs ns ts) (h1 : IsRow .i64 w a1 len1 cap1 zs) (hg : good u cs) (hle : len1 ≤ 40) (hBB : B < 18446744073709551616) :
    Calls Try.prog 3 #[Wo.v u, .slice a1 len1 cap1, .int .u64 B, .bool al] w fun e w' => e = .returned (.bool true) ∧ Below w.heap.size w w' := by
  obtain ⟨ca, cl, cc, na, nl, nc, ra, rl, rc⟩ := u
  obtain ⟨hbx, hb2, hb3, gB, -⟩ := boxes3 w 26 [.slice ca cl cc, .slice na nl nc, .slice ra rl rc] 28 [.int .u64 (B : Int)] 4 [.bool al]
  have HB2 := hide hb2
  have HB3 := hide hb3
  clear hb2 hb3
  have HWO := hide (h0.chg gB fun _ _ => id)
  have HRW := hide h1
  have HBX := hide hbx
  clear h0 h1 hbx
  have HM := hide (made_yes HWO.out hg)
  have q1 : decide ((len1 : Int) > 40) = false := by simp; omega
  have HGD := hide (show nl ≤ 40 ∧ newX cs = 0 ∧ cl ≤ 63 from ⟨hg.1.1, hg.2.2, hg.2.1.2⟩)
  have HLE := hide hle
  clear hg hle
  go_enter Try.func3, Try.ntmps3
  go_wp2_with fail
  refine HM.out.mono ?_
  rintro e w3 ⟨z, p, q, L, rfl, hbo, hids, hrv, hfv, hzz, c3⟩
  obtain ⟨S, T, hgs, hrg, hap⟩ := hbo
  obtain ⟨b, hb⟩ : ∃ b, w.heap.size = b := ⟨_, rfl⟩
  have hst : St w w3 b z p q S T ca cl cc na nl nc ra rl rc cs L a1 len1 cap1 zs := ⟨gB.trans c3, hgs, ⟨hrg, HWO.out.c.chg c3 fun _ _ => id, hgs.lok, (newX_rt HGD.out.2.1).1, by have := congrArg List.length hids; rw [List.length_map, nms_len] at this; have := HGD.out.1; omega, by have := HGD.out.2.2; omega⟩, hap, HRW.out.chg (gB.trans c3) fun _ _ => id, by rw [← hb]; exact HBX.out.chg c3 id, hids, HGD.out.1, hrv, hfv, Nat.le_trans gB.size hzz, by rw [← hb]; exact Nat.lt_of_lt_of_le HBX.out.lt hzz, HRW.out, HLE.out⟩
  rw [hb]
  have HGB := hide gB
  clear gB HM hids hrv hfv hgs hrg hap HWO HRW HBX HGD HLE
  go_wp2_with fail
  refine (awake_any _).mono ?_
  rintro e w4 ⟨rfl, c4⟩
  have HST := hide (hst.grow c4)
  have HB2 := hide ((HB2.out.chg c3 id).chg c4 id)
  have HB3 := hide ((HB3.out.chg c3 id).chg c4 id)
  rw [hb] at HB2 HB3
  clear c3 c4 hst hb HGB hzz
  have hmf : ∀ (fn : Fn) (first cap : Array Value) (w : World), (Instr.makeFunc fn first cap).run Try.prog w = .ok (.func fn first cap) w := fun _ _ _ _ => rfl
  obtain ⟨p1, q1', hR⟩ := ex_rs cs L (fun i => al || kB B i) zs
  obtain ⟨F, hF⟩ := ex_of cs L zs
  obtain ⟨r, hr⟩ := ex_rc cs L 1 zs
  obtain ⟨r3, hr3⟩ := ex_rc cs L 1 (clL L (fi L p1))
  have hl40 := HST.out.l40
  have hz := HST.out.z40
  have hlok := HST.out.lok
  have hs := hlok.1
  have HK1 := hide (keeps_strong (L := L) HB2.out HB3.out hBB HST.out.small)
  obtain ⟨l1, e1⟩ : ∃ l, clL L q1' = l := ⟨_, rfl⟩
  obtain ⟨l2, e2⟩ : ∃ l, ces cs L p1 q1' = l := ⟨_, rfl⟩
  obtain ⟨l3, e3⟩ : ∃ l, clL L (fi L p1) = l := ⟨_, rfl⟩
  obtain ⟨l4, e4⟩ : ∃ l, clL L r3 = l := ⟨_, rfl⟩
  obtain ⟨R, eR⟩ : ∃ l, clL L r = l := ⟨_, rfl⟩
  obtain ⟨m1, f1⟩ : ∃ n, l1.length = n := ⟨_, rfl⟩
  obtain ⟨m2, f2⟩ : ∃ n, l2.length = n := ⟨_, rfl⟩
  obtain ⟨m3, f3⟩ : ∃ n, l3.length = n := ⟨_, rfl⟩
  obtain ⟨m4, f4⟩ : ∃ n, l4.length = n := ⟨_, rfl⟩
  obtain ⟨M, mR⟩ : ∃ n, R.length = n := ⟨_, rfl⟩
  have hp1 : ∀ i, p1 i = false → ofX F i ≠ 1 ∧ (al = true → ofX F i ≠ 2) := fun i hp => by
    refine ⟨fun h => ?_, fun ha h => ?_⟩
    · have := (hF 1 i).1 (of1 h)
      have h2 := (hR.a i).2 (Rc.toKc (show Rc cs L 1 zs i from this))
      rw [hp] at h2
      cases h2
    · have h1 := soft_live (show Rc cs L 2 zs i from (hF 2 i).1 (of2 h))
      have h2 := (hR.a i).2 (h1.mono (fun j _ => by rw [ha]; rfl) fun _ h => h)
      rw [hp] at h2
      cases h2
  have HF1 := hide (show ∀ i ∈ l2, (aimX cs L i).2 ≠ 0 ∧ (aimX cs L i).1 ≠ 0 ∧ ofX F (aimX cs L i).1 ≠ 1 ∧ (al = true → ofX F (aimX cs L i).1 ≠ 2) ∧ ((aimX cs L i).2 = 5 → hasB l1 (aimX cs L i).1 = false ∧ hasB l4 (aimX cs L i).1 = false) from fun i hi => by
    rw [← e2] at hi
    obtain ⟨h1, h2, h3, h4, h5⟩ := hR.c_los hs ((hR.ces_mem hs).1 hi)
    obtain ⟨h6, h7⟩ := hp1 _ h3
    refine ⟨by omega, fun h0 => ?_, h6, h7, fun hk => ⟨?_, ?_⟩⟩
    · obtain ⟨x, hx⟩ := Option.ne_none_iff_exists'.1 h2
      obtain ⟨hx1, hx2⟩ := nd_some hx
      have := (hlok.2 x hx1).id1
      omega
    · rw [← e1, has_cl hs fun i hi => hR.n2 hi]
      exact h5 hk
    · rw [← e4, has_cl hs fun i hi => ((hr3 i).1 hi).is_]
      cases hr : r3 (aimX cs L i).1 with
      | false => rfl
      | true =>
        have := (hR.b _).2 (((hr3 _).1 hr).mono (fun j hj hn => .st (List.mem_append_right _ hj) hn) fun _ _ h => h)
        rw [h5 hk] at this
        cases this)
  have HF2 := hide (show ∀ i ∈ l3, ∃ x, nd L i = some x ∧ x.fin = true ∧ ofX F i ≠ 1 ∧ (al = true → ofX F i ≠ 2) from fun i hi => by
    rw [← e3] at hi
    obtain ⟨h1, h2⟩ := (clL_iff hs).1 hi
    obtain ⟨x, hx⟩ := Option.ne_none_iff_exists'.1 h1
    unfold fi at h2
    obtain ⟨h3, h4⟩ := Bool.and_eq_true_iff.1 h2
    obtain ⟨hxm, hxi⟩ := nd_some hx
    have hfb := L10.fnB_nd hs hxm
    rw [hxi, h3] at hfb
    obtain ⟨h6, h7⟩ := hp1 i (by simpa using h4)
    exact ⟨x, hx, hfb.symm, h6, h7⟩)
  have HF3 := hide (show ∀ i ∈ R, hasB l1 i = true from fun i hi => by
    rw [← eR] at hi
    rw [← e1, has_cl hs fun i hi => hR.n2 hi]
    exact hR.up hs (hR.strong hr ((clL_iff hs).1 hi).2))
  have HM := hide (show m1 ≤ 40 ∧ m2 ≤ 120 ∧ m3 ≤ 40 ∧ M ≤ 40 from by
    rw [← f1, ← f2, ← f3, ← mR, ← e1, ← e2, ← e3, ← eR]
    have h1 := clL_le L q1'
    have h2 := ces_len cs L p1 q1'
    have h3 := clL_le L (fi L p1)
    have h4 := clL_le L r
    omega)
  have HRU := hide (run_l (cc := cap1) (enters_of Try.func12 (by kernel_rfl) rfl) HK1.out HST.out.gs hl40 HST.out.rd (by omega) HST.out.i64 hR e1 e2 e3 f1 f2 f3)
  have HRE := hide (fun (W : World) (g : Grow w4 W) => reach_l (cc := cap1) (HST.out.grow g).gs hl40 (HST.out.grow g).rd (by omega) HST.out.i64 hr eR mR)
  have HOF := hide (fun (W : World) (g : Grow w4 W) (i : Int) (hi : In64 i) => of_any (c := cap1) (HST.out.grow g).gs HST.out.ll (HST.out.grow g).rd (by omega) HST.out.i64 hF hi)
  have HCLO := hide (fun (W : World) (g : Grow w4 W) (a : Option Addr) (c : Nat) (hrd : L1.Rd W a m3 l3) => close_l (cc := c) (HST.out.grow g).pg hl40 hrd (by have := HM.out; omega) (show IsRc cs L 1 l3 r3 from by rw [← e3]; exact hr3) e4 f4)
  have HAIN := hide (aim_in hlok.2)
  clear hR hF hr hr3 hl40 hz hlok hs HK1 e1 e2 e3 e4 eR f1 f2 f3 f4 mR hp1
  go_wp2_with fail
  refine HRU.out.mono ?_
  rintro e w5 ⟨x1, y1, x2, y2, x3, y3, rfl, o1, o2, o3, c5⟩
  have HA := hide (Rr.boxed c5 o1 o2 o3)
  have hcc := c5.alloc (.cells [.slice x1 m1 y1, .slice x2 m2 y2, .slice x3 m3 y3].toArray 35)
  have HG5 := hide hcc
  have r1 := HA.out.k1
  have HAL := hide (HB3.out.chg hcc id)
  clear o1 o2 o3 c5 hcc HRU hmf
  go_wp2_with fail
  clear r1
  generalize w5.alloc (.cells #[.slice x1 m1 y1, .slice x2 m2 y2, .slice x3 m3 y3] 35) = wa at *
  generalize w5.heap.size = ta at *
  go_loopw [48] (fun v wr => ∃ k : Nat, k ≤ m2 ∧ v = .int .i64 k ∧ Grow wa wr) (fun v _ => m2 - (Go.RowKit.intOf v).toNat)
  case atStart => exact ⟨0, Nat.zero_le _, rfl, Chg.refl _ _⟩
  case round =>
    obtain ⟨k, hk, rfl, hg⟩ := hrel
    rcases Nat.eq_or_lt_of_le hk with hke | hlt
    · have hke2 := hke.symm
      subst hke2
      clear hke
      have q1 : decide ((m2 : Int) < m2) = false := by simp
      have r2 := (HA.out.grow hg).k2
      have HGG := hide hg
      clear hg hk
      go_wp2_with fail
      clear r2
      go_loopw [102] (fun v wr => ∃ k : Nat, k ≤ m3 ∧ v = .int .i64 k ∧ Grow wa wr) (fun v _ => m3 - (Go.RowKit.intOf v).toNat)
      case atStart => exact ⟨0, Nat.zero_le _, rfl, HGG.out⟩
      case round =>
        clear HGG
        obtain ⟨k, hk, rfl, hg⟩ := hrel
        rcases Nat.eq_or_lt_of_le hk with hke | hlt
        · have hke2 := hke.symm
          subst hke2
          clear hke
          have q1 : decide ((m3 : Int) < m3) = false := by simp
          have HGG := hide hg
          have HR2 := hide (HRE.out _ (HG5.out.trans hg))
          clear hg hk
          go_wp2_with fail
          refine HR2.out.mono ?_
          rintro e w8 ⟨ra2, rc2, rfl, ho, g8⟩
          have HRR := hide ho
          have HG8 := hide (HGG.out.trans g8)
          clear ho g8 HR2 HGG
          go_wp2_with fail
          go_loopw [143] (fun v wr => ∃ k : Nat, k ≤ M ∧ v = .int .i64 k ∧ Grow w8 wr) (fun v _ => M - (Go.RowKit.intOf v).toNat)
          case atStart => exact ⟨0, Nat.zero_le _, rfl, Chg.refl _ _⟩
          case round =>
            obtain ⟨k, hk, rfl, hg⟩ := hrel
            rcases Nat.eq_or_lt_of_le hk with hke | hlt
            · have hke2 := hke.symm
              subst hke2
              clear hke
              have q1 : decide ((M : Int) < M) = false := by simp
              have HE := hide (HST.out.grow (HG5.out.trans (HG8.out.trans hg)))
              clear hg hk
              go_wp2
              go_ret
              exact ⟨rfl, HE.out.end_⟩
            · have q1 : decide ((k : Int) < M) = true := decide_eq_true (by omega)
              have q2 : k < M := hlt
              have hw : IntKind.i64.wrap ((k : Int) + 1) = ((k + 1 : Nat) : Int) := (IntWalk.i64_in _ (by have := HM.out; omega)).trans (by omega)
              obtain ⟨g, rfl, k0, hi, hm⟩ := (HRR.out.grow hg).at_ hlt
              have r0 := (HA.out.grow (HG8.out.trans hg)).k0
              have HX1 := hide (fun (W : World) (gg : Grow wr W) => ((HA.out.grow (HG8.out.trans hg)).grow gg).o1.has (R.getD k 0))
              rw [HF3.out _ hm] at HX1
              generalize R.getD k 0 = i at *
              have HLT := hide hlt
              have HGG := hide hg
              clear hm hi hlt hk hg
              go_wp2_with fail
              refine wp_region_grow (by kernel_rfl) (by kernel_rfl) ?_
              repeat (
                with_reducible refine wpQuiet_step ?_
                intro K hK
                first
                  | ((with_reducible refine quiet_offT rfl ?_ (hK _ ?_)); focus (refine ⟨_, rfl, ?_⟩; with_reducible rfl))
                  | ((with_reducible refine quiet_offF rfl ?_ (hK _ ?_)); focus (refine ⟨_, rfl, ?_⟩; with_reducible rfl))
                  | ((with_reducible refine quiet_offN rfl ?_ (hK _ ?_)); focus (exact rfl))
                  | ((first | with_reducible refine quiet_free rfl ?_ | ((with_reducible refine quiet_on rfl ?_ ?_); focus (refine ⟨_, rfl, ?_⟩; with_reducible rfl)))
                     apply Exists.intro
                     refine ⟨fun Wq hW => ?_, hK _ ?_⟩
                     focus (have q0 := Grow.cell hW r0; have q1 := Grow.cell hW k0; go_simp; first | done | with_reducible rfl | (go_at_call 16; (first | with_reducible exact grown_call hW (HX1.out _ hW) | with_reducible exact grown_same hW (HX1.out _ hW)))))
                clear hK K
                simp only [Act.put, List.setIfInBounds_toArray, List.set_cons_zero, List.set_cons_succ])
              with_reducible refine wpQuiet_nil ?_
              intro w11 c11
              have HN2 := hide (HGG.out.trans c11)
              (clear c11 r0 k0 HX1)
              go_wp2
              go_roundw
              case rel => exact ⟨k + 1, HLT.out, rfl, HN2.out⟩
              case measure => have := HLT.out; simp [Go.RowKit.intOf]; omega
        · have q1 : decide ((k : Int) < m3) = true := decide_eq_true (by omega)
          have q2 : k < m3 := hlt
          have hw : IntKind.i64.wrap ((k : Int) + 1) = ((k + 1 : Nat) : Int) := (IntWalk.i64_in _ (by have := HM.out; omega)).trans (by omega)
          obtain ⟨g, rfl, k0, hi, hm⟩ := (HA.out.grow hg).o3.at_ hlt
          have r2 := (HA.out.grow hg).k2
          have al0 := (HAL.out.chg hg id).cell 0
          obtain ⟨x, hx, hxf, hx1, hx2⟩ := HF2.out _ hm
          have HNO := hide (node_yes (HST.out.grow (HG5.out.trans hg)).gs hi hx)
          have HO := hide (fun (W : World) (gg : Grow wr W) => HOF.out W ((HG5.out.trans hg).trans gg) _ hi)
          generalize l3.getD k 0 = i at *
          generalize ofX F i = X at *
          have q5 : (X == 1) = false := by simpa using hx1
          have HLT := hide hlt
          have HGG := hide hg
          have HX2 := hide hx2
          have HXF := hide hxf
          clear hx hm hi hlt hg hk hx1 hx2 hxf
          go_wp2_with fail
          refine HNO.out.mono ?_
          rintro e w10 ⟨ar, cr, ad, cd, rfl, -, g10⟩
          unfold L9.ndV
          rw [HXF.out]
          have hcc := g10.alloc (.cells [.int .i64 x.id, .int .i64 x.c, .slice ar x.refs.length cr, .slice ad x.data.length cd, .bool true].toArray 38)
          have hnb := Blk.new w10 38 [.int .i64 x.id, .int .i64 x.c, .slice ar x.refs.length cr, .slice ad x.data.length cd, .bool true]
          replace k0 := Grow.cell hcc k0
          replace r2 := Grow.cell hcc r2
          replace al0 := Grow.cell hcc al0
          have HA10 := hide (HO.out _ hcc)
          have HC10 := hide hcc
          have HNB := hide hnb
          clear hcc g10 HNO HO hnb
          go_wp2_with fail
          generalize w10.alloc (.cells #[.int .i64 x.id, .int .i64 x.c, .slice ar x.refs.length cr, .slice ad x.data.length cd, .bool true] 38) = wn at *
          generalize w10.heap.size = nb at *
          refine HA10.out.mono ?_
          rintro e w11 ⟨rfl, g11⟩
          have n4 := (HNB.out.chg g11 id).cell 4
          replace al0 := Grow.cell g11 al0
          have HG11 := hide (HC10.out.trans g11)
          clear g11 HA10 HC10 HNB r2 k0 q1 q2
          cases al with
          | false =>
            clear HX2
            have HN2 := hide (HGG.out.trans HG11.out)
            skip
            go_wp2
            go_roundw
            case rel => exact ⟨k + 1, HLT.out, rfl, HN2.out⟩
            case measure => have := HLT.out; simp [Go.RowKit.intOf]; omega
          | true =>
            have hx2 := HX2.out rfl
            have q6 : (X == 2) = false := by simpa using hx2
            clear HX2 hx2
            have HN2 := hide (HGG.out.trans HG11.out)
            skip
            go_wp2
            go_roundw
            case rel => exact ⟨k + 1, HLT.out, rfl, HN2.out⟩
            case measure => have := HLT.out; simp [Go.RowKit.intOf]; omega
    · have q1 : decide ((k : Int) < m2) = true := decide_eq_true (by omega)
      have q2 : k < m2 := hlt
      have hw : IntKind.i64.wrap ((k : Int) + 1) = ((k + 1 : Nat) : Int) := (IntWalk.i64_in _ (by have := HM.out; omega)).trans (by omega)
      obtain ⟨g, rfl, k0, hi, hm⟩ := (HA.out.grow hg).o2.at_ hlt
      have r1 := (HA.out.grow hg).k1
      have al0 := (HAL.out.chg hg id).cell 0
      have HAI := hide (aim_gs (HST.out.grow (HG5.out.trans hg)).gs hi)
      obtain ⟨h1, h2, h3, h4, h5⟩ := HF1.out _ hm
      have hti := HAIN.out (l2.getD k 0)
      generalize l2.getD k 0 = i at *
      obtain ⟨t, ht⟩ : ∃ t, aimX cs L i = t := ⟨_, rfl⟩
      rw [ht] at HAI h1 h2 h3 h4 h5 hti
      obtain ⟨t1, t2⟩ := t
      dsimp only at h1 h2 h3 h4 h5 hti
      have HO := hide (fun (W : World) (gg : Grow wr W) => HOF.out W ((HG5.out.trans hg).trans gg) t1 hti)
      have HH1 := hide (fun (W : World) (gg : Grow wa W) => (HA.out.grow gg).o1.has t1)
      have HH4 := hide (fun (W : World) (a : Option Addr) (c b : Nat) (h : Nl W b a m4 c l4) => h.has t1)
      have HCL := hide (fun (W : World) (gg : Grow wa W) => HCLO.out W (HG5.out.trans gg) x3 y3 (HA.out.grow gg).o3.rd)
      generalize ofX F t1 = X at *
      have q5 : (X == 1) = false := by simpa using h3
      have q6 : (t2 == 0) = false := by simpa using h1
      have q7 : (t1 == 0) = false := by simpa using h2
      have HK4 := hide h4
      have HK5 := hide h5
      have HLT := hide hlt
      have HGG := hide hg
      clear hm hi ht hti hlt hg hk h1 h2 h3 h4 h5
      go_wp2_with fail
      refine HAI.out.mono ?_
      rintro e w9 ⟨rfl, g9⟩
      dsimp only
      have HO9 := hide (HO.out _ g9)
      replace al0 := Grow.cell g9 al0
      have HG9 := hide (HGG.out.trans g9)
      clear g9 HAI HO k0 r1 q1 q2
      go_wp2_with fail
      refine HO9.out.mono ?_
      rintro e w10 ⟨rfl, g10⟩
      replace al0 := Grow.cell g10 al0
      have HG10 := hide (HG9.out.trans g10)
      have r0 := (HA.out.grow HG10.out).k0
      clear g10 HO9 HG9
      cases al with
      | false =>
        clear HK4
        by_cases h5 : t2 = 5
        · subst h5
          obtain ⟨hb1, hb2⟩ := HK5.out rfl
          rw [hb1] at HH1
          rw [hb2] at HH4
          clear hb1 hb2 HK5
          go_wp2_with fail
          refine (HH1.out _ HG10.out).mono ?_
          rintro e w12 ⟨rfl, g12⟩
          have HG12 := hide (HG10.out.trans g12)
          have r2 := (HA.out.grow HG12.out).k2
          clear g12
          go_wp2_with fail
          refine (HCL.out _ HG12.out).mono ?_
          rintro e w13 ⟨fa, fc, rfl, hnl, g13⟩
          have HH := hide (HH4.out _ _ _ _ hnl)
          have HG13 := hide (HG12.out.trans g13)
          clear hnl g13 r2 HH4
          go_wp2_with fail
          refine HH.out.mono ?_
          rintro e w14 ⟨rfl, g14⟩
          have HN2 := hide (HG13.out.trans g14)
          (clear g14)
          go_wp2
          go_roundw
          case rel => exact ⟨k + 1, HLT.out, rfl, HN2.out⟩
          case measure => have := HLT.out; simp [Go.RowKit.intOf]; omega
        · have q9 : (t2 == 5) = false := by simpa using h5
          clear h5 HK5 HH4 HH1
          have HN2 := hide HG10.out
          skip
          go_wp2
          go_roundw
          case rel => exact ⟨k + 1, HLT.out, rfl, HN2.out⟩
          case measure => have := HLT.out; simp [Go.RowKit.intOf]; omega
      | true =>
        have q8 : (X == 2) = false := by simpa using HK4.out rfl
        clear HK4
        by_cases h5 : t2 = 5
        · subst h5
          obtain ⟨hb1, hb2⟩ := HK5.out rfl
          rw [hb1] at HH1
          rw [hb2] at HH4
          clear hb1 hb2 HK5
          go_wp2_with fail
          refine (HH1.out _ HG10.out).mono ?_
          rintro e w12 ⟨rfl, g12⟩
          have HG12 := hide (HG10.out.trans g12)
          have r2 := (HA.out.grow HG12.out).k2
          clear g12
          go_wp2_with fail
          refine (HCL.out _ HG12.out).mono ?_
          rintro e w13 ⟨fa, fc, rfl, hnl, g13⟩
          have HH := hide (HH4.out _ _ _ _ hnl)
          have HG13 := hide (HG12.out.trans g13)
          clear hnl g13 r2 HH4
          go_wp2_with fail
          refine HH.out.mono ?_
          rintro e w14 ⟨rfl, g14⟩
          have HN2 := hide (HG13.out.trans g14)
          (clear g14)
          go_wp2
          go_roundw
          case rel => exact ⟨k + 1, HLT.out, rfl, HN2.out⟩
          case measure => have := HLT.out; simp [Go.RowKit.intOf]; omega
        · have q9 : (t2 == 5) = false := by simpa using h5
          clear h5 HK5 HH4 HH1
          have HN2 := hide HG10.out
          skip
          go_wp2
          go_roundw
          case rel => exact ⟨k + 1, HLT.out, rfl, HN2.out⟩
          case measure => have := HLT.out; simp [Go.RowKit.intOf]; omega
theorem walk (u : Wo) (cs : List Cl) (ns : List Int) (ts : List Tr) (a1 : Option Addr) (len1 cap1 : Nat) (zs : List Int) (b : Int) (al : Bool) (w : World) (h0 : IsWo w u cs ns ts) (h1 : IsRow .i64 w a1 len1 cap1 zs) (h2 : (Lit.int .u64 b).wf = true) :
    Calls Try.prog 3 #[Wo.v u, .slice a1 len1 cap1, .int .u64 b, .bool al] w fun e w' => e = .returned (.bool true) ∧ Below w.heap.size w w' := by
  obtain ⟨B, rfl, hB⟩ := nat_u64 h2
  by_cases hg : good u cs
  · by_cases hl : 40 < len1
    · exact walk_no h0 h1 (.inr ⟨hg, hl⟩)
    · exact walk_main h0 h1 hg (by omega) hB
  · exact walk_no h0 h1 (.inl hg)
end
theorem own : ownKnob Try.prog.godebug = none := by kernel_rfl
theorem laidOut : laidOutB Try.prog = true := by kernel_rfl

set_option maxRecDepth 100000 in
theorem lifted (os : Os) (started : os.Started) (H : Type) (enc : TypeId × Value → H) :
    ReturnsInHanded {} Try.checked os 3 .any (Rows.processStrongSpec.pre6 enc Try.prog Try.f3 Rows.processStrongRow.domain false) (Rows.processStrongSpec.post enc Try.prog Try.f3 false true false false) := by
  refine returnsInHanded_of_change (C := Try.checked) own started (by kernel_rfl) Try.func3
    (ChangeSpec.witness6 (enc := enc) (C := Try.checked) false ⟨#[], #[.agg #[.slice none 0 0, .slice none 0 0, .slice none 0 0], .slice none 0 0, .int .u64 0, .bool false], []⟩ 8 (by kernel_rfl) (by kernel_rfl) (by kernel_rfl) (by kernel_rfl)) ?_
  intro W base args ds gs before hval0 hW hcnd _
  have hval : ∀ (j : Nat) t v, Try.f3.params[j]? = some t → args[j]? = some v → Value.okWide Try.prog W .any base t v := hval0
  have hW' := hW
  obtain ⟨p, q, hA0, hV, rfl, hfz, hnd⟩ := hW
  have hA : DataW.TrodAll enc Try.prog W 0 (fun _ => true) true Try.f3.params.toList args.toList ds p := hA0
  rw [Try.params3] at hA hval
  obtain ⟨v0, vs0, d0, ds0, p0, q0, hargs, rfl, rfl, h0, r0⟩ := trodAll_cons hA
  obtain ⟨v1, vs1, d1, ds1, p1, q1, rfl, rfl, rfl, h1, r1⟩ := trodAll_cons r0
  obtain ⟨v2, vs2, d2, ds2, p2, q2, rfl, rfl, rfl, h2, r2⟩ := trodAll_cons r1
  obtain ⟨v3, vs3, d3, ds3, p3, q3, rfl, rfl, rfl, h3, r3⟩ := trodAll_cons r2
  obtain ⟨rfl, rfl, rfl⟩ := trodAll_nil r3
  obtain rfl : args = #[v0, v1, v2, v3] := by cases args; simp_all
  obtain ⟨rfl, rfl⟩ := trodVars_none hV
  have k0 := h0
  have lt0 : ∀ x ∈ p0, x.block < W.heap.size := by obtain ⟨m, hm⟩ := k0; exact DataW.trod_lt m _ _ _ hm
  obtain ⟨u0, cs0, ns0, ts0, rfl, w0⟩ := open_world (hval 0 26 v0 rfl rfl) h0
  obtain ⟨a1, len1, cap1, rfl⟩ := okWide_slice Try.underlying27 (hval 1 27 v1 rfl rfl)
  have k1 := h1
  have lt1 : ∀ x ∈ p1, x.block < W.heap.size := by obtain ⟨m, hm⟩ := k1; exact DataW.trod_lt m _ _ _ hm
  obtain ⟨z1, w1⟩ : ∃ zs, IsRow .i64 W a1 len1 cap1 zs := open_row Try.underlying27 Try.underlying3 (by kernel_rfl) h1
  obtain ⟨a2, rfl, rfl, rfl, w2⟩ := open_int Try.underlying28 (hval 2 28 v2 rfl rfl) h2
  obtain ⟨a3, rfl, rfl, rfl⟩ := open_bool Try.underlying4 (hval 3 4 v3 rfl rfl) h3
  clear hA0 hval0
  refine (walk u0 cs0 ns0 ts0 a1 len1 cap1 z1 a2 a3 W w0 w1 w2).mono fun e W' ⟨he, bel⟩ => ?_
  subst he
  exact ⟨_, rfl, _, _, _, [], _, [], hW', trodAll_mk1 (shut_bool Try.underlying4 _), (trodAll_cons_mk (Below.trod laidOut (by kernel_rfl) (of_decide_eq_true (by kernel_rfl)) k0 bel lt0) (trodAll_cons_mk (Below.trod laidOut (by kernel_rfl) (of_decide_eq_true (by kernel_rfl)) k1 bel lt1) (trodAll_cons_mk (shut_int Try.underlying28 w2) (trodAll_cons_mk (shut_bool Try.underlying4 _) trodAll_mk0)))), rfl, bel.frame _, fun h => by cases h⟩

theorem over : Rows.processStrongRow.holds Try.pinned (OpenSpec.ofChange Rows.processStrongSpec) :=
  OpenClaim.holds_of_wide 3 Try.f3 rfl rfl rfl rfl rfl rfl rfl ⟨rfl, rfl, rfl, rfl, rfl⟩ rfl rfl rfl rfl rfl (by kernel_rfl) Try.func3 (by kernel_rfl)
    (of_decide_eq_true (by kernel_rfl)) (by unfold Func.isWrapper; first | (rw [if_pos (by decide +kernel)]; kernel_rfl) | (rw [if_neg (by decide +kernel)]; exact ⟨rfl, rfl⟩))
    (fun os started H enc _ => lifted os started H enc)

/-- The statement. -/
theorem proved : Rows.ProcessStrongSaid := over
#print axioms proved
end Go.Proofs.Ytnhhlonnbeaooaa.processStrong


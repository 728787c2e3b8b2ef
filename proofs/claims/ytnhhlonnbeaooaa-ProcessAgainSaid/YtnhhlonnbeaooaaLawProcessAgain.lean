/- For all worlds, roots and bits ProcessAgain answers true: done once more nothing is to be finalized; from all that stays nothing is cleared, and nothing goes. Conditions: none. -/
import Derived.Test.YtnhhlonnbeaooaaL13W
namespace Go.Proofs.Ytnhhlonnbeaooaa.processAgain
open Go.ChangeShapes Go.WideShapes Go.ChangeAt Go.RowKit Go.Proofs.Ytnhhlonnbeaooaa.L10 Go.Proofs.Ytnhhlonnbeaooaa.L13
open Go.Proofs.Ytnhhlonnbeaooaa.L9 (Nd nd GS RG Rf Lok In64 Srt nd_some nd_none nd_mem own_rd own_cast ptr newX_rt hasB hldX aimX wpList_app aim_gs node_yes kpL kpN)
open Go.Proofs.Ytnhhlonnbeaooaa.graphKeeps (Clo nd_ne)
open Go.Proofs.Ytnhhlonnbeaooaa.L5 (Cl clAt isRf IsCls newX)
set_option linter.unusedVariables false
section
variable {w : World} {u : Wo} {cs : List Cl} {ns : List Int} {ts : List Tr} {a1 : Option Addr} {len1 cap1 : Nat} {zs : List Int} {B : Nat}
theorem nat_u64 {x : Int} (h : (Lit.int .u64 x).wf = true) : ∃ B : Nat, x = B ∧ B < 18446744073709551616 := by
  simp [Lit.wf, IntKind.min, IntKind.max, IntKind.signed, IntKind.bits] at h
  exact ⟨x.toNat, by omega, by omega⟩
/-- What the law gathers. -/
structure Mo (W : World) (b : Nat) (v : Value) (zs mr : List Int) (k : Nat) : Prop where
  o : OL W b v mr
  z : ∀ i ∈ zs, i ∈ mr
  i : ∀ i ∈ mr, In64 i
  l : mr.length ≤ 80 + k
theorem Mo.grow {W W' : World} {b k : Nat} {v : Value} {zs mr : List Int} (h : Mo W b v zs mr k) (g : Grow W W') : Mo W' b v zs mr k := ⟨h.o.grow g, h.z, h.i, h.l⟩
theorem Mo.more {W : World} {b k : Nat} {v : Value} {zs mr : List Int} (h : Mo W b v zs mr k) : Mo W b v zs mr (k + 1) := ⟨h.o, h.z, h.i, by have := h.l; omega⟩
set_option maxRecDepth 100000 in
set_option maxHeartbeats 2000000 in
theorem walk_no (h0 : IsWo w u cs ns ts) (h1 : IsRow .i64 w a1 len1 cap1 zs) (hg : ¬ good u cs ∨ (good u cs ∧ 40 < len1)) :
    Calls Try.prog 5 #[Wo.v u, .slice a1 len1 cap1, .int .u64 B] w fun e w' => e = .returned (.bool true) ∧ Below w.heap.size w w' := by
  rcases hg with hg | hg
  · skip
    obtain ⟨ca, cl, cc, na, nl, nc, ra, rl, rc⟩ := u
    obtain ⟨hbx, hb2, gB, -, -, -⟩ := boxes2 w 26 [.slice ca cl cc, .slice na nl nc, .slice ra rl rc] 28 [.int .u64 (B : Int)]
    have HB2 := hide hb2
    clear hb2
    have HWO := hide (h0.chg gB fun _ _ => id)
    have HRW := hide h1
    have HBX := hide hbx
    clear h0 h1 hbx
    have HM := hide (made_no HWO.out hg)
    clear hg HWO HRW HBX
    go_enter Try.func5, Try.ntmps5
    go_wp2_with fail
    refine HM.out.mono ?_
    rintro e w3 ⟨rfl, c3⟩
    have HG := hide (gB.trans c3)
    clear gB c3 HM
    go_wp2_with fail
    refine (awake_any _).mono ?_
    rintro e w4 ⟨rfl, c4⟩
    have HG4 := hide (HG.out.trans c4)
    clear c4
    go_wp2_with fail
    refine (awake_any _).mono ?_
    rintro e w5 ⟨rfl, c5⟩
    have HG5 := hide (HG4.out.trans c5)
    clear c5
    go_wp2
    go_ret
    exact ⟨rfl, HG5.out.below (fun _ _ h => h) (Nat.le_refl _)⟩
  · obtain ⟨hg, hlen⟩ := hg
    obtain ⟨ca, cl, cc, na, nl, nc, ra, rl, rc⟩ := u
    obtain ⟨hbx, hb2, gB, -, -, -⟩ := boxes2 w 26 [.slice ca cl cc, .slice na nl nc, .slice ra rl rc] 28 [.int .u64 (B : Int)]
    have HB2 := hide hb2
    clear hb2
    have HWO := hide (h0.chg gB fun _ _ => id)
    have HRW := hide h1
    have HBX := hide hbx
    clear h0 h1 hbx
    have HM := hide (made_yes HWO.out hg)
    have q1 : decide ((len1 : Int) > 40) = true := by simp; omega
    clear hg HWO HRW HBX hlen
    go_enter Try.func5, Try.ntmps5
    go_wp2_with fail
    refine HM.out.mono ?_
    rintro e w3 ⟨z, p, q, L, rfl, -, -, -, -, -, c3⟩
    have HG := hide (gB.trans c3)
    clear gB c3 HM
    go_wp2_with fail
    refine (awake_any _).mono ?_
    rintro e w4 ⟨rfl, c4⟩
    have HG4 := hide (HG.out.trans c4)
    clear c4
    go_wp2_with fail
    refine (awake_any _).mono ?_
    rintro e w5 ⟨rfl, c5⟩
    have HG5 := hide (HG4.out.trans c5)
    clear c5
    go_wp2
    go_ret
    exact ⟨rfl, HG5.out.below (fun _ _ h => h) (Nat.le_refl _)⟩
set_option maxRecDepth 100000 in
set_option maxHeartbeats 8000000 in
theorem walk_main (h0 : IsWo w u cs ns ts) (h1 : IsRow .i64 w a1 len1 cap1 zs) (hg : good u cs) (hle : len1 ≤ 40) (hBB : B < 18446744073709551616) :
    Calls Try.prog 5 #[Wo.v u, .slice a1 len1 cap1, .int .u64 B] w fun e w' => e = .returned (.bool true) ∧ Below w.heap.size w w' := by
  obtain ⟨ca, cl, cc, na, nl, nc, ra, rl, rc⟩ := u
  obtain ⟨hbx, hb2, gB, -, -, -⟩ := boxes2 w 26 [.slice ca cl cc, .slice na nl nc, .slice ra rl rc] 28 [.int .u64 (B : Int)]
  have HB2 := hide hb2
  clear hb2
  have HWO := hide (h0.chg gB fun _ _ => id)
  have HRW := hide h1
  have HBX := hide hbx
  clear h0 h1 hbx
  have HM := hide (made_yes HWO.out hg)
  have q1 : decide ((len1 : Int) > 40) = false := by simp; omega
  have HGD := hide (show nl ≤ 40 ∧ newX cs = 0 ∧ cl ≤ 63 from ⟨hg.1.1, hg.2.2, hg.2.1.2⟩)
  have HLE := hide hle
  clear hg hle
  go_enter Try.func5, Try.ntmps5
  go_wp2_with fail
  refine HM.out.mono ?_
  rintro e w3 ⟨z, p, q, L, rfl, hbo, hids, hrv, hfv, hzz, c3⟩
  obtain ⟨S, T, hgs, hrg, hap⟩ := hbo
  obtain ⟨b, hb⟩ : ∃ b, w.heap.size = b := ⟨_, rfl⟩
  have hst : St w w3 b z p q S T ca cl cc na nl nc ra rl rc cs L a1 len1 cap1 zs := ⟨gB.trans c3, hgs, ⟨hrg, HWO.out.c.chg c3 fun _ _ => id, hgs.lok, (newX_rt HGD.out.2.1).1, by have := congrArg List.length hids; rw [List.length_map, nms_len] at this; have := HGD.out.1; omega, by have := HGD.out.2.2; omega⟩, hap, HRW.out.chg (gB.trans c3) fun _ _ => id, by rw [← hb]; exact HBX.out.chg c3 id, hids, HGD.out.1, hrv, hfv, Nat.le_trans gB.size hzz, by rw [← hb]; exact Nat.lt_of_lt_of_le HBX.out.lt hzz, HRW.out, HLE.out⟩
  rw [hb]
  have HGB := hide gB
  clear gB HM hids hrv hfv hgs hrg hap HWO HRW HBX HGD HLE
  go_wp2_with fail
  refine (awake_any _).mono ?_
  rintro e w4 ⟨rfl, c4⟩
  have HST := hide (hst.grow c4)
  have HZ2 := hide (Nat.lt_of_lt_of_le HB2.out.lt hzz)
  have HB2 := hide ((HB2.out.chg c3 id).chg c4 id)
  rw [hb] at HB2 HZ2
  clear c3 c4 hst hb HGB hzz
  have hmf : ∀ (fn : Fn) (first cap : Array Value) (w : World), (Instr.makeFunc fn first cap).run Try.prog w = .ok (.func fn first cap) w := fun _ _ _ _ => rfl
  obtain ⟨p1, q1', hR⟩ := ex_rs cs L (kB B) zs
  have hl40 := HST.out.l40
  have hz := HST.out.z40
  have hlok := HST.out.lok
  have hclo := HST.out.clo
  have HK1 := hide (keeps_again (L := L) HB2.out hBB HST.out.small)
  obtain ⟨l1, e1⟩ : ∃ l, clL L q1' = l := ⟨_, rfl⟩
  obtain ⟨l2, e2⟩ : ∃ l, ces cs L p1 q1' = l := ⟨_, rfl⟩
  obtain ⟨l3, e3⟩ : ∃ l, clL L (fi L p1) = l := ⟨_, rfl⟩
  obtain ⟨m1, f1⟩ : ∃ n, l1.length = n := ⟨_, rfl⟩
  obtain ⟨m2, f2⟩ : ∃ n, l2.length = n := ⟨_, rfl⟩
  obtain ⟨m3, f3⟩ : ∃ n, l3.length = n := ⟨_, rfl⟩
  have HRU := hide (run_l (cc := cap1) (enters_of Try.func25 (by kernel_rfl) rfl) HK1.out HST.out.gs hl40 HST.out.rd (by omega) HST.out.i64 hR e1 e2 e3 f1 f2 f3)
  have HM := hide (show m1 ≤ 40 ∧ m3 ≤ 40 from by
    rw [← f1, ← f3, ← e1, ← e3]
    have h1 := clL_le L q1'
    have h2 := clL_le L (fi L p1)
    omega)
  obtain ⟨L', hL'⟩ : ∃ L', apL cs L l1 l2 l3 = L' := ⟨_, rfl⟩
  have hL2 : gAp cs L p1 q1' = L' := by rw [← hL', ← e1, ← e2, ← e3]
  have hids : L'.map Nd.id = l1 := by rw [← hL2, hR.ap_ids hlok hclo, e1]
  have hl2 : L'.length ≤ 40 := by
    have h2 := congrArg List.length hids
    rw [List.length_map] at h2
    have := HM.out
    omega
  have hs2 : Srt L' := by rw [← hL2]; exact hR.ap_srt hlok hclo
  have HID := hide (show ∀ x ∈ L', x.id ∈ l1 from fun x hx => by rw [← hids]; exact List.mem_map_of_mem hx)
  have HND := hide (show ∀ i ∈ l1, ∃ x, nd L' i = some x ∧ ∃ k : Nat, i = k ∧ k < 64 from fun i hi => by
    have h0 := hi
    rw [← hids] at h0
    obtain ⟨x, hx, rfl⟩ := List.mem_map.1 h0
    refine ⟨x, nd_mem hs2 hx, ?_⟩
    rw [← e1] at hi
    exact HST.out.small _ ((clL_iff hlok.1).1 hi).1)
  have HAG := hide (show ∀ (mr : List Int) (p2 q2 : Int → Bool), (∀ i ∈ zs, i ∈ mr) → Rs cs L' (fun _ => true) mr p2 q2 → clL L' (fi L' p2) = [] from fun mr p2 q2 hm h2 => by
    rw [← hL2] at h2 ⊢
    exact hR.again_fin hlok hclo h2 (fun _ _ => rfl) hm)
  obtain ⟨p3, q3, hR3⟩ := ex_rs cs L' no l1
  have hc3 := hR3.full_ces hs2 HID.out
  have hn3 := hR3.full_n hs2 HID.out
  obtain ⟨l4, e4⟩ : ∃ l, clL L' q3 = l := ⟨_, rfl⟩
  obtain ⟨l5, e5⟩ : ∃ l, clL L' (fi L' p3) = l := ⟨_, rfl⟩
  obtain ⟨m4, f4⟩ : ∃ n, l4.length = n := ⟨_, rfl⟩
  obtain ⟨m5, f5⟩ : ∃ n, l5.length = n := ⟨_, rfl⟩
  rw [hc3, e4, e5] at hn3
  have HR3 := hide (fun (W : World) (a : Option Addr) (c : Nat) (hg : GS W z S p cs L') (hrd : L1.Rd W a m1 l1) (hi : ∀ i ∈ l1, In64 i) => run_ln (cc := c) hg hl2 hrd (by have := HM.out; omega) hi hR3 e4 hc3 e5 f4 (show ([] : List Int).length = 0 from rfl) f5)
  have HR2 := hide (fun (W : World) (a : Option Addr) (n c : Nat) (mr : List Int) (p2 q2 : Int → Bool) (hg : GS W z S p cs L') (hrd : L1.Rd W a n mr) (hn : n ≤ 1000000) (hi : ∀ i ∈ mr, In64 i) (h2 : Rs cs L' (fun _ => true) mr p2 q2) (e : clL L' (fi L' p2) = []) =>
    run_l (cc := c) (enters_of Try.func26 (by kernel_rfl) rfl) (keeps_again2 (w := W) (L := L')) hg hl2 hrd hn hi h2 rfl rfl e rfl rfl (show ([] : List Int).length = 0 from rfl))
  have HN3 := hide hn3
  have HM4 := hide (show m4 ≤ 40 from by rw [← f4, ← e4]; have := clL_le L' q3; omega)
  have HL40 := hide (And.intro hl40 hl2)
  have HLP := hide hL'
  have HSB := hide HST.out.sb
  have HZS := hide (And.intro hz HST.out.i64)
  have HAP := hide HST.out.gs
  clear hR hl40 hz hlok hclo HK1 e1 e2 e3 f1 f2 f3 hL' hL2 hids hl2 hs2 hR3 hc3 hn3 e4 e5 f4 f5
  go_wp2_with fail
  refine HRU.out.mono ?_
  rintro e w5 ⟨x1, y1, x2, y2, x3, y3, rfl, o1, o2, o3, c5⟩
  have HA := hide (Rr.boxed c5 o1 o2 o3)
  have hcc := c5.alloc (.cells [.slice x1 m1 y1, .slice x2 m2 y2, .slice x3 m3 y3].toArray 35)
  have HG5 := hide hcc
  have r0 := HA.out.k0
  have r1 := HA.out.k1
  have r2 := HA.out.k2
  have HAPP := hide (apply_l (HAP.out.grow hcc) HL40.out.1 HA.out (fun k hk => HSB.out k hk) (by have := HM.out; omega))
  rw [HLP.out] at HAPP
  clear o1 o2 o3 c5 hcc HRU
  go_wp2_with fail
  clear r0 r1 r2
  generalize w5.alloc (.cells #[.slice x1 m1 y1, .slice x2 m2 y2, .slice x3 m3 y3] 35) = wa at *
  generalize w5.heap.size = ta at *
  refine HAPP.out.mono ?_
  rintro e w8 ⟨rfl, c8, h8⟩
  have HA8 := hide (HA.out.chg c8 HSB.out)
  have HSZ := hide c8.size
  have HO8 := hide (HST.out.old HG5.out c8)
  have HB8 := hide (HB2.out.chg (HG5.out) id |>.chg c8 fun hs => by have := (HAP.out.s hs).1; have := HZ2.out; omega)
  have H8 := hide h8
  clear c8 h8 HAPP HA
  have gA : Grow w8 (w8.alloc (.cells #[] 3)).drew := (Grow.box w8 (.cells #[] 3)).drew
  have lA : OL (w8.alloc (.cells #[] 3)).drew w8.heap.size (.slice (some ⟨w8.heap.size, 0, none⟩) 0 0) [] := (OL.lit w8 [] (by simp)).grow ((Chg.refl (fun _ => False) _).drew)
  obtain ⟨v1, W1, hr1, ho1, cg1, -⟩ := app_more (c0 := cap1) gA lA (HST.out.rd_old (HO8.out.trans gA)) (by have := HZS.out.1; simp; omega)
  obtain ⟨v2, W2, hr2, ho2, cg2, -⟩ := app_more (c0 := y3) cg1 ho1 (HA8.out.grow cg1).o3.rd (by have := HST.out.rd.1; have := HZS.out.1; have := HM.out; simp; omega)
  have hmo : Mo W2 w8.heap.size v2 zs ([] ++ zs ++ l3) 0 := ⟨ho2, fun i hi => by simp [hi], fun i hi => by
    rw [List.nil_append] at hi
    rcases List.mem_append.1 hi with hi | hi
    · exact HZS.out.2 i hi
    · exact HA8.out.o3.i i hi, by have := HST.out.rd.1; have := HZS.out.1; have := HM.out; have := HA8.out.o3.l; simp; omega⟩
  have KA1 := hide hr1
  have KA2 := hide hr2
  have HMO := hide hmo
  have r2 := HA8.out.k2
  have r2a := (HA8.out.grow gA).k2
  have r2b := (HA8.out.grow cg1).k2
  have HC2 := hide cg2
  clear gA lA hr1 ho1 cg1 hr2 ho2 cg2 hmo hmf
  go_wp2_with fail
  go_region_law (first | (refine L9.step_app (by rfl) _ _ _ (by rfl) (.slice (some ⟨w8.heap.size, 0, none⟩) 0 0) (.slice a1 len1 cap1) v1 W1 (by rfl) (by rfl) KA1.out ?_) | (refine L9.step_app (by rfl) _ _ _ (by rfl) v1 (.slice x3 m3 y3) v2 W2 (by rfl) (by rfl) KA2.out ?_))
  all_goals
    clear r2 r2a r2b
    have r0 := (HA8.out.grow HC2.out).k0
    clear KA1 KA2
    go_wp2_with fail
    clear r0
    go_loopw [12, 54] (fun v u wr => ∃ (k : Nat) (mr : List Int), k ≤ m1 ∧ u = .int .i64 k ∧ Mo wr w8.heap.size v zs mr k ∧ Grow w8 wr) (fun _ u _ => m1 - (Go.RowKit.intOf u).toNat)
    case atStart => exact ⟨0, _, Nat.zero_le _, rfl, HMO.out, HC2.out⟩
    case round =>
      clear HMO HC2
      obtain ⟨k, mr, hk, rfl, hmo, hg⟩ := hrel
      rcases Nat.eq_or_lt_of_le hk with hke | hlt
      · have hke2 := hke.symm
        subst hke2
        clear hke
        have q1 : decide ((m1 : Int) < m1) = false := by simp
        obtain ⟨ma, mc, hv⟩ := own_len hmo.o
        subst hv
        obtain ⟨mn, hmn⟩ : ∃ mn, mr.length = mn := ⟨_, rfl⟩
        obtain ⟨p2, q2, h2⟩ := ex_rs cs L' (fun _ => true) mr
        have hf2 := HAG.out mr p2 q2 hmo.z h2
        have hrd := own_rd hmo.o
        have hml := hmo.l
        rw [hmn] at hrd hml ⊢
        have HR := hide (HR2.out wr ma mn mc mr p2 q2 (H8.out.grow hg) hrd (by have := HM.out; omega) hmo.i h2 hf2)
        generalize (clL L' q2).length = na at *
        generalize (ces cs L' p2 q2).length = nb at *
        have HGG := hide hg
        clear hmo hmn hrd hml h2 hf2 hk hg
        go_wp2_with fail
        refine HR.out.mono ?_
        rintro e w10 ⟨z1, u1, z2, u2, z3, u3, rfl, o1, o2, o3, c10⟩
        have HB := hide (Rr.boxed c10 o1 o2 o3)
        have hcc := c10.alloc (.cells [.slice z1 na u1, .slice z2 nb u2, .slice z3 0 u3].toArray 35)
        have HG9 := hide (HGG.out.trans hcc)
        have r2 := HB.out.k2
        have r0 := (HA8.out.grow HG9.out).k0
        have HIL := hide HA8.out.o1.i
        have HR3a := hide (HR3.out _ x1 y1 (H8.out.grow HG9.out) (HA8.out.grow HG9.out).o1.rd HIL.out)
        have hfd : ∀ (x4 : Option Addr) (m4 y4 : Nat) (x5 : Option Addr) (m5 y5 : Nat) (x6 : Option Addr) (m6 y6 : Nat) (W : World), (Instr.field 35 (.agg #[.slice x4 m4 y4, .slice x5 m5 y5, .slice x6 m6 y6]) 1).run Try.prog W = .ok (.slice x5 m5 y5) W := fun _ _ _ _ _ _ _ _ _ W => by kernel_rfl
        clear o1 o2 o3 c10 hcc HR
        go_wp2_with fail
        generalize w10.alloc (.cells #[.slice z1 na u1, .slice z2 nb u2, .slice z3 0 u3] 35) = wb at *
        generalize w10.heap.size = tb at *
        refine HR3a.out.mono ?_
        rintro e w11 ⟨z4, u4, z5, u5, z6, u6, rfl, -, -, -, c11⟩
        have HG11 := hide (HG9.out.trans c11)
        replace r0 := Grow.cell c11 r0
        have HR4 := hide (HR3.out _ x1 y1 (H8.out.grow HG11.out) (HA8.out.grow HG11.out).o1.rd HIL.out)
        clear c11 HR3a HG9 r2
        go_wp2_with fail
        refine HR4.out.mono ?_
        rintro e w12 ⟨z7, u7, z8, u8, z9, u9, rfl, o1, o2, o3, c12⟩
        have HG12 := hide (HG11.out.trans c12)
        have hsz : ∀ k, S k → k < w11.heap.size := fun k hk => Nat.lt_of_lt_of_le (HSB.out k hk) (Nat.le_trans HG5.out.size (Nat.le_trans (show wa.heap.size ≤ w8.heap.size from HSZ.out) HG11.out.size))
        have HAP2 := hide (apply_any (H8.out.grow HG12.out) (by have := HL40.out.2; omega) (o1.rl hsz) (o2.rl hsz) (o3.rl hsz) (by have := HM4.out; omega) o2.m o3.m)
        clear o1 o2 o3 c12 hsz HR4 HG11 r0 hfd
        go_wp2_with fail
        refine HAP2.out.mono ?_
        rintro e w13 ⟨rfl, c13, -⟩
        rw [HN3.out]
        have HE := hide (HST.out.old2 ((HO8.out.trans HG12.out)) c13)
        clear c13 HAP2
        go_wp2
        go_ret
        exact ⟨by simp, HE.out.below (fun _ _ h => h) (Nat.le_refl _)⟩
      · have q1 : decide ((k : Int) < m1) = true := decide_eq_true (by omega)
        have q2 : k < m1 := hlt
        have hw : IntKind.i64.wrap ((k : Int) + 1) = ((k + 1 : Nat) : Int) := (IntWalk.i64_in _ (by have := HM.out; omega)).trans (by omega)
        obtain ⟨g, rfl, k0, hi, hm⟩ := (HA8.out.grow hg).o1.at_ hlt
        have r0 := (HA8.out.grow hg).k0
        have k2 := (HB8.out.chg hg id).cell 0
        obtain ⟨x, hx, kk, hik, hk64⟩ := HND.out _ hm
        have HNO := hide (node_yes (H8.out.grow hg) hi hx)
        have HAI := hide (fun (W : World) (gg : Grow wr W) => aim_gs ((H8.out.grow hg).grow gg) hi)
        have HXI := hide ((nd_some hx).2)
        have HKE := hide (fun (W : World) => kept_any B hBB kk hk64 W)
        have HTI := hide (aim_in (fun x hx => H8.out.ok hx) (l1.getD k 0))
        generalize l1.getD k 0 = i at *
        subst hik
        obtain ⟨t, ht⟩ : ∃ t, aimX cs L' (kk : Int) = t := ⟨_, rfl⟩
        rw [ht] at HAI HTI
        obtain ⟨t1, t2⟩ := t
        have HLT := hide hlt
        have HMO := hide hmo
        have HGG := hide hg
        clear hx hm hi hk64 ht hlt hmo hg hk
        go_wp2_with fail
        refine HNO.out.mono ?_
        rintro e w10 ⟨ar, cr, ad, cd, rfl, -, g10⟩
        unfold L9.ndV
        rw [HXI.out]
        have hcc := g10.alloc (.cells [.int .i64 kk, .int .i64 x.c, .slice ar x.refs.length cr, .slice ad x.data.length cd, .bool x.fin].toArray 38)
        have hnb := Blk.new w10 38 [.int .i64 kk, .int .i64 x.c, .slice ar x.refs.length cr, .slice ad x.data.length cd, .bool x.fin]
        replace k0 := Grow.cell hcc k0
        replace r0 := Grow.cell hcc r0
        replace k2 := Grow.cell hcc k2
        have HA10 := hide (HAI.out _ hcc)
        have HC10 := hide hcc
        have HNB := hide hnb
        clear hcc g10 HNO HAI hnb
        go_wp2_with fail
        generalize w10.alloc (.cells #[.int .i64 kk, .int .i64 x.c, .slice ar x.refs.length cr, .slice ad x.data.length cd, .bool x.fin] 38) = wn at *
        generalize w10.heap.size = nb at *
        refine HA10.out.mono ?_
        rintro e w11 ⟨rfl, g11⟩
        dsimp only
        have n0 := (HNB.out.chg g11 id).cell 0
        replace k2 := Grow.cell g11 k2
        have HC11 := hide (HC10.out.trans g11)
        clear g11 HA10 HC10 HNB r0 k0 q1 q2
        by_cases h3 : t2 = 3
        · have q3 : (t2 == 3) = true := by simpa using h3
          clear h3
          by_cases h0 : t1 = 0
          · have q4 : (t1 != 0) = false := by simp [h0]
            clear h0
            have HN2 := hide ((HMO.out.grow HC11.out).more)
            have HG2 := hide (HGG.out.trans HC11.out)
            (clear HC11)
            go_wp2
            go_roundw
            case rel => exact ⟨k + 1, mr, HLT.out, rfl, HN2.out, HG2.out⟩
            case measure => have := HLT.out; simp [Go.RowKit.intOf]; omega
          · have q4 : (t1 != 0) = true := by simp [h0]
            clear h0
            cases hkb : kB B kk with
            | false =>
              rw [hkb] at HKE
              clear hkb
              go_wp2_with fail
              refine (HKE.out _).mono ?_
              rintro e w' ⟨rfl, rfl⟩
              have HN2 := hide ((HMO.out.grow HC11.out).more)
              have HG2 := hide (HGG.out.trans HC11.out)
              (clear HC11)
              go_wp2
              go_roundw
              case rel => exact ⟨k + 1, mr, HLT.out, rfl, HN2.out, HG2.out⟩
              case measure => have := HLT.out; simp [Go.RowKit.intOf]; omega
            | true =>
              rw [hkb] at HKE
              clear hkb
              have gB := Grow.box w11 (.cells [.int .i64 t1].toArray 3)
              obtain ⟨v3, W3, hr3, ho3, cg3, -⟩ := app_more (c0 := 1) ((HGG.out.trans HC11.out).trans gB) ((HMO.out.grow HC11.out).o.grow gB) (L1.Rd.of_blk (Blk.new w11 3 [.int .i64 t1]) rfl : L1.Rd _ _ 1 [t1]) (by have := HMO.out.l; have := HM.out; have := HLT.out; omega)
              have HN2 := hide (⟨ho3, fun i hi => List.mem_append_left _ (HMO.out.z i hi), fun i hi => by
                rcases List.mem_append.1 hi with hi | hi
                · exact HMO.out.i i hi
                · rw [List.mem_singleton.1 hi]; exact HTI.out, by have := HMO.out.l; rw [List.length_append]; simp; omega⟩ : Mo W3 w8.heap.size v3 zs (mr ++ [t1]) (k + 1))
              have KA := hide hr3
              have HG2 := hide cg3
              clear gB hr3 ho3 cg3 HC11
              go_wp2_with (first | (at_builtin; refine wpList_app rfl _ _ 27 rfl u12 (.slice (some ⟨w11.heap.size, 0, none⟩) 1 1) v3 _ W3 rfl rfl KA.out ?_) | (go_at_call 13; refine (HKE.out _).mono ?_; rintro e w' ⟨rfl, rfl⟩))
              go_roundw
              case rel => exact ⟨k + 1, _, HLT.out, rfl, HN2.out, HG2.out⟩
              case measure => have := HLT.out; simp [Go.RowKit.intOf]; omega
        · have q3 : (t2 == 3) = false := by simpa using h3
          clear h3
          have HN2 := hide ((HMO.out.grow HC11.out).more)
          have HG2 := hide (HGG.out.trans HC11.out)
          (clear HC11)
          go_wp2
          go_roundw
          case rel => exact ⟨k + 1, mr, HLT.out, rfl, HN2.out, HG2.out⟩
          case measure => have := HLT.out; simp [Go.RowKit.intOf]; omega
theorem walk (u : Wo) (cs : List Cl) (ns : List Int) (ts : List Tr) (a1 : Option Addr) (len1 cap1 : Nat) (zs : List Int) (b : Int) (w : World) (h0 : IsWo w u cs ns ts) (h1 : IsRow .i64 w a1 len1 cap1 zs) (h2 : (Lit.int .u64 b).wf = true) :
    Calls Try.prog 5 #[Wo.v u, .slice a1 len1 cap1, .int .u64 b] w fun e w' => e = .returned (.bool true) ∧ Below w.heap.size w w' := by
  obtain ⟨B, rfl, hB⟩ := nat_u64 h2
  by_cases hg : good u cs
  · by_cases hl : 40 < len1
    · exact walk_no h0 h1 (.inr ⟨hg, hl⟩)
    · exact walk_main h0 h1 hg (by omega) hB
  · exact walk_no h0 h1 (.inl hg)
end
theorem own : ownKnob Try.prog.godebug = none := by kernel_rfl
theorem laidOut : laidOutB Try.prog = true := by kernel_rfl

set_option maxRecDepth 100000 in
theorem lifted (os : Os) (started : os.Started) (H : Type) (enc : TypeId × Value → H) :
    ReturnsInHanded {} Try.checked os 5 .any (Rows.processAgainSpec.pre6 enc Try.prog Try.f5 Rows.processAgainRow.domain false) (Rows.processAgainSpec.post enc Try.prog Try.f5 false true false false) := by
  refine returnsInHanded_of_change (C := Try.checked) own started (by kernel_rfl) Try.func5
    (ChangeSpec.witness6 (enc := enc) (C := Try.checked) false ⟨#[], #[.agg #[.slice none 0 0, .slice none 0 0, .slice none 0 0], .slice none 0 0, .int .u64 0], []⟩ 8 (by kernel_rfl) (by kernel_rfl) (by kernel_rfl) (by kernel_rfl)) ?_
  intro W base args ds gs before hval0 hW hcnd _
  have hval : ∀ (j : Nat) t v, Try.f5.params[j]? = some t → args[j]? = some v → Value.okWide Try.prog W .any base t v := hval0
  have hW' := hW
  obtain ⟨p, q, hA0, hV, rfl, hfz, hnd⟩ := hW
  have hA : DataW.TrodAll enc Try.prog W 0 (fun _ => true) true Try.f5.params.toList args.toList ds p := hA0
  rw [Try.params5] at hA hval
  obtain ⟨v0, vs0, d0, ds0, p0, q0, hargs, rfl, rfl, h0, r0⟩ := trodAll_cons hA
  obtain ⟨v1, vs1, d1, ds1, p1, q1, rfl, rfl, rfl, h1, r1⟩ := trodAll_cons r0
  obtain ⟨v2, vs2, d2, ds2, p2, q2, rfl, rfl, rfl, h2, r2⟩ := trodAll_cons r1
  obtain ⟨rfl, rfl, rfl⟩ := trodAll_nil r2
  obtain rfl : args = #[v0, v1, v2] := by cases args; simp_all
  obtain ⟨rfl, rfl⟩ := trodVars_none hV
  have k0 := h0
  have lt0 : ∀ x ∈ p0, x.block < W.heap.size := by obtain ⟨m, hm⟩ := k0; exact DataW.trod_lt m _ _ _ hm
  obtain ⟨u0, cs0, ns0, ts0, rfl, w0⟩ := open_world (hval 0 26 v0 rfl rfl) h0
  obtain ⟨a1, len1, cap1, rfl⟩ := okWide_slice Try.underlying27 (hval 1 27 v1 rfl rfl)
  have k1 := h1
  have lt1 : ∀ x ∈ p1, x.block < W.heap.size := by obtain ⟨m, hm⟩ := k1; exact DataW.trod_lt m _ _ _ hm
  obtain ⟨z1, w1⟩ : ∃ zs, IsRow .i64 W a1 len1 cap1 zs := open_row Try.underlying27 Try.underlying3 (by kernel_rfl) h1
  obtain ⟨a2, rfl, rfl, rfl, w2⟩ := open_int Try.underlying28 (hval 2 28 v2 rfl rfl) h2
  clear hA0 hval0
  refine (walk u0 cs0 ns0 ts0 a1 len1 cap1 z1 a2 W w0 w1 w2).mono fun e W' ⟨he, bel⟩ => ?_
  subst he
  exact ⟨_, rfl, _, _, _, [], _, [], hW', trodAll_mk1 (shut_bool Try.underlying4 _), (trodAll_cons_mk (Below.trod laidOut (by kernel_rfl) (of_decide_eq_true (by kernel_rfl)) k0 bel lt0) (trodAll_cons_mk (Below.trod laidOut (by kernel_rfl) (of_decide_eq_true (by kernel_rfl)) k1 bel lt1) (trodAll_cons_mk (shut_int Try.underlying28 w2) trodAll_mk0))), rfl, bel.frame _, fun h => by cases h⟩

theorem over : Rows.processAgainRow.holds Try.pinned (OpenSpec.ofChange Rows.processAgainSpec) :=
  OpenClaim.holds_of_wide 5 Try.f5 rfl rfl rfl rfl rfl rfl rfl ⟨rfl, rfl, rfl, rfl, rfl⟩ rfl rfl rfl rfl rfl (by kernel_rfl) Try.func5 (by kernel_rfl)
    (of_decide_eq_true (by kernel_rfl)) (by unfold Func.isWrapper; first | (rw [if_pos (by decide +kernel)]; kernel_rfl) | (rw [if_neg (by decide +kernel)]; exact ⟨rfl, rfl⟩))
    (fun os started H enc _ => lifted os started H enc)

/-- The statement. -/
theorem proved : Rows.ProcessAgainSaid := over
#print axioms proved
end Go.Proofs.Ytnhhlonnbeaooaa.processAgain


/- For all worlds, roots and bits ProcessCloses answers true: behind Apply no live reference goes to what is gone; what is cleared is cleared once, and aims at nothing then; all other references are as they were. Conditions: none. -/
import Derived.Test.YtnhhlonnbeaooaaL13W
namespace Go.Proofs.Ytnhhlonnbeaooaa.processCloses
open Go.ChangeShapes Go.WideShapes Go.ChangeAt Go.RowKit Go.Proofs.Ytnhhlonnbeaooaa.L10 Go.Proofs.Ytnhhlonnbeaooaa.L13
open Go.Proofs.Ytnhhlonnbeaooaa.L9 (Nd nd GS RG Rf Lok In64 Srt nd_some nd_none nd_mem own_rd own_cast ptr newX_rt hasB hldX aimX wpList_app aim_gs node_yes kpL kpN)
open Go.Proofs.Ytnhhlonnbeaooaa.graphKeeps (Clo nd_ne)
open Go.Proofs.Ytnhhlonnbeaooaa.L5 (Cl clAt isRf IsCls newX)
set_option linter.unusedVariables false
section
variable {w : World} {u : Wo} {cs : List Cl} {ns : List Int} {ts : List Tr} {a1 : Option Addr} {len1 cap1 : Nat} {zs : List Int} {B : Nat}
theorem nat_u64 {x : Int} (h : (Lit.int .u64 x).wf = true) : ∃ B : Nat, x = B ∧ B < 18446744073709551616 := by
  simp [Lit.wf, IntKind.min, IntKind.max, IntKind.signed, IntKind.bits] at h
  exact ⟨x.toNat, by omega, by omega⟩
/-- What comes behind the k-th is another. -/
theorem drop_no {l : List Int} (h : l.Nodup) {k : Nat} (hk : k < l.length) : hasB (l.drop (k + 1)) (l.getD k 0) = false := by
  cases hb : hasB (l.drop (k + 1)) (l.getD k 0) with
  | false => rfl
  | true =>
    exfalso
    have hm := hasB_iff.1 hb
    have h1 : (l.drop k).Nodup := h.sublist (List.drop_sublist k l)
    rw [List.drop_eq_getElem_cons hk] at h1
    rw [List.getD_eq_getElem?_getD, List.getElem?_eq_getElem hk] at hm
    exact (List.nodup_cons.1 h1).1 hm
theorem row_drop {W : World} {b g n c m : Nat} {xs : List Int} (h : Nl W b (some ⟨g, 0, none⟩) n c xs) (hm : m ≤ n) (hn : 0 < n) : IsRow .i64 W (some ⟨g, m, none⟩) (n - m) (c - m) (xs.drop m) := by
  have hl := h.l
  obtain ⟨g', cap, e, -, -, h1, h2⟩ := own_form h.o (by omega)
  injection e with e1 e2 e3
  subst e3
  rw [hl] at h1
  refine ⟨by rw [List.length_drop, hl], by omega, by omega, fun h0 => ⟨_, rfl, fun i hi => ?_⟩, fun i hi => h.i i (List.mem_of_mem_drop hi)⟩
  obtain ⟨g2, e2, hc, -⟩ := h.at_ (k := m + i) (by omega)
  injection e2 with e2
  injection e2 with e2
  subst e2
  rw [addr_add, hc]
  congr 2
  simp [List.getD_eq_getElem?_getD]
theorem row_none {W : World} {a : Option Addr} : IsRow .i64 W a 0 0 [] := ⟨rfl, Nat.le_refl _, by simp [maxLen], fun h => absurd h (by omega), fun i hi => by cases hi⟩
set_option maxRecDepth 100000 in
set_option maxHeartbeats 2000000 in
theorem walk_no (h0 : IsWo w u cs ns ts) (h1 : IsRow .i64 w a1 len1 cap1 zs) (hg : ¬ good u cs ∨ (good u cs ∧ 40 < len1)) :
    Calls Try.prog 4 #[Wo.v u, .slice a1 len1 cap1, .int .u64 B] w fun e w' => e = .returned (.bool true) ∧ Below w.heap.size w w' := by
  rcases hg with hg | hg
  · skip
    obtain ⟨ca, cl, cc, na, nl, nc, ra, rl, rc⟩ := u
    obtain ⟨hbx, hb2, gB, -, -, -⟩ := boxes2 w 26 [.slice ca cl cc, .slice na nl nc, .slice ra rl rc] 28 [.int .u64 (B : Int)]
    have HB2 := hide hb2
    clear hb2
    have HWO := hide (h0.chg gB fun _ _ => id)
    have HRW := hide h1
    have HBX := hide hbx
    clear h0 h1 hbx
    have HM := hide (made_no HWO.out hg)
    clear hg HWO HRW HBX
    go_enter Try.func4, Try.ntmps4
    go_wp2_with fail
    refine HM.out.mono ?_
    rintro e w3 ⟨rfl, c3⟩
    have HG := hide (gB.trans c3)
    clear gB c3 HM
    go_wp2_with fail
    refine (awake_any _).mono ?_
    rintro e w4 ⟨rfl, c4⟩
    have HG4 := hide (HG.out.trans c4)
    clear c4
    go_wp2_with fail
    refine (awake_any _).mono ?_
    rintro e w5 ⟨rfl, c5⟩
    have HG5 := hide (HG4.out.trans c5)
    clear c5
    go_wp2
    go_ret
    exact ⟨rfl, HG5.out.below (fun _ _ h => h) (Nat.le_refl _)⟩
  · obtain ⟨hg, hlen⟩ := hg
    obtain ⟨ca, cl, cc, na, nl, nc, ra, rl, rc⟩ := u
    obtain ⟨hbx, hb2, gB, -, -, -⟩ := boxes2 w 26 [.slice ca cl cc, .slice na nl nc, .slice ra rl rc] 28 [.int .u64 (B : Int)]
    have HB2 := hide hb2
    clear hb2
    have HWO := hide (h0.chg gB fun _ _ => id)
    have HRW := hide h1
    have HBX := hide hbx
    clear h0 h1 hbx
    have HM := hide (made_yes HWO.out hg)
    have q1 : decide ((len1 : Int) > 40) = true := by simp; omega
    clear hg HWO HRW HBX hlen
    go_enter Try.func4, Try.ntmps4
    go_wp2_with fail
    refine HM.out.mono ?_
    rintro e w3 ⟨z, p, q, L, rfl, -, -, -, -, -, c3⟩
    have HG := hide (gB.trans c3)
    clear gB c3 HM
    go_wp2_with fail
    refine (awake_any _).mono ?_
    rintro e w4 ⟨rfl, c4⟩
    have HG4 := hide (HG.out.trans c4)
    clear c4
    go_wp2_with fail
    refine (awake_any _).mono ?_
    rintro e w5 ⟨rfl, c5⟩
    have HG5 := hide (HG4.out.trans c5)
    clear c5
    go_wp2
    go_ret
    exact ⟨rfl, HG5.out.below (fun _ _ h => h) (Nat.le_refl _)⟩
set_option maxRecDepth 100000 in
set_option maxHeartbeats 8000000 in
theorem walk_main (h0 : IsWo w u cs ns ts) (h1 : IsRow .i64 w a1 len1 cap1 zs) (hg : good u cs) (hle : len1 ≤ 40) (hBB : B < 18446744073709551616) :
    Calls Try.prog 4 #[Wo.v u, .slice a1 len1 cap1, .int .u64 B] w fun e w' => e = .returned (.bool true) ∧ Below w.heap.size w w' := by
  obtain ⟨ca, cl, cc, na, nl, nc, ra, rl, rc⟩ := u
  obtain ⟨hbx, hb2, gB, -, -, -⟩ := boxes2 w 26 [.slice ca cl cc, .slice na nl nc, .slice ra rl rc] 28 [.int .u64 (B : Int)]
  have HB2 := hide hb2
  clear hb2
  have HWO := hide (h0.chg gB fun _ _ => id)
  have HRW := hide h1
  have HBX := hide hbx
  clear h0 h1 hbx
  have HM := hide (made_yes HWO.out hg)
  have q1 : decide ((len1 : Int) > 40) = false := by simp; omega
  have HGD := hide (show nl ≤ 40 ∧ newX cs = 0 ∧ cl ≤ 63 from ⟨hg.1.1, hg.2.2, hg.2.1.2⟩)
  have HLE := hide hle
  clear hg hle
  go_enter Try.func4, Try.ntmps4
  go_wp2_with fail
  refine HM.out.mono ?_
  rintro e w3 ⟨z, p, q, L, rfl, hbo, hids, hrv, hfv, hzz, c3⟩
  obtain ⟨S, T, hgs, hrg, hap⟩ := hbo
  obtain ⟨b, hb⟩ : ∃ b, w.heap.size = b := ⟨_, rfl⟩
  have hst : St w w3 b z p q S T ca cl cc na nl nc ra rl rc cs L a1 len1 cap1 zs := ⟨gB.trans c3, hgs, ⟨hrg, HWO.out.c.chg c3 fun _ _ => id, hgs.lok, (newX_rt HGD.out.2.1).1, by have := congrArg List.length hids; rw [List.length_map, nms_len] at this; have := HGD.out.1; omega, by have := HGD.out.2.2; omega⟩, hap, HRW.out.chg (gB.trans c3) fun _ _ => id, by rw [← hb]; exact HBX.out.chg c3 id, hids, HGD.out.1, hrv, hfv, Nat.le_trans gB.size hzz, by rw [← hb]; exact Nat.lt_of_lt_of_le HBX.out.lt hzz, HRW.out, HLE.out⟩
  rw [hb]
  have HGB := hide gB
  clear gB HM hids hrv hfv hgs hrg hap HWO HRW HBX HGD HLE
  go_wp2_with fail
  refine (awake_any _).mono ?_
  rintro e w4 ⟨rfl, c4⟩
  have HST := hide (hst.grow c4)
  have HZ2 := hide (Nat.lt_of_lt_of_le HB2.out.lt hzz)
  have HB2 := hide ((HB2.out.chg c3 id).chg c4 id)
  rw [hb] at HB2 HZ2
  clear c3 c4 hst hb HGB hzz
  have hmf : ∀ (fn : Fn) (first cap : Array Value) (w : World), (Instr.makeFunc fn first cap).run Try.prog w = .ok (.func fn first cap) w := fun _ _ _ _ => rfl
  obtain ⟨p1, q1', hR⟩ := ex_rs cs L (kB B) zs
  have hl40 := HST.out.l40
  have hz := HST.out.z40
  have hlok := HST.out.lok
  have hclo := HST.out.clo
  have hs := hlok.1
  have HK1 := hide (keeps_closes (L := L) HB2.out hBB HST.out.small)
  obtain ⟨l1, e1⟩ : ∃ l, clL L q1' = l := ⟨_, rfl⟩
  obtain ⟨l2, e2⟩ : ∃ l, ces cs L p1 q1' = l := ⟨_, rfl⟩
  obtain ⟨l3, e3⟩ : ∃ l, clL L (fi L p1) = l := ⟨_, rfl⟩
  obtain ⟨m1, f1⟩ : ∃ n, l1.length = n := ⟨_, rfl⟩
  obtain ⟨m2, f2⟩ : ∃ n, l2.length = n := ⟨_, rfl⟩
  obtain ⟨m3, f3⟩ : ∃ n, l3.length = n := ⟨_, rfl⟩
  have HRU := hide (run_l (cc := cap1) (enters_of Try.func20 (by kernel_rfl) rfl) HK1.out HST.out.gs hl40 HST.out.rd (by omega) HST.out.i64 hR e1 e2 e3 f1 f2 f3)
  have HM := hide (show m1 ≤ 40 ∧ m2 ≤ 120 ∧ m3 ≤ 40 from by
    rw [← f1, ← f2, ← f3, ← e1, ← e2, ← e3]
    have h1 := clL_le L q1'
    have h2 := ces_len cs L p1 q1'
    have h3 := clL_le L (fi L p1)
    omega)
  have HND := hide (show l2.Nodup from by rw [← e2]; exact ces_nodup hs)
  have HC1 := hide (show ∀ i ∈ l2, hasB l1 i = true from fun i hi => by
    rw [← e2] at hi
    rw [← e1, has_cl hs fun i hi => hR.n2 hi]
    exact (hR.c_los hs ((hR.ces_mem hs).1 hi)).1)
  obtain ⟨L', hL'⟩ : ∃ L', apL cs L l1 l2 l3 = L' := ⟨_, rfl⟩
  have hL2 : gAp cs L p1 q1' = L' := by rw [← hL', ← e1, ← e2, ← e3]
  obtain ⟨N0, hN0⟩ : ∃ n, apN cs L l1 l2 l3 = n := ⟨_, rfl⟩
  have hap := hR.ap_n hlok hclo
  rw [e1, e2, e3, f1, hN0, HST.out.len] at hap
  have hids : L'.map Nd.id = l1 := by rw [← hL2, hR.ap_ids hlok hclo, e1]
  have hl2 : L'.length ≤ 40 := by
    have h2 := congrArg List.length hids
    rw [List.length_map] at h2
    have := HM.out
    omega
  have HNA := hide hN0
  have HAP0 := hide hap
  have HID := hide (And.intro hids hl2)
  have HF := hide (show ∀ i ∈ l1, ∃ (x : Nd) (j : Nat) (rs : List Int) (cb fb : Bool), x.id = i ∧ L[j]? = some x ∧ j < L.length ∧ hasB l2 i = cb ∧ hasB l3 i = fb ∧ rs.length = x.refs.length ∧ (∀ k, k < x.refs.length → rs.getD k 0 = if k = 0 ∧ cb = true then 0 else x.refs.getD k 0) ∧ nd L' i = some ⟨x.id, x.c, rs, x.data, x.fin && !fb⟩ from fun i hi => by
    rw [← e1] at hi
    obtain ⟨h1, h2⟩ := (clL_iff hs).1 hi
    obtain ⟨x, hx⟩ := Option.ne_none_iff_exists'.1 h1
    obtain ⟨hxm, hxi⟩ := nd_some hx
    obtain ⟨j, hj, hjl⟩ := L9.nd_at hx
    refine ⟨x, j, (aft cs L p1 q1' x).refs, cB cs L p1 q1' i, fi L p1 i, hxi, hj, hjl, by rw [← e2, hR.has_ces hs], by rw [← e3, has_cl hs fun i hi => fi_nd hi], ?_, fun k hk => ?_, ?_⟩
    · show (bif cB cs L p1 q1' x.id then x.refs.set 0 0 else x.refs).length = _
      cases cB cs L p1 q1' x.id <;> simp
    · show (bif cB cs L p1 q1' x.id then x.refs.set 0 0 else x.refs).getD k 0 = _
      rw [hxi]
      cases cB cs L p1 q1' i with
      | false => simp
      | true =>
        simp only [cond_true, and_true, List.getD_eq_getElem?_getD]
        by_cases h0 : k = 0
        · subst h0
          simp [hk]
        · rw [if_neg h0, List.getElem?_set_ne (fun e => h0 e.symm)]
    · rw [← hL2, hR.ap_nd hlok hclo, if_pos h2, hx]
      show some (aft cs L p1 q1' x) = _
      unfold aft
      rw [hxi])
  have HL40 := hide (And.intro hl40 hs)
  have HLP := hide hL'
  have HSB := hide HST.out.sb
  have HAP := hide HST.out.gs
  have HPG := hide HST.out.pg.r
  have HBW := hide (HST.out.box)
  have HNL := hide HST.out.n40
  clear hR hl40 hz hlok hclo hs HK1 e1 e2 e3 f1 f2 f3 hL' hL2 hN0 hap hids hl2
  go_wp2_with fail
  refine HRU.out.mono ?_
  rintro e w5 ⟨x1, y1, x2, y2, x3, y3, rfl, o1, o2, o3, c5⟩
  have HA := hide (Rr.boxed c5 o1 o2 o3)
  have hcc := c5.alloc (.cells [.slice x1 m1 y1, .slice x2 m2 y2, .slice x3 m3 y3].toArray 35)
  have HG5 := hide hcc
  have r1 := HA.out.k1
  clear o1 o2 o3 c5 hcc HRU hmf
  go_wp2_with fail
  clear r1
  generalize w5.alloc (.cells #[.slice x1 m1 y1, .slice x2 m2 y2, .slice x3 m3 y3] 35) = wa at *
  generalize w5.heap.size = ta at *
  go_loopw [44] (fun v wr => ∃ k : Nat, k ≤ m2 ∧ v = .int .i64 k ∧ Grow wa wr) (fun v _ => m2 - (Go.RowKit.intOf v).toNat)
  case atStart => exact ⟨0, Nat.zero_le _, rfl, Chg.refl _ _⟩
  case round =>
    obtain ⟨k, hk, rfl, hg⟩ := hrel
    rcases Nat.eq_or_lt_of_le hk with hke | hlt
    · have hke2 := hke.symm
      subst hke2
      clear hke
      have q1 : decide ((m2 : Int) < m2) = false := by simp
      have hA := HA.out.grow hg
      have r0 := hA.k0
      have r1 := hA.k1
      have r2 := hA.k2
      have bw := (HBW.out.chg (HG5.out.trans hg) id).cell 1
      have HK1 := hide (fun (W : World) (c : Chg S wr.drew W) => (⟨c.cell (show wr.drew.cell? ⟨ta, 0, none⟩ = some (.slice x1 m1 y1) from r0) (fun hs => by have h1 : S ta := hs; have := HSB.out _ h1; have := HA.out.bt; omega), c.cell (show wr.drew.cell? ⟨ta, 1, none⟩ = some (.slice x2 m2 y2) from r1) (fun hs => by have h1 : S ta := hs; have := HSB.out _ h1; have := HA.out.bt; omega), c.cell (show wr.drew.cell? ⟨ta, 2, none⟩ = some (.slice x3 m3 y3) from r2) (fun hs => by have h1 : S ta := hs; have := HSB.out _ h1; have := HA.out.bt; omega), c.cell (show wr.drew.cell? ⟨b, 1, none⟩ = some (.slice na nl nc) from bw) (fun hs => by have h1 : S b := hs; have := (HAP.out.s h1).1; have := HST.out.zb; omega)⟩ : W.cell? ⟨ta, 0, none⟩ = some (.slice x1 m1 y1) ∧ W.cell? ⟨ta, 1, none⟩ = some (.slice x2 m2 y2) ∧ W.cell? ⟨ta, 2, none⟩ = some (.slice x3 m3 y3) ∧ W.cell? ⟨b, 1, none⟩ = some (.slice na nl nc)))
      have HAPP := hide (apply_l ((HAP.out.grow (HG5.out.trans hg)).grow ((Chg.refl (fun _ => False) wr).drew)) HL40.out.1 (hA.grow ((Chg.refl (fun _ => False) wr).drew)) (fun k hk => HSB.out k hk) (by have := HM.out; omega))
      rw [HLP.out, HNA.out] at HAPP
      have HIDS := hide (fun (W : World) (hg : GS W z S p cs L') => L9.ids_gs hg (by have := HID.out.2; omega))
      rw [HID.out.1] at HIDS
      have hll : L'.length = m1 := by have h1 := congrArg List.length HID.out.1; rw [List.length_map] at h1; rw [h1, HA.out.o1.l]
      rw [hll] at HIDS
      have HRD := hide (fun (W : World) (c : Chg S wr.drew W) => ((hA.grow ((Chg.refl (fun _ => False) wr).drew)).chg c HSB.out).o1.rd)
      have hsub : IntKind.i64.wrap ((nl : Int) - m1) = (N0 : Int) := (IntWalk.i64_in _ (by have := HAP0.out; have := HNL.out; omega)).trans (by have := HAP0.out; omega)
      have qn : ((N0 : Int) != N0) = false := bne_self_eq_false _
      have HGG := hide hg
      clear hA hg hk hll
      go_wp2_with fail
      go_region_held3 (fun W => W.cell? ⟨ta, 0, none⟩ = some (.slice x1 m1 y1) ∧ W.cell? ⟨ta, 1, none⟩ = some (.slice x2 m2 y2) ∧ W.cell? ⟨ta, 2, none⟩ = some (.slice x3 m3 y3) ∧ W.cell? ⟨b, 1, none⟩ = some (.slice na nl nc)) (first | exact HK1.out _ c8 | exact HK1.out _ (c8.trans (c9.mono fun _ _ h => h.elim)) | exact HK1.out _ ((c8.trans (c9.mono fun _ _ h => h.elim)).trans (c10.mono fun _ _ h => h.elim)) | go_keep) (first | (go_at_call 21; refine HAPP.out.mono ?_; rintro e w8 ⟨rfl, c8, h8⟩) | (go_at_call 23; refine (HIDS.out _ h8).mono ?_; rintro e w9 ⟨ia, ic, rfl, ho9, c9⟩) | (go_at_call 22; refine (L1.same_yes _ _ m1 _ _ l1 _ (own_rd ho9) (HRD.out _ (c8.trans (c9.mono fun _ _ h => h.elim))) (by have := HM.out; omega)).mono ?_; rintro e w10 ⟨rfl, c10⟩))
      have gD : Grow wr wr.drew := (Chg.refl (fun _ => False) wr).drew
      have HAc := hide ((((HA.out.grow (HGG.out.trans gD)).chg c8 HSB.out).grow c9).grow c10)
      have H10 := hide ((h8.grow c9).grow c10)
      have hrg : RG w10 z T q (.slice ca cl cc) L := (((HPG.out.grow ((HG5.out.trans HGG.out).trans gD)).chg c8 fun k hk hs => HST.out.ap k hs hk).grow c9).grow c10
      have HO10 := hide (((HST.out.old ((HG5.out.trans HGG.out).trans gD) c8).trans c9).trans c10)
      have r0 := HAc.out.k0
      obtain ⟨vN, rr, dd, ow, hrf⟩ := hrg
      obtain ⟨va, vc, hv⟩ := hrf.val
      subst hv
      have HRF := hide hrf
      obtain ⟨N, hN⟩ : ∃ N, L.length = N := ⟨_, rfl⟩
      have HN := hide hN
      clear hrf hN gD c8 h8 ho9 c9 c10 HK1 HAPP HIDS HRD hsub qn HGG r1 r2 bw
      go_wp2_with fail
      clear r0
      go_loopw [92] (fun v wr => ∃ k : Nat, k ≤ m1 ∧ v = .int .i64 k ∧ Grow w10 wr) (fun v _ => m1 - (Go.RowKit.intOf v).toNat)
      case atStart => exact ⟨0, Nat.zero_le _, rfl, Chg.refl _ _⟩
      case round =>
        obtain ⟨k, hk, rfl, hg⟩ := hrel
        rcases Nat.eq_or_lt_of_le hk with hke | hlt
        · have hke2 := hke.symm
          subst hke2
          clear hke
          have q1 : decide ((m1 : Int) < m1) = false := by simp
          have HE := hide (HO10.out.trans hg)
          clear hg hk
          go_wp2
          go_ret
          exact ⟨rfl, HE.out.below (fun _ _ h => h) (Nat.le_refl _)⟩
        · have q1 : decide ((k : Int) < m1) = true := decide_eq_true (by omega)
          have q2 : k < m1 := hlt
          have hw : IntKind.i64.wrap ((k : Int) + 1) = ((k + 1 : Nat) : Int) := (IntWalk.i64_in _ (by have := HM.out; omega)).trans (by omega)
          have hA := HAc.out.grow hg
          have r0 := hA.k0
          obtain ⟨g, rfl, k0, hi, hm⟩ := hA.o1.at_ hlt
          obtain ⟨x, j, rs, cb, fb, hxi, hj, hjl, hcb, hfb, hrl, hrs, hnd⟩ := HF.out _ hm
          have HNO := hide (node_yes (H10.out.grow hg) hi hnd)
          have HX2 := hide (fun (W : World) (gg : Grow wr W) => (hA.grow gg).o2.has (l1.getD k 0))
          have HX3 := hide (fun (W : World) (gg : Grow wr W) => (hA.grow gg).o3.has (l1.getD k 0))
          rw [hcb] at HX2
          rw [hfb] at HX3
          have hrf := HRF.out.chg hg fun _ _ => id
          have HAT := hide (fun (W : World) (gg : Grow wr W) => L9.at_yes (k := j) (⟨_, _, _, _, hrf.chg gg fun _ _ => id⟩ : RG W z T q (.slice ca cl cc) L) HL40.out.2 hj (by have := HL40.out.1; omega))
          have kk1 := hrf.cell1
          rw [HN.out] at kk1
          obtain ⟨gn, rfl, -, -, -, x0, xx1, xx2, xx3, x4'⟩ := hrf.at2 hj
          have HRB := hide ((hrf.nds x (List.mem_of_getElem? hj)).1.1)
          rw [HN.out] at hjl
          rw [hxi] at HAT xx2 xx3 HRB
          rw [hxi] at x0
          generalize l1.getD k 0 = i at *
          obtain ⟨rb, hrb⟩ : ∃ v, rr i = v := ⟨_, rfl⟩
          obtain ⟨db, hdb⟩ : ∃ v, dd i = v := ⟨_, rfl⟩
          obtain ⟨rn, hrn⟩ : ∃ v, x.refs.length = v := ⟨_, rfl⟩
          obtain ⟨dn, hdn⟩ : ∃ v, x.data.length = v := ⟨_, rfl⟩
          obtain ⟨xc, hxc⟩ : ∃ v, x.c = v := ⟨_, rfl⟩
          obtain ⟨fin, hfin⟩ : ∃ v, x.fin = v := ⟨_, rfl⟩
          obtain ⟨xs, hxs⟩ : ∃ v, x.refs = v := ⟨_, rfl⟩
          have hxl : xs.length = rn := by rw [← hxs, hrn]
          rw [hrn] at xx2 hrl hrs
          rw [hrb] at xx2 HRB
          rw [hdb, hdn] at xx3
          rw [hxc] at xx1
          rw [hfin] at x4'
          rw [hxs] at HRB hrs
          have HRS := hide (And.intro hrl (And.intro hrs hxl))
          have hrn30 : rn ≤ 30 := by rw [← hrn]; exact (HST.out.gs.ok (List.mem_of_getElem? hj)).rl
          have HR30 := hide hrn30
          have hndv : (∀ (ar : Option Addr) (cr : Nat) (ad : Option Addr) (cd : Nat), L9.ndV (⟨x.id, x.c, rs, x.data, x.fin && !fb⟩ : Nd) ar cr ad cd = .agg #[.int .i64 i, .int .i64 xc, .slice ar rn cr, .slice ad dn cd, .bool (fin && !fb)]) := fun ar cr ad cd => by
            unfold L9.ndV
            rw [hxi, hxc, hrl, hdn, hfin]
          have HNV := hide hndv
          have HTO := hide (show ∀ (W : World) (b : Nat) (ar : Option Addr) (cr : Nat) (ad : Option Addr) (cd : Nat), L9.Told W b (⟨x.id, x.c, rs, x.data, x.fin && !fb⟩ : Nd) ar cr ad cd → W.ownsRow b 3 1 (.slice ar rn cr) rn (ints rs) from fun W b ar cr ad cd h => by
            have := h.1
            dsimp only at this
            rw [hrl] at this
            exact this)
          obtain ⟨fn2, hfn2⟩ : ∃ v, (fin && !fb) = v := ⟨_, rfl⟩
          have HFN := hide hfn2
          have HLT := hide hlt
          have HGG := hide hg
          have q5 : j < N := hjl
          have q6 : (0 : Int) ≤ (j : Int) := by omega
          generalize x.id = xid at *
          clear hndv hA hrf hcb hfb hrl hrs hnd hj hjl hm hi hrb hdb hrn hdn hxc hfin hxs hxi hxl hrn30 hlt hg hk
          go_wp2_with fail
          refine HNO.out.mono ?_
          rintro e w11 ⟨ar, cr, ad, cd, rfl, htd, g11⟩
          have htr := HTO.out _ _ _ _ _ _ htd
          rw [HNV.out, hfn2]
          clear hfn2
          have hcc := g11.alloc (.cells [.int .i64 i, .int .i64 xc, .slice ar rn cr, .slice ad dn cd, .bool fn2].toArray 38)
          have hnb := Blk.new w11 38 [.int .i64 i, .int .i64 xc, .slice ar rn cr, .slice ad dn cd, .bool fn2]
          have HTR := hide (own_grow htr (Grow.box w11 (.cells [.int .i64 i, .int .i64 xc, .slice ar rn cr, .slice ad dn cd, .bool fn2].toArray 38)))
          replace k0 := Grow.cell hcc k0
          replace r0 := Grow.cell hcc r0
          replace kk1 := Grow.cell hcc kk1
          replace x0 := Grow.cell hcc x0
          replace xx1 := Grow.cell hcc xx1
          replace xx2 := Grow.cell hcc xx2
          replace xx3 := Grow.cell hcc xx3
          replace x4' := Grow.cell hcc x4'
          have HC11 := hide hcc
          have HNB := hide hnb
          clear hcc g11 htd htr hnb HNO HNV HTO
          go_wp2_with fail
          generalize w11.alloc (.cells #[.int .i64 i, .int .i64 xc, .slice ar rn cr, .slice ad dn cd, .bool fn2] 38) = wn at *
          generalize w11.heap.size = nb at *
          have HK1 := hide (fun (W : World) (c : Grow wn W) => (⟨c.cell kk1, c.cell r0, c.cell k0, c.cell x0, c.cell xx1, c.cell xx2, c.cell xx3, c.cell x4'⟩ : W.cell? ⟨q, 1, none⟩ = some (.slice (some ⟨gn, 0, none⟩) N vc) ∧ W.cell? ⟨ta, 0, none⟩ = some (.slice (some ⟨g, 0, none⟩) m1 y1) ∧ W.cell? ⟨g, k, none⟩ = some (.int .i64 i) ∧ W.cell? ⟨gn, j * 5, none⟩ = some (.int .i64 i) ∧ W.cell? ⟨gn, j * 5 + 1, none⟩ = some (.int .i64 xc) ∧ W.cell? ⟨gn, j * 5 + 2, none⟩ = some (.slice (some ⟨rb, 0, none⟩) rn rn) ∧ W.cell? ⟨gn, j * 5 + 3, none⟩ = some (.slice (some ⟨db, 0, none⟩) dn dn) ∧ W.cell? ⟨gn, j * 5 + 4, none⟩ = some (.bool fin)))
          go_region_held3 (fun W => W.cell? ⟨q, 1, none⟩ = some (.slice (some ⟨gn, 0, none⟩) N vc) ∧ W.cell? ⟨ta, 0, none⟩ = some (.slice (some ⟨g, 0, none⟩) m1 y1) ∧ W.cell? ⟨g, k, none⟩ = some (.int .i64 i) ∧ W.cell? ⟨gn, j * 5, none⟩ = some (.int .i64 i) ∧ W.cell? ⟨gn, j * 5 + 1, none⟩ = some (.int .i64 xc) ∧ W.cell? ⟨gn, j * 5 + 2, none⟩ = some (.slice (some ⟨rb, 0, none⟩) rn rn) ∧ W.cell? ⟨gn, j * 5 + 3, none⟩ = some (.slice (some ⟨db, 0, none⟩) dn dn) ∧ W.cell? ⟨gn, j * 5 + 4, none⟩ = some (.bool fin)) (first | assumption | (refine HK1.out _ ?_ <;> (repeat (first | exact Chg.refl _ _ | refine Chg.drew ?_ | refine Chg.alloc ?_ _ | refine Chg.setCell ?_ (fun h => absurd h (by simp)) _))) | go_keep) (first | (go_at_call 24; refine (HAT.out _ (Chg.trans HC11.out (by (repeat (first | exact Chg.refl _ _ | refine Chg.drew ?_ | refine Chg.alloc ?_ _))))).mono ?_; rintro e w' ⟨rfl, rfl⟩))
          all_goals
            have gX : Grow wn (wn.alloc (.cells [.int .i64 i, .int .i64 xc, .slice (some ⟨rb, 0, none⟩) rn rn, .slice (some ⟨db, 0, none⟩) dn dn, .bool fin].toArray 38)).drew := (Grow.box _ _).drew
            have hob := (Blk.new wn 38 [.int .i64 i, .int .i64 xc, .slice (some ⟨rb, 0, none⟩) rn rn, .slice (some ⟨db, 0, none⟩) dn dn, .bool fin]).drew
            clear kk1 x0 xx1 xx2 xx3 x4' HK1 HAT HRF
            replace k0 := Grow.cell gX k0
            have HC12 := hide (HC11.out.trans gX)
            have HNB2 := hide (HNB.out.chg gX id)
            have HTR2 := hide (own_grow HTR.out gX)
            have HOB := hide hob
            clear hob gX r0 q5 q6 q1 q2 HNB HTR
            generalize (wn.alloc (.cells #[.int .i64 i, .int .i64 xc, .slice (some ⟨rb, 0, none⟩) rn rn, .slice (some ⟨db, 0, none⟩) dn dn, .bool fin] 38)).drew = wq at *
            generalize wn.heap.size = ob at *
            have HA12 := hide (HAc.out.grow (HGG.out.trans HC12.out))
            have r0 := HA12.out.k0
            have r1 := HA12.out.k1
            have q2 : k < m1 := HLT.out
            have HX2b := hide (fun (W : World) (gg : Grow wq W) => HX2.out _ (HC12.out.trans gg))
            go_wp2_with fail
            refine wp_region_grow (by kernel_rfl) (by kernel_rfl) ?_
            repeat (
              with_reducible refine wpQuiet_step ?_
              intro K hK
              first
                | ((with_reducible refine quiet_offT rfl ?_ (hK _ ?_)); focus (refine ⟨_, rfl, ?_⟩; with_reducible rfl))
                | ((with_reducible refine quiet_offF rfl ?_ (hK _ ?_)); focus (refine ⟨_, rfl, ?_⟩; with_reducible rfl))
                | ((with_reducible refine quiet_offN rfl ?_ (hK _ ?_)); focus (exact rfl))
                | ((first | with_reducible refine quiet_free rfl ?_ | ((with_reducible refine quiet_on rfl ?_ ?_); focus (refine ⟨_, rfl, ?_⟩; with_reducible rfl)))
                   apply Exists.intro
                   refine ⟨fun Wq hW => ?_, hK _ ?_⟩
                   focus (have q0 := Grow.cell hW r0; have q1 := Grow.cell hW r1; have q2 := Grow.cell hW k0; go_simp; first | done | with_reducible rfl | (go_at_call 16; (first | with_reducible exact grown_call hW (HX2b.out _ hW) | with_reducible exact grown_same hW (HX2b.out _ hW)))))
              clear hK K
              simp only [Act.put, List.setIfInBounds_toArray, List.set_cons_zero, List.set_cons_succ])
            with_reducible refine wpQuiet_nil ?_
            intro w13 c13
            have HC13 := hide (HC12.out.trans c13)
            have HNB3 := hide (HNB2.out.chg c13 id)
            have HTR3 := hide (own_grow HTR2.out c13)
            have HOB3 := hide (HOB.out.chg c13 id)
            have HRB3 := hide (HRB.out.chg HC13.out id)
            replace k0 := Grow.cell c13 k0
            have n2 := HNB3.out.cell 2
            clear c13 HNB2 HTR2 HOB HA12 r0 r1 HX2 HX2b HC12 HRB HC11
            go_wp2_with fail
            clear n2
            go_loopw [129] (fun v wz => ∃ j2 : Nat, j2 ≤ rn ∧ v = .int .i64 j2 ∧ w13 = wz) (fun v _ => rn - (Go.RowKit.intOf v).toNat)
            case atStart => exact ⟨0, Nat.zero_le _, rfl, rfl⟩
            case round =>
              obtain ⟨j2, hj2, rfl, rfl⟩ := hrel
              rcases Nat.eq_or_lt_of_le hj2 with hje | hjlt
              · have hje2 := hje.symm
                subst hje2
                clear hje hj2
                have q1 : decide ((rn : Int) < rn) = false := by simp
                have hA := HAc.out.grow (HGG.out.trans HC13.out)
                have r0 := hA.k0
                have r2 := hA.k2
                have n4 := HNB3.out.cell 4
                have o4 := HOB3.out.cell 4
                have HX3b := hide (fun (W : World) (gg : Grow w13 W) => HX3.out _ (HC13.out.trans gg))
                have hfn := HFN.out
                have HC14 := hide (HGG.out.trans HC13.out)
                clear hA HFN HOB3 HNB3 HTR3 HRB3 HX3 HC13 HGG
                cases fin with
                | true =>
                  cases fb with
                  | true =>
                    have e1 : fn2 = false := by rw [← hfn]; rfl
                    subst e1
                    clear hfn
                    go_wp2_with fail
                    refine wp_region_grow (by kernel_rfl) (by kernel_rfl) ?_
                    repeat (
                      with_reducible refine wpQuiet_step ?_
                      intro K hK
                      first
                        | ((with_reducible refine quiet_offT rfl ?_ (hK _ ?_)); focus (refine ⟨_, rfl, ?_⟩; with_reducible rfl))
                        | ((with_reducible refine quiet_offF rfl ?_ (hK _ ?_)); focus (refine ⟨_, rfl, ?_⟩; with_reducible rfl))
                        | ((with_reducible refine quiet_offN rfl ?_ (hK _ ?_)); focus (exact rfl))
                        | ((first | with_reducible refine quiet_free rfl ?_ | ((with_reducible refine quiet_on rfl ?_ ?_); focus (refine ⟨_, rfl, ?_⟩; with_reducible rfl)))
                           apply Exists.intro
                           refine ⟨fun Wq hW => ?_, hK _ ?_⟩
                           focus (have q0 := Grow.cell hW r0; have q1 := Grow.cell hW r2; have q2 := Grow.cell hW k0; have q3 := Grow.cell hW n4; have q4 := Grow.cell hW o4; go_simp; first | done | with_reducible rfl | (go_at_call 16; (first | with_reducible exact grown_call hW (HX3b.out _ hW) | with_reducible exact grown_same hW (HX3b.out _ hW)))))
                      clear hK K
                      simp only [Act.put, List.setIfInBounds_toArray, List.set_cons_zero, List.set_cons_succ])
                    with_reducible refine wpQuiet_nil ?_
                    intro w15 c15
                    have HN2 := hide (HC14.out.trans c15)
                    clear c15 r0 r2 k0 n4 o4 HX3b HC14
                    go_wp2
                    go_roundw
                    case rel => exact ⟨k + 1, HLT.out, rfl, HN2.out⟩
                    case measure => have := HLT.out; simp [Go.RowKit.intOf]; omega
                  | false =>
                    have e1 : fn2 = true := by rw [← hfn]; rfl
                    subst e1
                    clear hfn
                    go_wp2_with fail
                    refine wp_region_grow (by kernel_rfl) (by kernel_rfl) ?_
                    repeat (
                      with_reducible refine wpQuiet_step ?_
                      intro K hK
                      first
                        | ((with_reducible refine quiet_offT rfl ?_ (hK _ ?_)); focus (refine ⟨_, rfl, ?_⟩; with_reducible rfl))
                        | ((with_reducible refine quiet_offF rfl ?_ (hK _ ?_)); focus (refine ⟨_, rfl, ?_⟩; with_reducible rfl))
                        | ((with_reducible refine quiet_offN rfl ?_ (hK _ ?_)); focus (exact rfl))
                        | ((first | with_reducible refine quiet_free rfl ?_ | ((with_reducible refine quiet_on rfl ?_ ?_); focus (refine ⟨_, rfl, ?_⟩; with_reducible rfl)))
                           apply Exists.intro
                           refine ⟨fun Wq hW => ?_, hK _ ?_⟩
                           focus (have q0 := Grow.cell hW r0; have q1 := Grow.cell hW r2; have q2 := Grow.cell hW k0; have q3 := Grow.cell hW n4; have q4 := Grow.cell hW o4; go_simp; first | done | with_reducible rfl | (go_at_call 16; (first | with_reducible exact grown_call hW (HX3b.out _ hW) | with_reducible exact grown_same hW (HX3b.out _ hW)))))
                      clear hK K
                      simp only [Act.put, List.setIfInBounds_toArray, List.set_cons_zero, List.set_cons_succ])
                    with_reducible refine wpQuiet_nil ?_
                    intro w15 c15
                    have HN2 := hide (HC14.out.trans c15)
                    clear c15 r0 r2 k0 n4 o4 HX3b HC14
                    go_wp2
                    go_roundw
                    case rel => exact ⟨k + 1, HLT.out, rfl, HN2.out⟩
                    case measure => have := HLT.out; simp [Go.RowKit.intOf]; omega
                | false =>
                  have e1 : fn2 = false := by rw [← hfn]; rfl
                  subst e1
                  clear hfn
                  go_wp2_with fail
                  refine wp_region_grow (by kernel_rfl) (by kernel_rfl) ?_
                  repeat (
                    with_reducible refine wpQuiet_step ?_
                    intro K hK
                    first
                      | ((with_reducible refine quiet_offT rfl ?_ (hK _ ?_)); focus (refine ⟨_, rfl, ?_⟩; with_reducible rfl))
                      | ((with_reducible refine quiet_offF rfl ?_ (hK _ ?_)); focus (refine ⟨_, rfl, ?_⟩; with_reducible rfl))
                      | ((with_reducible refine quiet_offN rfl ?_ (hK _ ?_)); focus (exact rfl))
                      | ((first | with_reducible refine quiet_free rfl ?_ | ((with_reducible refine quiet_on rfl ?_ ?_); focus (refine ⟨_, rfl, ?_⟩; with_reducible rfl)))
                         apply Exists.intro
                         refine ⟨fun Wq hW => ?_, hK _ ?_⟩
                         focus (have q0 := Grow.cell hW r0; have q1 := Grow.cell hW r2; have q2 := Grow.cell hW k0; have q3 := Grow.cell hW n4; have q4 := Grow.cell hW o4; go_simp; first | done | with_reducible rfl | (go_at_call 16; (first | with_reducible exact grown_call hW (HX3b.out _ hW) | with_reducible exact grown_same hW (HX3b.out _ hW)))))
                    clear hK K
                    simp only [Act.put, List.setIfInBounds_toArray, List.set_cons_zero, List.set_cons_succ])
                  with_reducible refine wpQuiet_nil ?_
                  intro w15 c15
                  have HN2 := hide (HC14.out.trans c15)
                  clear c15 r0 r2 k0 n4 o4 HX3b HC14
                  go_wp2
                  go_roundw
                  case rel => exact ⟨k + 1, HLT.out, rfl, HN2.out⟩
                  case measure => have := HLT.out; simp [Go.RowKit.intOf]; omega
              · have q1 : decide ((j2 : Int) < rn) = true := decide_eq_true (by omega)
                have q5 : j2 < rn := hjlt
                have hw2 : IntKind.i64.wrap ((j2 : Int) + 1) = ((j2 + 1 : Nat) : Int) := (IntWalk.i64_in _ (by have := HR30.out; omega)).trans (by omega)
                obtain ⟨ga, rfl, -, -, -, hac⟩ := L9.own_at HTR3.out hjlt
                have n2 := HNB3.out.cell 2
                have o2 := HOB3.out.cell 2
                have hxc := HRB3.out.cell j2
                rw [ints_get xs j2 (by have := HRS.out.2.2; omega)] at hxc
                have hval := HRS.out.2.1 j2 hjlt
                have HJ := hide hjlt
                generalize xs.getD j2 0 = u1 at *
                generalize rs.getD j2 0 = u2 at *
                clear hj2
                by_cases h0 : j2 = 0
                · have q6 : ((j2 : Int) == 0) = true := by simp [h0]
                  cases cb with
                  | true =>
                    rw [if_pos ⟨h0, rfl⟩] at hval
                    subst hval
                    clear h0 hjlt
                    go_wp2
                    go_roundw
                    case rel => exact ⟨j2 + 1, HJ.out, rfl, by first | rfl | trivial⟩
                    case measure => have := HJ.out; simp [Go.RowKit.intOf]; omega
                  | false =>
                    rw [if_neg (by simp)] at hval
                    subst hval
                    have q7 : (u2 != u2) = false := bne_self_eq_false _
                    clear h0 hjlt
                    go_wp2
                    go_roundw
                    case rel => exact ⟨j2 + 1, HJ.out, rfl, by first | rfl | trivial⟩
                    case measure => have := HJ.out; simp [Go.RowKit.intOf]; omega
                · have q6 : ((j2 : Int) == 0) = false := by simp; omega
                  rw [if_neg (by simp [h0])] at hval
                  subst hval
                  have q7 : (u2 != u2) = false := bne_self_eq_false _
                  clear h0 hjlt
                  go_wp2
                  go_roundw
                  case rel => exact ⟨j2 + 1, HJ.out, rfl, by first | rfl | trivial⟩
                  case measure => have := HJ.out; simp [Go.RowKit.intOf]; omega
    · have q1 : decide ((k : Int) < m2) = true := decide_eq_true (by omega)
      have q2 : k < m2 := hlt
      obtain ⟨m, hm1⟩ : ∃ m : Nat, k + 1 = m := ⟨_, rfl⟩
      have hw : IntKind.i64.wrap ((k : Int) + 1) = (m : Int) := (IntWalk.i64_in _ (by have := HM.out; omega)).trans (by omega)
      have hA := HA.out.grow hg
      have r0 := hA.k0
      have r1 := hA.k1
      have hrow := fun (W : World) (gg : Grow wr W) => (hA.grow gg).o2
      obtain ⟨g, rfl, k0, hi, hm⟩ := hA.o2.at_ hlt
      have HX1 := hide (fun (W : World) (gg : Grow wr W) => (hA.grow gg).o1.has (l2.getD k 0))
      rw [HC1.out _ hm] at HX1
      have hno := drop_no HND.out (k := k) (by rw [HA.out.o2.l]; exact hlt)
      rw [hm1] at hno
      have hmle : m ≤ m2 := by omega
      have hcap : m2 ≤ y2 := by
        obtain ⟨g', cap, e, -, -, h1, -⟩ := own_form hA.o2.o (by rw [HA.out.o2.l]; omega)
        injection e with e1 e2 e3
        rw [HA.out.o2.l] at h1
        omega
      have HME := hide hm1
      have HLT := hide hmle
      have HGG := hide hg
      by_cases hcm : y2 = m
      · have hm2 : m2 = m := by omega
        have HX0 := hide (fun (W : World) (gg : Grow wr W) => (L9.has_any (row_none (W := W) (a := some ⟨g, 0, none⟩)) (l2.getD k 0) (by omega)).mono fun e w' (h : e = .returned (.bool (hasB [] (l2.getD k 0))) ∧ ∃ n, w' = W.drewN n) => (⟨h.1, by obtain ⟨n, hn⟩ := h.2; rw [hn]; exact (Chg.refl _ _).drewN n⟩ : e = .returned (.bool (hasB [] (l2.getD k 0))) ∧ Grow W w'))
        have h00 : hasB [] (l2.getD k 0) = false := rfl
        rw [h00] at HX0
        generalize l2.getD k 0 = i at *
        have hm3 := hm2.symm
        subst hm3
        have hcm2 := hcm.symm
        subst hcm2
        clear h00 hno hm hi hlt hg hk hA hrow hm1 hcap hmle hm2 hcm
        go_wp2_with fail
        refine wp_region_grow (by kernel_rfl) (by kernel_rfl) ?_
        repeat (
          with_reducible refine wpQuiet_step ?_
          intro K hK
          first
            | ((with_reducible refine quiet_offT rfl ?_ (hK _ ?_)); focus (refine ⟨_, rfl, ?_⟩; with_reducible rfl))
            | ((with_reducible refine quiet_offF rfl ?_ (hK _ ?_)); focus (refine ⟨_, rfl, ?_⟩; with_reducible rfl))
            | ((with_reducible refine quiet_offN rfl ?_ (hK _ ?_)); focus (exact rfl))
            | ((first | with_reducible refine quiet_free rfl ?_ | ((with_reducible refine quiet_on rfl ?_ ?_); focus (refine ⟨_, rfl, ?_⟩; with_reducible rfl)))
               apply Exists.intro
               refine ⟨fun Wq hW => ?_, hK _ ?_⟩
               focus (have q0 := Grow.cell hW r0; have q1 := Grow.cell hW r1; have q2 := Grow.cell hW k0; go_simp; first | done | with_reducible rfl | (go_at_call 16; (first | with_reducible exact grown_call hW (HX0.out _ hW) | with_reducible exact grown_same hW (HX0.out _ hW))) | (go_at_call 16; (first | with_reducible exact grown_call hW (HX1.out _ hW) | with_reducible exact grown_same hW (HX1.out _ hW)))))
          clear hK K
          simp only [Act.put, List.setIfInBounds_toArray, List.set_cons_zero, List.set_cons_succ])
        with_reducible refine wpQuiet_nil ?_
        intro w11 c11
        have HN2 := hide (HGG.out.trans c11)
        clear c11 r0 r1 k0 HX0 HX1
        go_wp2
        go_roundw
        case rel => exact ⟨m, HLT.out, rfl, HN2.out⟩
        case measure => have := HLT.out; have := HME.out; simp [Go.RowKit.intOf]; omega
      · have HX0 := hide (fun (W : World) (gg : Grow wr W) => (L9.has_any (row_drop (hrow W gg) hmle (by omega)) (l2.getD k 0) (by have := HM.out; omega)).mono fun e w' (h : e = .returned (.bool (hasB (l2.drop m) (l2.getD k 0))) ∧ ∃ n, w' = W.drewN n) => (⟨h.1, by obtain ⟨n, hn⟩ := h.2; rw [hn]; exact (Chg.refl _ _).drewN n⟩ : e = .returned (.bool (hasB (l2.drop m) (l2.getD k 0))) ∧ Grow W w'))
        rw [hno] at HX0
        generalize l2.getD k 0 = i at *
        have q6 : m ≤ y2 := by omega
        have q7 : m ≤ m2 := hmle
        clear hno hm hi hlt hg hk hA hrow hm1 hcap hmle
        go_wp2_with fail
        refine wp_region_grow (by kernel_rfl) (by kernel_rfl) ?_
        repeat (
          with_reducible refine wpQuiet_step ?_
          intro K hK
          first
            | ((with_reducible refine quiet_offT rfl ?_ (hK _ ?_)); focus (refine ⟨_, rfl, ?_⟩; with_reducible rfl))
            | ((with_reducible refine quiet_offF rfl ?_ (hK _ ?_)); focus (refine ⟨_, rfl, ?_⟩; with_reducible rfl))
            | ((with_reducible refine quiet_offN rfl ?_ (hK _ ?_)); focus (exact rfl))
            | ((first | with_reducible refine quiet_free rfl ?_ | ((with_reducible refine quiet_on rfl ?_ ?_); focus (refine ⟨_, rfl, ?_⟩; with_reducible rfl)))
               apply Exists.intro
               refine ⟨fun Wq hW => ?_, hK _ ?_⟩
               focus (have q0 := Grow.cell hW r0; have q1 := Grow.cell hW r1; have q2 := Grow.cell hW k0; go_simp; first | done | with_reducible rfl | (go_at_call 16; (first | with_reducible exact grown_call hW (HX0.out _ hW) | with_reducible exact grown_same hW (HX0.out _ hW))) | (go_at_call 16; (first | with_reducible exact grown_call hW (HX1.out _ hW) | with_reducible exact grown_same hW (HX1.out _ hW)))))
          clear hK K
          simp only [Act.put, List.setIfInBounds_toArray, List.set_cons_zero, List.set_cons_succ])
        with_reducible refine wpQuiet_nil ?_
        intro w11 c11
        have HN2 := hide (HGG.out.trans c11)
        clear c11 r0 r1 k0 HX0 HX1
        go_wp2
        go_roundw
        case rel => exact ⟨m, HLT.out, rfl, HN2.out⟩
        case measure => have := HLT.out; have := HME.out; simp [Go.RowKit.intOf]; omega
theorem walk (u : Wo) (cs : List Cl) (ns : List Int) (ts : List Tr) (a1 : Option Addr) (len1 cap1 : Nat) (zs : List Int) (b : Int) (w : World) (h0 : IsWo w u cs ns ts) (h1 : IsRow .i64 w a1 len1 cap1 zs) (h2 : (Lit.int .u64 b).wf = true) :
    Calls Try.prog 4 #[Wo.v u, .slice a1 len1 cap1, .int .u64 b] w fun e w' => e = .returned (.bool true) ∧ Below w.heap.size w w' := by
  obtain ⟨B, rfl, hB⟩ := nat_u64 h2
  by_cases hg : good u cs
  · by_cases hl : 40 < len1
    · exact walk_no h0 h1 (.inr ⟨hg, hl⟩)
    · exact walk_main h0 h1 hg (by omega) hB
  · exact walk_no h0 h1 (.inl hg)
end
theorem own : ownKnob Try.prog.godebug = none := by kernel_rfl
theorem laidOut : laidOutB Try.prog = true := by kernel_rfl

set_option maxRecDepth 100000 in
theorem lifted (os : Os) (started : os.Started) (H : Type) (enc : TypeId × Value → H) :
    ReturnsInHanded {} Try.checked os 4 .any (Rows.processClosesSpec.pre6 enc Try.prog Try.f4 Rows.processClosesRow.domain false) (Rows.processClosesSpec.post enc Try.prog Try.f4 false true false false) := by
  refine returnsInHanded_of_change (C := Try.checked) own started (by kernel_rfl) Try.func4
    (ChangeSpec.witness6 (enc := enc) (C := Try.checked) false ⟨#[], #[.agg #[.slice none 0 0, .slice none 0 0, .slice none 0 0], .slice none 0 0, .int .u64 0], []⟩ 8 (by kernel_rfl) (by kernel_rfl) (by kernel_rfl) (by kernel_rfl)) ?_
  intro W base args ds gs before hval0 hW hcnd _
  have hval : ∀ (j : Nat) t v, Try.f4.params[j]? = some t → args[j]? = some v → Value.okWide Try.prog W .any base t v := hval0
  have hW' := hW
  obtain ⟨p, q, hA0, hV, rfl, hfz, hnd⟩ := hW
  have hA : DataW.TrodAll enc Try.prog W 0 (fun _ => true) true Try.f4.params.toList args.toList ds p := hA0
  rw [Try.params4] at hA hval
  obtain ⟨v0, vs0, d0, ds0, p0, q0, hargs, rfl, rfl, h0, r0⟩ := trodAll_cons hA
  obtain ⟨v1, vs1, d1, ds1, p1, q1, rfl, rfl, rfl, h1, r1⟩ := trodAll_cons r0
  obtain ⟨v2, vs2, d2, ds2, p2, q2, rfl, rfl, rfl, h2, r2⟩ := trodAll_cons r1
  obtain ⟨rfl, rfl, rfl⟩ := trodAll_nil r2
  obtain rfl : args = #[v0, v1, v2] := by cases args; simp_all
  obtain ⟨rfl, rfl⟩ := trodVars_none hV
  have k0 := h0
  have lt0 : ∀ x ∈ p0, x.block < W.heap.size := by obtain ⟨m, hm⟩ := k0; exact DataW.trod_lt m _ _ _ hm
  obtain ⟨u0, cs0, ns0, ts0, rfl, w0⟩ := open_world (hval 0 26 v0 rfl rfl) h0
  obtain ⟨a1, len1, cap1, rfl⟩ := okWide_slice Try.underlying27 (hval 1 27 v1 rfl rfl)
  have k1 := h1
  have lt1 : ∀ x ∈ p1, x.block < W.heap.size := by obtain ⟨m, hm⟩ := k1; exact DataW.trod_lt m _ _ _ hm
  obtain ⟨z1, w1⟩ : ∃ zs, IsRow .i64 W a1 len1 cap1 zs := open_row Try.underlying27 Try.underlying3 (by kernel_rfl) h1
  obtain ⟨a2, rfl, rfl, rfl, w2⟩ := open_int Try.underlying28 (hval 2 28 v2 rfl rfl) h2
  clear hA0 hval0
  refine (walk u0 cs0 ns0 ts0 a1 len1 cap1 z1 a2 W w0 w1 w2).mono fun e W' ⟨he, bel⟩ => ?_
  subst he
  exact ⟨_, rfl, _, _, _, [], _, [], hW', trodAll_mk1 (shut_bool Try.underlying4 _), (trodAll_cons_mk (Below.trod laidOut (by kernel_rfl) (of_decide_eq_true (by kernel_rfl)) k0 bel lt0) (trodAll_cons_mk (Below.trod laidOut (by kernel_rfl) (of_decide_eq_true (by kernel_rfl)) k1 bel lt1) (trodAll_cons_mk (shut_int Try.underlying28 w2) trodAll_mk0))), rfl, bel.frame _, fun h => by cases h⟩

theorem over : Rows.processClosesRow.holds Try.pinned (OpenSpec.ofChange Rows.processClosesSpec) :=
  OpenClaim.holds_of_wide 4 Try.f4 rfl rfl rfl rfl rfl rfl rfl ⟨rfl, rfl, rfl, rfl, rfl⟩ rfl rfl rfl rfl rfl (by kernel_rfl) Try.func4 (by kernel_rfl)
    (of_decide_eq_true (by kernel_rfl)) (by unfold Func.isWrapper; first | (rw [if_pos (by decide +kernel)]; kernel_rfl) | (rw [if_neg (by decide +kernel)]; exact ⟨rfl, rfl⟩))
    (fun os started H enc _ => lifted os started H enc)

/-- The statement. -/
theorem proved : Rows.ProcessClosesSaid := over
#print axioms proved
end Go.Proofs.Ytnhhlonnbeaooaa.processCloses


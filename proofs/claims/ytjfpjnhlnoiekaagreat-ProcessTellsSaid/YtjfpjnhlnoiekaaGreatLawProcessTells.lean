/- For all worlds, roots and bits ProcessTells answers true: which nodes stay, which references are cleared, in order, and which nodes are to be finalized is what the document says; and so is the graph behind that. Conditions: none. -/
import Derived.Test.YtjfpjnhlnoiekaaGreatL13W
import Derived.Test.YtjfpjnhlnoiekaaGreatL13Ld
namespace Go.Proofs.YtjfpjnhlnoiekaaGreat.processTells
open Go.ChangeShapes Go.WideShapes Go.ChangeAt Go.RowKit Go.Proofs.YtjfpjnhlnoiekaaGreat.L10 Go.Proofs.YtjfpjnhlnoiekaaGreat.L13
open Go.Proofs.YtjfpjnhlnoiekaaGreat.L9 (Nd nd GS RG Rf Lok In64 Srt nd_some nd_none nd_mem own_rd own_cast ptr newX_rt hasB hldX aimX wpList_app aim_gs node_yes kpL kpN)
open Go.Proofs.YtjfpjnhlnoiekaaGreat.graphKeeps (Clo nd_ne)
open Go.Proofs.YtjfpjnhlnoiekaaGreat.L5 (Cl clAt isRf IsCls newX)
set_option linter.unusedVariables false
section
variable {w : World} {u : Wo} {cs : List Cl} {ns : List Int} {ts : List Tr} {a1 : Option Addr} {len1 cap1 : Nat} {zs : List Int} {B : Nat}
theorem nat_u64 {x : Int} (h : (Lit.int .u64 x).wf = true) : ∃ B : Nat, x = B ∧ B < 18446744073709551616 := by
  simp [Lit.wf, IntKind.min, IntKind.max, IntKind.signed, IntKind.bits] at h
  exact ⟨x.toNat, by omega, by omega⟩
section
variable {S T : Nat → Prop} {W W1 W2 : World}
theorem chl (c : Chg S W W1) : Chg (fun k => S k ∨ T k) W W1 := c.mono fun _ _ h => .inl h
theorem chr (d : Chg (fun k => S k ∨ T k) W W1) (c : Chg T W1 W2) : Chg (fun k => S k ∨ T k) W W2 := d.trans (c.mono fun _ _ h => .inr h)
theorem chg0 (d : Chg (fun k => S k ∨ T k) W W1) (c : Grow W1 W2) : Chg (fun k => S k ∨ T k) W W2 := d.trans (c.mono fun _ _ h => h.elim)
end
/-- What the plain Run answered, in box t: made behind base. -/
structure Rq (W : World) (t base : Nat) (a1 : Option Addr) (n1 c1 : Nat) (a2 : Option Addr) (n2 c2 : Nat) (a3 : Option Addr) (n3 c3 : Nat) (l1 l2 l3 : List Int) : Prop where
  blk : Blk W t 44 [.slice a1 n1 c1, .slice a2 n2 c2, .slice a3 n3 c3]
  bt : base ≤ t
  o1 : Nl W base a1 n1 c1 l1
  o2 : Nl W base a2 n2 c2 l2
  o3 : Nl W base a3 n3 c3 l3
section
variable {w W W' : World} {S : Nat → Prop} {t base n1 c1 n2 c2 n3 c3 : Nat} {a1 a2 a3 : Option Addr} {l1 l2 l3 : List Int}
theorem Rq.grow (h : Rq W t base a1 n1 c1 a2 n2 c2 a3 n3 c3 l1 l2 l3) (g : Grow W W') : Rq W' t base a1 n1 c1 a2 n2 c2 a3 n3 c3 l1 l2 l3 := ⟨h.blk.chg g id, h.bt, h.o1.grow g, h.o2.grow g, h.o3.grow g⟩
theorem Rq.chg (h : Rq W t base a1 n1 c1 a2 n2 c2 a3 n3 c3 l1 l2 l3) (g : Chg S W W') (hS : ∀ k, S k → k < base) : Rq W' t base a1 n1 c1 a2 n2 c2 a3 n3 c3 l1 l2 l3 :=
  ⟨h.blk.chg g fun hs => by have := hS _ hs; have := h.bt; omega, h.bt, h.o1.chg g hS, h.o2.chg g hS, h.o3.chg g hS⟩
theorem Rq.boxed (g : Grow w W) (h1 : Nl W w.heap.size a1 n1 c1 l1) (h2 : Nl W w.heap.size a2 n2 c2 l2) (h3 : Nl W w.heap.size a3 n3 c3 l3) :
    Rq (W.alloc (.cells [.slice a1 n1 c1, .slice a2 n2 c2, .slice a3 n3 c3].toArray 44)) W.heap.size w.heap.size a1 n1 c1 a2 n2 c2 a3 n3 c3 l1 l2 l3 :=
  ⟨Blk.new _ _ _, g.size, h1.grow (Grow.box _ _), h2.grow (Grow.box _ _), h3.grow (Grow.box _ _)⟩
theorem Rq.ks (h : Rq W t base a1 n1 c1 a2 n2 c2 a3 n3 c3 l1 l2 l3) : W.cell? ⟨t, 0, none⟩ = some (.slice a1 n1 c1) ∧ W.cell? ⟨t, 1, none⟩ = some (.slice a2 n2 c2) ∧ W.cell? ⟨t, 2, none⟩ = some (.slice a3 n3 c3) := ⟨h.blk.cell 0, h.blk.cell 1, h.blk.cell 2⟩
end
set_option maxRecDepth 100000 in
set_option maxHeartbeats 2000000 in
theorem walk_no (h0 : IsWo w u cs ns ts) (h1 : IsRow .i64 w a1 len1 cap1 zs) (hg : ¬ good u cs ∨ (good u cs ∧ 40 < len1)) :
    Calls Tryz.prog 3 #[Wo.v u, .slice a1 len1 cap1, .int .u64 B] w fun e w' => e = .returned (.bool true) ∧ Below w.heap.size w w' := by
  rcases hg with hg | hg
  · skip
    obtain ⟨ca, cl, cc, na, nl, nc, ra, rl, rc⟩ := u
    obtain ⟨hbx, hb2, gB, -, -, -⟩ := boxes2 w 26 [.slice ca cl cc, .slice na nl nc, .slice ra rl rc] 28 [.int .u64 (B : Int)]
    have HB2 := hide hb2
    clear hb2
    have HWO := hide (h0.chg gB fun _ _ => id)
    have HRW := hide h1
    have HBX := hide hbx
    clear h0 h1 hbx
    have HM := hide (made_no HWO.out hg)
    clear hg HWO HRW HBX
    go_enter Tryz.func3, Tryz.ntmps3
    go_wp2_with fail
    refine HM.out.mono ?_
    rintro e w3 ⟨rfl, c3⟩
    have HG := hide (gB.trans c3)
    clear gB c3 HM
    go_wp2_with fail
    refine (awake_any _).mono ?_
    rintro e w4 ⟨rfl, c4⟩
    have HG4 := hide (HG.out.trans c4)
    clear c4
    go_wp2_with fail
    refine (awake_any _).mono ?_
    rintro e w5 ⟨rfl, c5⟩
    have HG5 := hide (HG4.out.trans c5)
    clear c5
    go_wp2
    go_ret
    exact ⟨rfl, HG5.out.below (fun _ _ h => h) (Nat.le_refl _)⟩
  · obtain ⟨hg, hlen⟩ := hg
    obtain ⟨ca, cl, cc, na, nl, nc, ra, rl, rc⟩ := u
    obtain ⟨hbx, hb2, gB, -, -, -⟩ := boxes2 w 26 [.slice ca cl cc, .slice na nl nc, .slice ra rl rc] 28 [.int .u64 (B : Int)]
    have HB2 := hide hb2
    clear hb2
    have HWO := hide (h0.chg gB fun _ _ => id)
    have HRW := hide h1
    have HBX := hide hbx
    clear h0 h1 hbx
    have HM := hide (made_yes HWO.out hg)
    have q1 : decide ((len1 : Int) > 40) = true := by simp; omega
    clear hg HWO HRW HBX hlen
    go_enter Tryz.func3, Tryz.ntmps3
    go_wp2_with fail
    refine HM.out.mono ?_
    rintro e w3 ⟨z, p, q, L, rfl, -, -, -, -, -, c3⟩
    have HG := hide (gB.trans c3)
    clear gB c3 HM
    go_wp2_with fail
    refine (awake_any _).mono ?_
    rintro e w4 ⟨rfl, c4⟩
    have HG4 := hide (HG.out.trans c4)
    clear c4
    go_wp2_with fail
    refine (awake_any _).mono ?_
    rintro e w5 ⟨rfl, c5⟩
    have HG5 := hide (HG4.out.trans c5)
    clear c5
    go_wp2
    go_ret
    exact ⟨rfl, HG5.out.below (fun _ _ h => h) (Nat.le_refl _)⟩
set_option maxRecDepth 100000 in
set_option maxHeartbeats 8000000 in
theorem walk_main (h0 : IsWo w u cs ns ts) (h1 : IsRow .i64 w a1 len1 cap1 zs) (hg : good u cs) (hle : len1 ≤ 40) (hBB : B < 18446744073709551616) :
    Calls Tryz.prog 3 #[Wo.v u, .slice a1 len1 cap1, .int .u64 B] w fun e w' => e = .returned (.bool true) ∧ Below w.heap.size w w' := by
  have HC0 := hide h0.c
  obtain ⟨ca, cl, cc, na, nl, nc, ra, rl, rc⟩ := u
  obtain ⟨hbx, hb2, gB, -, -, -⟩ := boxes2 w 26 [.slice ca cl cc, .slice na nl nc, .slice ra rl rc] 28 [.int .u64 (B : Int)]
  have HB2 := hide hb2
  clear hb2
  have HWO := hide (h0.chg gB fun _ _ => id)
  have HRW := hide h1
  have HBX := hide hbx
  clear h0 h1 hbx
  have HM := hide (made_yes HWO.out hg)
  have q1 : decide ((len1 : Int) > 40) = false := by simp; omega
  have HGD := hide (show nl ≤ 40 ∧ newX cs = 0 ∧ cl ≤ 63 from ⟨hg.1.1, hg.2.2, hg.2.1.2⟩)
  have HLE := hide hle
  clear hg hle
  go_enter Tryz.func3, Tryz.ntmps3
  go_wp2_with fail
  refine HM.out.mono ?_
  rintro e w3 ⟨z, p, q, L, rfl, hbo, hids, hrv, hfv, hzz, c3⟩
  obtain ⟨S, T, hgs, hrg, hap⟩ := hbo
  obtain ⟨b, hb⟩ : ∃ b, w.heap.size = b := ⟨_, rfl⟩
  have hst : St w w3 b z p q S T ca cl cc na nl nc ra rl rc cs L a1 len1 cap1 zs := ⟨gB.trans c3, hgs, ⟨hrg, HWO.out.c.chg c3 fun _ _ => id, hgs.lok, (newX_rt HGD.out.2.1).1, by have := congrArg List.length hids; rw [List.length_map, nms_len] at this; have := HGD.out.1; omega, by have := HGD.out.2.2; omega⟩, hap, HRW.out.chg (gB.trans c3) fun _ _ => id, by rw [← hb]; exact HBX.out.chg c3 id, hids, HGD.out.1, hrv, hfv, Nat.le_trans gB.size hzz, by rw [← hb]; exact Nat.lt_of_lt_of_le HBX.out.lt hzz, HRW.out, HLE.out⟩
  rw [hb]
  have HGB := hide gB
  clear gB HM hids hrv hfv hgs hrg hap HWO HRW HBX HGD HLE
  go_wp2_with fail
  refine (awake_any _).mono ?_
  rintro e w4 ⟨rfl, c4⟩
  have HST := hide (hst.grow c4)
  have HZ2 := hide (Nat.lt_of_lt_of_le HB2.out.lt hzz)
  have HB2 := hide ((HB2.out.chg c3 id).chg c4 id)
  rw [hb] at HB2 HZ2
  clear c3 c4 hst hb HGB hzz
  have hmf : ∀ (fn : Fn) (first cap : Array Value) (w : World), (Instr.makeFunc fn first cap).run Tryz.prog w = .ok (.func fn first cap) w := fun _ _ _ _ => rfl
  obtain ⟨p1, q1', hR⟩ := ex_rs cs L (kB B) zs
  have hl40 := HST.out.l40
  have hz := HST.out.z40
  have hlok := HST.out.lok
  have hclo := HST.out.clo
  have hs := hlok.1
  have HK1 := hide (keeps_tells (L := L) HB2.out hBB HST.out.small)
  obtain ⟨l1, e1⟩ : ∃ l, clL L q1' = l := ⟨_, rfl⟩
  obtain ⟨l2, e2⟩ : ∃ l, ces cs L p1 q1' = l := ⟨_, rfl⟩
  obtain ⟨l3, e3⟩ : ∃ l, clL L (fi L p1) = l := ⟨_, rfl⟩
  obtain ⟨m1, f1⟩ : ∃ n, l1.length = n := ⟨_, rfl⟩
  obtain ⟨m2, f2⟩ : ∃ n, l2.length = n := ⟨_, rfl⟩
  obtain ⟨m3, f3⟩ : ∃ n, l3.length = n := ⟨_, rfl⟩
  have HRU := hide (run_l (cc := cap1) (enters_of Tryz.func7 (by kernel_rfl) rfl) HK1.out HST.out.gs hl40 HST.out.rd (by omega) HST.out.i64 hR e1 e2 e3 f1 f2 f3)
  have hkk : ∀ i, nd L i ≠ none → hasB (clL L (kB B)) i = kB B i := fun i hi => by
    rw [Bool.eq_iff_iff, hasB_iff, clL_iff hs]
    exact ⟨fun h => h.2, fun h => ⟨hi, h⟩⟩
  have HRR := hide (fun (W : World) (g : Grow w4 W) (bk : Nat) (ka : Option Addr) (kn kc : Nat) (hk : Nl W bk ka kn kc (clL L (kB B))) => rrun_any (zc := cap1) (HST.out.grow g).pg hclo hl40 hk hkk (HST.out.grow g).rd (by omega) hR e1 e2 e3 f1 f2 f3)
  have HKE := hide (fun (W : World) (i : Int) (hn : nd L i ≠ none) => (by
    obtain ⟨k, e, hk⟩ := HST.out.small i hn
    subst e
    exact kept_any B hBB k hk W : Calls Tryz.prog 8 #[.int .i64 i, .int .u64 B] W fun e w' => e = .returned (.bool (kB B i)) ∧ W = w'))
  have HM := hide (show m1 ≤ 40 ∧ m2 ≤ 120 ∧ m3 ≤ 40 from by
    rw [← f1, ← f2, ← f3, ← e1, ← e2, ← e3]
    have h1 := clL_le L q1'
    have h2 := ces_len cs L p1 q1'
    have h3 := clL_le L (fi L p1)
    omega)
  obtain ⟨L', hL'⟩ : ∃ L', apL cs L l1 l2 l3 = L' := ⟨_, rfl⟩
  have hL2 : gAp cs L p1 q1' = L' := by rw [← hL', ← e1, ← e2, ← e3]
  obtain ⟨N0, hN0⟩ : ∃ n, apN cs L l1 l2 l3 = n := ⟨_, rfl⟩
  have hids : L'.map Nd.id = l1 := by rw [← hL2, hR.ap_ids hlok hclo, e1]
  have hll : L'.length = m1 := by have h1 := congrArg List.length hids; rw [List.length_map] at h1; rw [h1, f1]
  have HNA := hide hN0
  have HID := hide (And.intro hids hll)
  have HL40 := hide (And.intro hl40 hs)
  have HLP := hide hL'
  have HSB := hide HST.out.sb
  have HAP := hide HST.out.gs
  have HPG := hide HST.out.pg
  obtain ⟨v0, rr, dd, ow, hrf⟩ := HST.out.pg.r
  obtain ⟨va, vc, hv⟩ := hrf.val
  subst hv
  have HRF := hide hrf
  obtain ⟨N, hN⟩ : ∃ N, L.length = N := ⟨_, rfl⟩
  have HN := hide hN
  have HN40 := hide (show N ≤ 1000 from by omega)
  have kk0 := hrf.cell1
  rw [hN] at kk0
  have kb0 := HB2.out.cell 0
  clear hR hl40 hz hlok hclo hs HK1 e1 e2 e3 f1 f2 f3 hL' hL2 hN0 hids hll hkk hrf hN
  go_wp2_with fail
  refine HRU.out.mono ?_
  rintro e w5 ⟨x1, y1, x2, y2, x3, y3, rfl, o1, o2, o3, c5⟩
  have HA := hide (Rr.boxed c5 o1 o2 o3)
  have hcc := c5.alloc (.cells [.slice x1 m1 y1, .slice x2 m2 y2, .slice x3 m3 y3].toArray 35)
  have HG5 := hide hcc
  replace kk0 := Grow.cell hcc kk0
  replace kb0 := Grow.cell hcc kb0
  clear o1 o2 o3 c5 hcc HRU hmf
  go_wp2_with fail
  generalize w5.alloc (.cells #[.slice x1 m1 y1, .slice x2 m2 y2, .slice x3 m3 y3] 35) = wa at *
  generalize w5.heap.size = ta at *
  clear kk0 kb0
  go_loopw [11, 47] (fun vk vi wr => ∃ k : Nat, k ≤ N ∧ vi = .int .i64 k ∧ OL wr wa.heap.size vk (clL (L.take k) (kB B)) ∧ Grow wa wr) (fun _ vi _ => N - (Go.RowKit.intOf vi).toNat)
  case atStart => exact ⟨0, Nat.zero_le _, rfl, L10.ol_nil _ _, Chg.refl _ _⟩
  case round =>
    obtain ⟨k, hk, rfl, hol, hg⟩ := hrel
    rcases Nat.eq_or_lt_of_le hk with hke | hlt
    · have hke2 := hke.symm
      subst hke2
      clear hke
      have q1 : decide ((N : Int) < N) = false := by simp
      have htk : L.take N = L := by rw [← HN.out, List.take_length]
      rw [htk] at hol
      obtain ⟨kn, hkn⟩ : ∃ v, (clL L (kB B)).length = v := ⟨_, rfl⟩
      obtain ⟨ka, kc, hv, -⟩ := hol.form
      rw [hkn] at hv
      subst hv
      have HRB := hide (HRR.out wr (HG5.out.trans hg) _ _ _ _ ⟨hol, hkn, cl_in64 (fun x hx => HAP.out.ok hx) _, by have := clL_le L (kB B); have := HL40.out.1; omega⟩)
      have HG6 := hide (HG5.out.trans hg)
      have HA6 := hide (HA.out.grow hg)
      clear hol hkn hg hk htk HRR HKE
      go_wp2_with fail
      refine HRB.out.mono ?_
      rintro e w6 ⟨x4, y4, x5, y5, x6, y6, rfl, o1, o2, o3, c6⟩
      have HQ := hide (Rq.boxed c6 o1 o2 o3)
      have hcc := c6.alloc (.cells [.slice x4 m1 y4, .slice x5 m2 y5, .slice x6 m3 y6].toArray 44)
      have HA7 := hide (HA6.out.grow hcc)
      have HG7 := hide (HG6.out.trans hcc)
      have HBS := hide HG6.out.size
      clear o1 o2 o3 c6 hcc HRB HA6 HG6
      have r0 := HA7.out.k0
      have r1 := HA7.out.k1
      have r2 := HA7.out.k2
      obtain ⟨s0, s1, s2⟩ := HQ.out.ks
      go_wp2_with fail
      generalize w6.alloc (.cells #[.slice x4 m1 y4, .slice x5 m2 y5, .slice x6 m3 y6] 44) = wb at *
      generalize w6.heap.size = tb at *
      generalize wr.heap.size = bs at *
      refine (L1.same_yes _ _ m1 _ _ l1 _ HA7.out.o1.rd HQ.out.o1.rd (by have := HM.out; omega)).mono ?_
      rintro e w7 ⟨rfl, c7⟩
      replace r1 := Grow.cell c7 r1
      replace r2 := Grow.cell c7 r2
      replace s1 := Grow.cell c7 s1
      replace s2 := Grow.cell c7 s2
      have HC7 := hide c7
      clear c7 r0 s0
      go_wp2_with fail
      refine (L1.same_yes _ _ m2 _ _ l2 _ (HA7.out.grow HC7.out).o2.rd (HQ.out.grow HC7.out).o2.rd (by have := HM.out; omega)).mono ?_
      rintro e w8 ⟨rfl, c8⟩
      replace r2 := Grow.cell c8 r2
      replace s2 := Grow.cell c8 s2
      have HC8 := hide (HC7.out.trans c8)
      clear c8 r1 s1 HC7
      go_wp2_with fail
      refine (L1.same_yes _ _ m3 _ _ l3 _ (HA7.out.grow HC8.out).o3.rd (HQ.out.grow HC8.out).o3.rd (by have := HM.out; omega)).mono ?_
      rintro e w9 ⟨rfl, c9⟩
      have hc9 := HC8.out.trans c9
      have HA9 := hide (HA7.out.grow hc9)
      have HQ9 := hide (HQ.out.grow hc9)
      have HG9 := hide (HG7.out.trans hc9)
      have HGS := hide (HAP.out.grow HG9.out)
      have hrf := HRF.out.chg HG9.out fun _ _ => id
      have HRF9 := hide hrf
      have kk1 := hrf.cell1
      rw [HN.out] at kk1
      clear hc9 c9 r2 s2 HC8 HA7 HQ HG7 hrf
      go_wp2_with fail
      clear kk1
      go_loopw [103] (fun vi wr => ∃ k : Nat, k ≤ N ∧ vi = .int .i64 k ∧ Grow w9 wr) (fun vi _ => N - (Go.RowKit.intOf vi).toNat)
      case atStart => exact ⟨0, Nat.zero_le _, rfl, Chg.refl _ _⟩
      case round =>
        obtain ⟨k, hk, rfl, hg⟩ := hrel
        rcases Nat.eq_or_lt_of_le hk with hke | hlt
        · have hke2 := hke.symm
          subst hke2
          clear hke
          have q1 : decide ((N : Int) < N) = false := by simp
          have gD : Grow wr wr.drew := (Chg.refl (fun _ => False) wr).drew
          have g4 := (HG9.out.trans hg).trans gD
          have hA := (HA9.out.grow hg).grow gD
          have hQ := (HQ9.out.grow hg).grow gD
          have r0 := hA.k0
          have r1 := hA.k1
          have r2 := hA.k2
          obtain ⟨s0, s1, s2⟩ := hQ.ks
          have hTB : ∀ k, T k → k < w4.heap.size := fun k hk => (HPG.out.r.t hk).2
          have htb : ∀ k, T k → w.heap.size ≤ k := fun k hk => Nat.le_trans HST.out.zw (HPG.out.r.t hk).1
          have hta : w4.heap.size ≤ ta := HA.out.bt
          have htb2 : w4.heap.size ≤ tb := Nat.le_trans HBS.out hQ.bt
          have HK1 := hide (fun (W : World) (c : Chg (fun k => S k ∨ T k) wr.drew W) => (by
            have na : ¬ (S ta ∨ T ta) := fun h => by
              rcases h with h | h
              · have := HSB.out _ h
                omega
              · have := hTB _ h
                omega
            have nb : ¬ (S tb ∨ T tb) := fun h => by
              rcases h with h | h
              · have := HSB.out _ h
                omega
              · have := hTB _ h
                omega
            exact ⟨c.cell r0 na, c.cell r1 na, c.cell r2 na, c.cell s0 nb, c.cell s1 nb, c.cell s2 nb⟩ : W.cell? ⟨ta, 0, none⟩ = some (.slice x1 m1 y1) ∧ W.cell? ⟨ta, 1, none⟩ = some (.slice x2 m2 y2) ∧ W.cell? ⟨ta, 2, none⟩ = some (.slice x3 m3 y3) ∧ W.cell? ⟨tb, 0, none⟩ = some (.slice x4 m1 y4) ∧ W.cell? ⟨tb, 1, none⟩ = some (.slice x5 m2 y5) ∧ W.cell? ⟨tb, 2, none⟩ = some (.slice x6 m3 y6)))
          have HAPP := hide (apply_l (HAP.out.grow g4) HL40.out.1 hA HSB.out (by have := HM.out; omega))
          rw [HLP.out, HNA.out] at HAPP
          have HAPR := hide (fun (W : World) (c : Chg S wr.drew W) => (by
            have gW : Grow w W := HST.out.old g4 c
            have hq := hQ.chg c fun k hk => Nat.lt_of_lt_of_le (HSB.out k hk) HBS.out
            have hT : ∀ k, T k → k < bs := fun k hk => Nat.lt_of_lt_of_le (hTB k hk) HBS.out
            have h1 := rapply_any ⟨(HPG.out.r.grow g4).chg c fun k ht hs => HST.out.ap k hs ht, HC0.out.chg gW fun _ _ => id, HPG.out.o, HPG.out.all, HPG.out.l, HPG.out.cap⟩ (fun W2 c2 => HC0.out.chg (gW.step c2 fun i hi ht => absurd hi (by have := htb i ht; omega)) fun _ _ => id) (hq.o1.rl hT) (hq.o2.rl hT) (hq.o3.rl hT) (by have := HM.out; omega) hq.o2.m hq.o3.m
            unfold Rpd at h1
            rw [HLP.out, HNA.out] at h1
            exact h1 : Calls Tryz.prog 14 #[ptr q, .agg #[.slice x4 m1 y4, .slice x5 m2 y5, .slice x6 m3 y6]] W fun e w' => e = .returned (.int .i64 N0) ∧ Chg T W w' ∧ ∃ T', RG w' z T' q (.slice ca cl cc) L' ∧ ∀ k, T' k → T k ∨ W.heap.size ≤ k))
          have HIDS := hide (fun (W : World) (hg : GS W z S p cs L') => L9.ids_gs hg (by rw [HID.out.2]; have := HM.out; omega))
          have HIDR := hide (fun (W : World) (T' : Nat → Prop) (hg : RG W z T' q (.slice ca cl cc) L') => L9.ids_r hg (by rw [HID.out.2]; have := HM.out; omega))
          rw [HID.out.1, HID.out.2] at HIDS HIDR
          have HD := hide (⟨fun k hk => (HPG.out.r.t hk).1, HST.out.ap, fun (W : World) (c : Chg S wr.drew W) => HST.out.old g4 c, htb⟩ : (∀ k, T k → z ≤ k) ∧ (∀ k, S k → ¬ T k) ∧ (∀ W, Chg S wr.drew W → Grow w W) ∧ ∀ k, T k → w.heap.size ≤ k)
          have qn : (N0 != N0) = false := bne_self_eq_false _
          clear gD g4 hA hQ hTB htb hta htb2 hg hk r0 r1 r2 s0 s1 s2
          go_wp2_with fail
          go_region_held3 (fun W => W.cell? ⟨ta, 0, none⟩ = some (.slice x1 m1 y1) ∧ W.cell? ⟨ta, 1, none⟩ = some (.slice x2 m2 y2) ∧ W.cell? ⟨ta, 2, none⟩ = some (.slice x3 m3 y3) ∧ W.cell? ⟨tb, 0, none⟩ = some (.slice x4 m1 y4) ∧ W.cell? ⟨tb, 1, none⟩ = some (.slice x5 m2 y5) ∧ W.cell? ⟨tb, 2, none⟩ = some (.slice x6 m3 y6)) (first | exact HK1.out _ (Chg.refl _ _) | exact HK1.out _ d10 | exact HK1.out _ d11 | exact HK1.out _ d12 | exact HK1.out _ d13 | exact HK1.out _ d14 | go_keep) (first | (go_at_call 13; refine HAPP.out.mono ?_; rintro e w10 ⟨rfl, c10, h10⟩; have d10 := chl (T := T) c10) | (go_at_call 14; refine (HAPR.out _ c10).mono ?_; rintro e w11 ⟨rfl, c11, T', h11, t11⟩; have d11 := chr d10 c11; have h11' := h10.chg c11 HD.out.1 HD.out.2.1) | (go_at_call 15; refine (HIDS.out _ h11').mono ?_; rintro e w12 ⟨ia, ic, rfl, i12, c12⟩; have d12 := chg0 d11 c12; have h12 := h11.grow c12) | (go_at_call 16; refine (HIDR.out _ _ h12).mono ?_; rintro e w13 ⟨ib, icb, rfl, i13, c13⟩; have d13 := chg0 d12 c13) | (go_at_call 10; refine (L1.same_yes _ _ m1 _ _ l1 _ (own_rd (own_grow i12 c13)) (own_rd i13) (by have := HM.out; omega)).mono ?_; rintro e w14 ⟨rfl, c14⟩; have d14 := chg0 d13 c14))
          have g14 : Grow w11 w14 := (c12.trans c13).trans c14
          have HO := hide (((HD.out.2.2.1 _ c10).step c11 fun i hi ht => absurd hi (by have := HD.out.2.2.2 i ht; omega)).trans g14)
          have HGS2 := hide (h11'.grow g14)
          obtain ⟨v2, rr2, dd2, ow2, hrf⟩ := h11.grow g14
          obtain ⟨va2, vc2, hv⟩ := hrf.val
          subst hv
          have HRF2 := hide hrf
          have HN2 := hide HID.out.2
          have HN240 := hide (show m1 ≤ 1000 from by have := HM.out; omega)
          have kk1 := hrf.cell1
          rw [HID.out.2] at kk1
          clear hrf c10 c11 c12 c13 c14 d10 d11 d12 d13 d14 h10 h11 h11' h12 t11 i12 i13 g14 HK1 HAPP HAPR HIDS HIDR HD qn
          go_wp2_with fail
          clear kk1
          go_loopw [154] (fun vi wr => ∃ k : Nat, k ≤ m1 ∧ vi = .int .i64 k ∧ Grow w14 wr) (fun vi _ => m1 - (Go.RowKit.intOf vi).toNat)
          case atStart => exact ⟨0, Nat.zero_le _, rfl, Chg.refl _ _⟩
          case round =>
            obtain ⟨k, hk, rfl, hg⟩ := hrel
            rcases Nat.eq_or_lt_of_le hk with hke | hlt
            · have hke2 := hke.symm
              subst hke2
              clear hke
              have q1 : decide ((m1 : Int) < m1) = false := by simp
              have HE := hide (HO.out.trans hg)
              clear hg hk
              go_wp2
              go_ret
              exact ⟨rfl, HE.out.below (fun _ _ h => h) (Nat.le_refl _)⟩
            · skip
              have q1 : decide ((k : Int) < m1) = true := decide_eq_true (by omega)
              have q2 : k < m1 := hlt
              obtain ⟨x, hx⟩ : ∃ x, L'[k]? = some x := ⟨_, List.getElem?_eq_getElem (by rw [HN2.out]; exact hlt)⟩
              obtain ⟨i, c, rs, ds, fin⟩ := x
              have hxm := List.mem_of_getElem? hx
              have hok := HGS2.out.ok hxm
              have hnd := nd_mem HGS2.out.srt hxm
              have hw : IntKind.i64.wrap ((k : Int) + 1) = ((k + 1 : Nat) : Int) := (IntWalk.i64_in _ (by have := HN240.out; omega)).trans (by omega)
              obtain ⟨rn, hrn⟩ : ∃ v, rs.length = v := ⟨_, rfl⟩
              obtain ⟨dn, hdn⟩ : ∃ v, ds.length = v := ⟨_, rfl⟩
              have hbd : rn ≤ 1000000 ∧ dn ≤ 1000000 := by
                have h3 := hok.rl
                have h4 := hok.dl
                dsimp only at h3 h4
                omega
              have HBD := hide hbd
              have HNO := hide (L9.node_tn (HGS2.out.grow hg) hok.id2 hnd hrn hdn)
              have hrf := HRF2.out.chg hg fun _ _ => id
              have kk1 := hrf.cell1
              rw [HN2.out] at kk1
              obtain ⟨gn, rfl, -, -, -, x0, xx1, xx2, xx3, x4'⟩ := hrf.at2 hx
              have hbl := (hrf.nds _ hxm).1
              dsimp only at x0 xx1 xx2 xx3 x4' hbl
              rw [hrn] at xx2
              rw [hdn] at xx3
              have HBL := hide (And.intro (L9.blk_rd hbl.1 hrn) (L9.blk_rd hbl.2 hdn))
              obtain ⟨rb, hrb⟩ : ∃ v, rr2 i = v := ⟨_, rfl⟩
              obtain ⟨db, hdb⟩ : ∃ v, dd2 i = v := ⟨_, rfl⟩
              rw [hrb] at xx2 HBL
              rw [hdb] at xx3 HBL
              have HLT := hide hlt
              have HGG := hide hg
              clear hx hxm hok hnd hrn hdn hbd hrf hbl hrb hdb hlt hg hk
              go_wp2_with fail
              refine HNO.out.mono ?_
              rintro e w21 ⟨ar, car, ad, cad, rfl, c1, ta⟩
              have g1 := c1.alloc (.cells #[.int .i64 i, .int .i64 c, .slice ar rn car, .slice ad dn cad, .bool fin] 38)
              have HTN := hide ta
              obtain ⟨b0, b1, b2, b3, b4⟩ := ta.cells
              replace kk1 := Grow.cell g1 kk1
              replace x0 := Grow.cell g1 x0
              replace xx1 := Grow.cell g1 xx1
              replace xx2 := Grow.cell g1 xx2
              replace xx3 := Grow.cell g1 xx3
              replace x4' := Grow.cell g1 x4'
              have HG1 := hide g1
              clear c1 ta g1 HNO
              go_wp2_with fail
              generalize w21.alloc (.cells #[.int .i64 i, .int .i64 c, .slice ar rn car, .slice ad dn cad, .bool fin] 38) = wn at *
              generalize w21.heap.size = nb at *
              have HSM := hide (fun (W : World) (g : Grow wn W) => L9.same_nd i c fin car cad rn dn (HTN.out.grow g).rdR (HTN.out.grow g).rdD (L9.L1.Rd.chg HBL.out.1 (HG1.out.trans g) fun _ _ => id) (L9.L1.Rd.chg HBL.out.2 (HG1.out.trans g) fun _ _ => id) HBD.out.1 HBD.out.2)
              refine wp_region_grow (by kernel_rfl) (by kernel_rfl) ?_
              repeat (
                with_reducible refine wpQuiet_step ?_
                intro K hK
                first
                  | ((with_reducible refine quiet_offT rfl ?_ (hK _ ?_)); focus (refine ⟨_, rfl, ?_⟩; with_reducible rfl))
                  | ((with_reducible refine quiet_offF rfl ?_ (hK _ ?_)); focus (refine ⟨_, rfl, ?_⟩; with_reducible rfl))
                  | ((with_reducible refine quiet_offN rfl ?_ (hK _ ?_)); focus (exact rfl))
                  | ((first | with_reducible refine quiet_free rfl ?_ | ((with_reducible refine quiet_on rfl ?_ ?_); focus (refine ⟨_, rfl, ?_⟩; with_reducible rfl)))
                     apply Exists.intro
                     refine ⟨fun Wq hW => ?_, hK _ ?_⟩
                     focus (have q0 := Grow.cell hW b0; have q1 := Grow.cell hW b1; have q2 := Grow.cell hW b2; have q3 := Grow.cell hW b3; have q4 := Grow.cell hW b4; have q5 := Grow.cell hW kk1; have q6 := Grow.cell hW x0; have q7 := Grow.cell hW xx1; have q8 := Grow.cell hW xx2; have q9 := Grow.cell hW xx3; have q10 := Grow.cell hW x4'; go_simp; first | done | with_reducible rfl | (go_at_call 12; (first | with_reducible exact grown_call hW (HSM.out _ hW) | with_reducible exact grown_same hW (HSM.out _ hW)))))
                clear hK K
                simp only [Act.put, List.setIfInBounds_toArray, List.set_cons_zero, List.set_cons_succ])
              with_reducible refine wpQuiet_nil ?_
              intro w22 c22
              have HN2 := hide ((HGG.out.trans HG1.out).trans c22)
              clear c22 b0 b1 b2 b3 b4 kk1 x0 xx1 xx2 xx3 x4' HSM HTN HBL HBD HG1 HGG
              go_wp2
              go_roundw
              case rel => exact ⟨k + 1, HLT.out, rfl, HN2.out⟩
              case measure => have := HLT.out; simp [Go.RowKit.intOf]; omega
        · skip
          have q1 : decide ((k : Int) < N) = true := decide_eq_true (by omega)
          have q2 : k < N := hlt
          obtain ⟨x, hx⟩ : ∃ x, L[k]? = some x := ⟨_, List.getElem?_eq_getElem (by rw [HN.out]; exact hlt)⟩
          obtain ⟨i, c, rs, ds, fin⟩ := x
          have hxm := List.mem_of_getElem? hx
          have hok := HGS.out.ok hxm
          have hnd := nd_mem HGS.out.srt hxm
          have hw : IntKind.i64.wrap ((k : Int) + 1) = ((k + 1 : Nat) : Int) := (IntWalk.i64_in _ (by have := HN40.out; omega)).trans (by omega)
          obtain ⟨rn, hrn⟩ : ∃ v, rs.length = v := ⟨_, rfl⟩
          obtain ⟨dn, hdn⟩ : ∃ v, ds.length = v := ⟨_, rfl⟩
          have hbd : rn ≤ 1000000 ∧ dn ≤ 1000000 := by
            have h3 := hok.rl
            have h4 := hok.dl
            dsimp only at h3 h4
            omega
          have HBD := hide hbd
          have HNO := hide (L9.node_tn (HGS.out.grow hg) hok.id2 hnd hrn hdn)
          have hrf := HRF9.out.chg hg fun _ _ => id
          have kk1 := hrf.cell1
          rw [HN.out] at kk1
          obtain ⟨gn, rfl, -, -, -, x0, xx1, xx2, xx3, x4'⟩ := hrf.at2 hx
          have hbl := (hrf.nds _ hxm).1
          dsimp only at x0 xx1 xx2 xx3 x4' hbl
          rw [hrn] at xx2
          rw [hdn] at xx3
          have HBL := hide (And.intro (L9.blk_rd hbl.1 hrn) (L9.blk_rd hbl.2 hdn))
          obtain ⟨rb, hrb⟩ : ∃ v, rr i = v := ⟨_, rfl⟩
          obtain ⟨db, hdb⟩ : ∃ v, dd i = v := ⟨_, rfl⟩
          rw [hrb] at xx2 HBL
          rw [hdb] at xx3 HBL
          have HLT := hide hlt
          have HGG := hide hg
          clear hx hxm hok hnd hrn hdn hbd hrf hbl hrb hdb hlt hg hk
          go_wp2_with fail
          refine HNO.out.mono ?_
          rintro e w21 ⟨ar, car, ad, cad, rfl, c1, ta⟩
          have g1 := c1.alloc (.cells #[.int .i64 i, .int .i64 c, .slice ar rn car, .slice ad dn cad, .bool fin] 38)
          have HTN := hide ta
          obtain ⟨b0, b1, b2, b3, b4⟩ := ta.cells
          replace kk1 := Grow.cell g1 kk1
          replace x0 := Grow.cell g1 x0
          replace xx1 := Grow.cell g1 xx1
          replace xx2 := Grow.cell g1 xx2
          replace xx3 := Grow.cell g1 xx3
          replace x4' := Grow.cell g1 x4'
          have HG1 := hide g1
          clear c1 ta g1 HNO
          go_wp2_with fail
          generalize w21.alloc (.cells #[.int .i64 i, .int .i64 c, .slice ar rn car, .slice ad dn cad, .bool fin] 38) = wn at *
          generalize w21.heap.size = nb at *
          have HSM := hide (fun (W : World) (g : Grow wn W) => L9.same_nd i c fin car cad rn dn (HTN.out.grow g).rdR (HTN.out.grow g).rdD (L9.L1.Rd.chg HBL.out.1 (HG1.out.trans g) fun _ _ => id) (L9.L1.Rd.chg HBL.out.2 (HG1.out.trans g) fun _ _ => id) HBD.out.1 HBD.out.2)
          refine wp_region_grow (by kernel_rfl) (by kernel_rfl) ?_
          repeat (
            with_reducible refine wpQuiet_step ?_
            intro K hK
            first
              | ((with_reducible refine quiet_offT rfl ?_ (hK _ ?_)); focus (refine ⟨_, rfl, ?_⟩; with_reducible rfl))
              | ((with_reducible refine quiet_offF rfl ?_ (hK _ ?_)); focus (refine ⟨_, rfl, ?_⟩; with_reducible rfl))
              | ((with_reducible refine quiet_offN rfl ?_ (hK _ ?_)); focus (exact rfl))
              | ((first | with_reducible refine quiet_free rfl ?_ | ((with_reducible refine quiet_on rfl ?_ ?_); focus (refine ⟨_, rfl, ?_⟩; with_reducible rfl)))
                 apply Exists.intro
                 refine ⟨fun Wq hW => ?_, hK _ ?_⟩
                 focus (have q0 := Grow.cell hW b0; have q1 := Grow.cell hW b1; have q2 := Grow.cell hW b2; have q3 := Grow.cell hW b3; have q4 := Grow.cell hW b4; have q5 := Grow.cell hW kk1; have q6 := Grow.cell hW x0; have q7 := Grow.cell hW xx1; have q8 := Grow.cell hW xx2; have q9 := Grow.cell hW xx3; have q10 := Grow.cell hW x4'; go_simp; first | done | with_reducible rfl | (go_at_call 12; (first | with_reducible exact grown_call hW (HSM.out _ hW) | with_reducible exact grown_same hW (HSM.out _ hW)))))
            clear hK K
            simp only [Act.put, List.setIfInBounds_toArray, List.set_cons_zero, List.set_cons_succ])
          with_reducible refine wpQuiet_nil ?_
          intro w22 c22
          have HN2 := hide ((HGG.out.trans HG1.out).trans c22)
          clear c22 b0 b1 b2 b3 b4 kk1 x0 xx1 xx2 xx3 x4' HSM HTN HBL HBD HG1 HGG
          go_wp2
          go_roundw
          case rel => exact ⟨k + 1, HLT.out, rfl, HN2.out⟩
          case measure => have := HLT.out; simp [Go.RowKit.intOf]; omega
    · have q1 : decide ((k : Int) < N) = true := decide_eq_true (by omega)
      have q2 : k < N := hlt
      obtain ⟨x, hx⟩ : ∃ x, L[k]? = some x := ⟨_, List.getElem?_eq_getElem (by rw [HN.out]; exact hlt)⟩
      have hxm := List.mem_of_getElem? hx
      have hw : IntKind.i64.wrap ((k : Int) + 1) = ((k + 1 : Nat) : Int) := (IntWalk.i64_in _ (by have := HN40.out; omega)).trans (by omega)
      have hrf := HRF.out.chg (HG5.out.trans hg) fun _ _ => id
      have kk1 := hrf.cell1
      rw [HN.out] at kk1
      obtain ⟨gn, rfl, -, -, -, x0, -⟩ := hrf.at2 hx
      have hst := L10.clL_step (q := kB B) hx
      have hnd : nd L x.id ≠ none := by rw [nd_mem HL40.out.2 hxm]; simp
      have HKX := hide (fun (W : World) => HKE.out W x.id hnd)
      have kb0 := (HB2.out.chg (HG5.out.trans hg) id).cell 0
      obtain ⟨id, hid⟩ : ∃ i, x.id = i := ⟨_, rfl⟩
      rw [hid] at x0 hst HKX
      have hln : (clL (L.take k) (kB B)).length ≤ 1000 := by
        have h1 := clL_le (L.take k) (kB B)
        rw [List.length_take, HN.out] at h1
        have := HN40.out
        omega
      obtain ⟨M, hM⟩ : ∃ M, (clL (L.take k) (kB B)).length = M := ⟨_, rfl⟩
      obtain ⟨ka, kc, hv, -⟩ := hol.form
      rw [hM] at hv
      subst hv
      obtain ⟨kb, hkb⟩ : ∃ v, kB B id = v := ⟨_, rfl⟩
      rw [hkb] at hst HKX
      have HOL := hide hol
      have HLN := hide (And.intro hln hM)
      have HLT := hide hlt
      have HGG := hide hg
      cases kb with
      | false =>
        rw [if_neg (by simp), List.append_nil] at hst
        have HST2 := hide hst
        clear hx hxm hrf hst hnd hid hkb hol hg hlt hk hln hM
        go_wp2_with fail
        refine wp_region_grow (by kernel_rfl) (by kernel_rfl) ?_
        repeat (
          with_reducible refine wpQuiet_step ?_
          intro K hK
          first
            | ((with_reducible refine quiet_offT rfl ?_ (hK _ ?_)); focus (refine ⟨_, rfl, ?_⟩; with_reducible rfl))
            | ((with_reducible refine quiet_offF rfl ?_ (hK _ ?_)); focus (refine ⟨_, rfl, ?_⟩; with_reducible rfl))
            | ((with_reducible refine quiet_offN rfl ?_ (hK _ ?_)); focus (exact rfl))
            | ((first | with_reducible refine quiet_free rfl ?_ | ((with_reducible refine quiet_on rfl ?_ ?_); focus (refine ⟨_, rfl, ?_⟩; with_reducible rfl)))
               apply Exists.intro
               refine ⟨fun Wq hW => ?_, hK _ ?_⟩
               focus (have q0 := Grow.cell hW kk1; have q1 := Grow.cell hW x0; have q2 := Grow.cell hW kb0; go_simp; first | done | with_reducible rfl | (go_at_call 8; (first | with_reducible exact grown_call hW (HKX.out _) | with_reducible exact grown_same hW (HKX.out _)))))
          clear hK K
          simp only [Act.put, List.setIfInBounds_toArray, List.set_cons_zero, List.set_cons_succ])
        with_reducible refine wpQuiet_nil ?_
        intro w22 c22
        have HN2 := hide (And.intro (HOL.out.grow c22) (HGG.out.trans c22))
        clear c22 kk1 x0 kb0 HOL HGG HKX
        go_wp2
        go_roundw
        case rel => exact ⟨k + 1, HLT.out, rfl, by rw [HST2.out]; exact HN2.out.1, HN2.out.2⟩
        case measure => have := HLT.out; simp [Go.RowKit.intOf]; omega
      | true =>
        rw [if_pos rfl] at hst
        have HST2 := hide hst
        clear hx hxm hrf hst hnd hid hkb hol hg hlt hk hln hM
        go_wp2_with fail
        refine wp_region_grow (by kernel_rfl) (by kernel_rfl) ?_
        repeat (
          with_reducible refine wpQuiet_step ?_
          intro K hK
          first
            | ((with_reducible refine quiet_offT rfl ?_ (hK _ ?_)); focus (refine ⟨_, rfl, ?_⟩; with_reducible rfl))
            | ((with_reducible refine quiet_offF rfl ?_ (hK _ ?_)); focus (refine ⟨_, rfl, ?_⟩; with_reducible rfl))
            | ((with_reducible refine quiet_offN rfl ?_ (hK _ ?_)); focus (exact rfl))
            | ((first | with_reducible refine quiet_free rfl ?_ | ((with_reducible refine quiet_on rfl ?_ ?_); focus (refine ⟨_, rfl, ?_⟩; with_reducible rfl)))
               apply Exists.intro
               refine ⟨fun Wq hW => ?_, hK _ ?_⟩
               focus (have q0 := Grow.cell hW kk1; have q1 := Grow.cell hW x0; have q2 := Grow.cell hW kb0; go_simp; first | done | with_reducible rfl | (go_at_call 8; (first | with_reducible exact grown_call hW (HKX.out _) | with_reducible exact grown_same hW (HKX.out _)))))
          clear hK K
          simp only [Act.put, List.setIfInBounds_toArray, List.set_cons_zero, List.set_cons_succ])
        with_reducible refine wpQuiet_nil ?_
        intro w22 c22
        replace kk1 := Grow.cell c22 kk1
        replace x0 := Grow.cell c22 x0
        have gB := Grow.box w22 (.cells [.int .i64 id].toArray 3)
        obtain ⟨v', W3, hr, ho3, hg3, -⟩ := L10.app_more (c0 := 1) ((HGG.out.trans c22).trans gB) (HOL.out.grow (c22.trans gB)) (L1.Rd.of_blk (Blk.new w22 3 [.int .i64 id]) rfl : L1.Rd _ _ 1 [id]) (by have := HLN.out.1; omega)
        rw [← HST2.out] at ho3
        have HN2 := hide (And.intro ho3 hg3)
        have KA := hide hr
        clear c22 kb0 HOL HGG HKX hr ho3 hg3 gB HLN
        go_wp2_with (at_builtin; refine wpList_app rfl _ _ 27 rfl (.slice ka M kc) (.slice (some ⟨w22.heap.size, 0, none⟩) 1 1) v' _ W3 rfl rfl KA.out ?_)
        go_roundw
        case rel => exact ⟨k + 1, HLT.out, rfl, HN2.out.1, HN2.out.2⟩
        case measure => have := HLT.out; simp [Go.RowKit.intOf]; omega
theorem walk (u : Wo) (cs : List Cl) (ns : List Int) (ts : List Tr) (a1 : Option Addr) (len1 cap1 : Nat) (zs : List Int) (b : Int) (w : World) (h0 : IsWo w u cs ns ts) (h1 : IsRow .i64 w a1 len1 cap1 zs) (h2 : (Lit.int .u64 b).wf = true) :
    Calls Tryz.prog 3 #[Wo.v u, .slice a1 len1 cap1, .int .u64 b] w fun e w' => e = .returned (.bool true) ∧ Below w.heap.size w w' := by
  obtain ⟨B, rfl, hB⟩ := nat_u64 h2
  by_cases hg : good u cs
  · by_cases hl : 40 < len1
    · exact walk_no h0 h1 (.inr ⟨hg, hl⟩)
    · exact walk_main h0 h1 hg (by omega) hB
  · exact walk_no h0 h1 (.inl hg)
end
theorem own : ownKnob Tryz.prog.godebug = none := by kernel_rfl
theorem laidOut : laidOutB Tryz.prog = true := by kernel_rfl

set_option maxRecDepth 100000 in
theorem lifted (os : Os) (started : os.Started) (H : Type) (enc : TypeId × Value → H) :
    ReturnsInHanded {} Tryz.checked os 3 .any (Rows.processTellsSpec.pre6 enc Tryz.prog Tryz.f3 Rows.processTellsRow.domain false) (Rows.processTellsSpec.post enc Tryz.prog Tryz.f3 false true false false) := by
  refine returnsInHanded_of_change (C := Tryz.checked) own started (by kernel_rfl) Tryz.func3
    (ChangeSpec.witness6 (enc := enc) (C := Tryz.checked) false ⟨#[], #[.agg #[.slice none 0 0, .slice none 0 0, .slice none 0 0], .slice none 0 0, .int .u64 0], []⟩ 8 (by kernel_rfl) (by kernel_rfl) (by kernel_rfl) (by kernel_rfl)) ?_
  intro W base args ds gs before hval0 hW hcnd _
  have hval : ∀ (j : Nat) t v, Tryz.f3.params[j]? = some t → args[j]? = some v → Value.okWide Tryz.prog W .any base t v := hval0
  have hW' := hW
  obtain ⟨p, q, hA0, hV, rfl, hfz, hnd⟩ := hW
  have hA : DataW.TrodAll enc Tryz.prog W 0 (fun _ => true) true Tryz.f3.params.toList args.toList ds p := hA0
  rw [Tryz.params3] at hA hval
  obtain ⟨v0, vs0, d0, ds0, p0, q0, hargs, rfl, rfl, h0, r0⟩ := trodAll_cons hA
  obtain ⟨v1, vs1, d1, ds1, p1, q1, rfl, rfl, rfl, h1, r1⟩ := trodAll_cons r0
  obtain ⟨v2, vs2, d2, ds2, p2, q2, rfl, rfl, rfl, h2, r2⟩ := trodAll_cons r1
  obtain ⟨rfl, rfl, rfl⟩ := trodAll_nil r2
  obtain rfl : args = #[v0, v1, v2] := by cases args; simp_all
  obtain ⟨rfl, rfl⟩ := trodVars_none hV
  have k0 := h0
  have lt0 : ∀ x ∈ p0, x.block < W.heap.size := by obtain ⟨m, hm⟩ := k0; exact DataW.trod_lt m _ _ _ hm
  obtain ⟨u0, cs0, ns0, ts0, rfl, w0⟩ := open_world (hval 0 26 v0 rfl rfl) h0
  obtain ⟨a1, len1, cap1, rfl⟩ := okWide_slice Tryz.underlying27 (hval 1 27 v1 rfl rfl)
  have k1 := h1
  have lt1 : ∀ x ∈ p1, x.block < W.heap.size := by obtain ⟨m, hm⟩ := k1; exact DataW.trod_lt m _ _ _ hm
  obtain ⟨z1, w1⟩ : ∃ zs, IsRow .i64 W a1 len1 cap1 zs := open_row Tryz.underlying27 Tryz.underlying3 (by kernel_rfl) h1
  obtain ⟨a2, rfl, rfl, rfl, w2⟩ := open_int Tryz.underlying28 (hval 2 28 v2 rfl rfl) h2
  clear hA0 hval0
  refine (walk u0 cs0 ns0 ts0 a1 len1 cap1 z1 a2 W w0 w1 w2).mono fun e W' ⟨he, bel⟩ => ?_
  subst he
  exact ⟨_, rfl, _, _, _, [], _, [], hW', trodAll_mk1 (shut_bool Tryz.underlying4 _), (trodAll_cons_mk (Below.trod laidOut (by kernel_rfl) (of_decide_eq_true (by kernel_rfl)) k0 bel lt0) (trodAll_cons_mk (Below.trod laidOut (by kernel_rfl) (of_decide_eq_true (by kernel_rfl)) k1 bel lt1) (trodAll_cons_mk (shut_int Tryz.underlying28 w2) trodAll_mk0))), rfl, bel.frame _, fun h => by cases h⟩

theorem over : Rows.processTellsRow.holds Tryz.pinned (OpenSpec.ofChange Rows.processTellsSpec) :=
  OpenClaim.holds_of_wide 3 Tryz.f3 rfl rfl rfl rfl rfl rfl rfl ⟨rfl, rfl, rfl, rfl, rfl⟩ rfl rfl rfl rfl rfl (by kernel_rfl) Tryz.func3 (by kernel_rfl)
    (of_decide_eq_true (by kernel_rfl)) (by unfold Func.isWrapper; first | (rw [if_pos (by decide +kernel)]; kernel_rfl) | (rw [if_neg (by decide +kernel)]; exact ⟨rfl, rfl⟩))
    (fun os started H enc _ => lifted os started H enc)

/-- The statement. -/
theorem proved : Rows.ProcessTellsSaid := over
#print axioms proved
end Go.Proofs.YtjfpjnhlnoiekaaGreat.processTells


/- For all arguments ScavengeKeeps answers true: what is reached from the roots, and from all old objects, is as it was, in the same shape, with the same numbers, wherever it lies now. Conditions: none. -/
import Derived.Test.YtogfjclmohpjkaaGreatL15KA
import Derived.ShutString
namespace Go.Proofs.YtogfjclmohpjkaaGreat.scavengeKeeps
open Go.ChangeShapes Go.WideShapes Go.ChangeAt Go.RowKit Go.Deep Go.Proofs.YtogfjclmohpjkaaGreat.L15
open Go.Proofs.YtogfjclmohpjkaaGreat.L1 (ptr Ar)
open Go.Proofs.YtogfjclmohpjkaaGreat.L5 (Cl IsCls newX Tb)
open Go.Proofs.YtogfjclmohpjkaaGreat.L6 (stV St)
open Go.Proofs.YtogfjclmohpjkaaGreat.L7 (Ct tset tb_touch inn cd isd)
open Go.Proofs.YtogfjclmohpjkaaGreat.L3 (no)
set_option linter.unusedVariables false
set_option maxRecDepth 100000
set_option maxHeartbeats 20000000 in
theorem walk (u : Wo) (cs : List Cl) (gs : List Tg) (ts : List Tr) (zs : List Int) (w : World) (h : IsWo w u cs gs ts zs) :
    Calls Tryz.prog 3 #[Wo.v u] w fun e w' => e = .returned (.bool true) ∧ Below w.heap.size w w' := by
  obtain ⟨ca, cl, cc, ta, tl, tc, ra0, rl, rc0, za, zl, zc, hf, th⟩ := u
  obtain ⟨hb, gB, -⟩ := boxes1 w 27 [.slice ca cl cc, .slice ta tl tc, .slice ra0 rl rc0, .slice za zl zc, .int .u8 hf, .int .u8 th]
  have HU := hide (h.chg gB fun _ _ => id)
  have HG := hide gB
  obtain ⟨k0, k1, k2, k3, k4, k5⟩ := hb.cell6
  clear h gB
  go_enter Tryz.func3, Tryz.ntmps3
  go_wp2_with fail
  clear k0 k1 k2 k3 k4 k5
  generalize w.alloc (.cells #[.slice ca cl cc, .slice ta tl tc, .slice ra0 rl rc0, .slice za zl zc, .int .u8 hf, .int .u8 th] 27) = w1 at *
  generalize w.heap.size = bw at *
  clear hb
  refine (made_any HU.out).mono ?_
  rintro e w3 ⟨CL, ok, rfl, hln, h21, hone, c3, hq⟩
  have HQ := hide hq
  have HG3 := hide (HG.out.trans c3)
  have HLN := hide hln
  have H21 := hide h21
  have HONE := hide hone
  have HBL := hide (Blk.new w3 39 lf0)
  clear hq c3 hln h21 hone
  go_upto_region 2 with (refine wpList_store_row rfl 39 _ _ rfl w3.heap.size CL.toArray (by rfl) (by rfl) 39 lf0.toArray HBL.out H21.out HLN.out HONE.out ?_)
  obtain ⟨hp, gp⟩ := new_life w3 CL
  clear HBL H21 HLN HONE
  generalize (w3.alloc (.cells lf0.toArray 39)).setRow w3.heap.size CL.toArray = w4 at *
  generalize hpe : w3.heap.size = p at *
  have HG4 := hide (HG3.out.trans gp)
  have HP4 := hide hp
  have HGP := hide gp
  have HPE := hide hpe
  clear hp gp hpe HG3
  go_wp2_with fail
  refine (awake_any _).mono ?_
  rintro e w5 ⟨rfl, c5⟩
  have HG5 := hide (HG4.out.trans c5)
  have HC5 := hide c5
  clear c5
  rcases HQ.out with ⟨rfl, -⟩ | ⟨rfl, hgd, xs, z, yl, b, tp, g, pc, mc, gc, av, rv, rfl, m⟩
  · skip
    go_wp2_with fail
    refine (awake_any _).mono ?_
    rintro e w6 ⟨rfl, c6⟩
    have HG6 := hide (HG5.out.trans c6)
    clear c6
    go_wp2
    go_ret
    exact ⟨rfl, HG6.out.below (fun _ _ h => h) (Nat.le_refl _)⟩
  have hp := HP4.out
  have hzn : ((finF cs (hf % 101) (th % 8) gs ts zs).zs).length = zl := by
    show (zs.map _).length = zl
    rw [List.length_map]
    exact HU.out.z.1
  have hcs : (finF cs (hf % 101) (th % 8) gs ts zs).cs = cs := fin_cs.1
  have hfn : (finF cs (hf % 101) (th % 8) gs ts zs).n = 1000 := m.bd.n
  have hz20 : zl ≤ 20 := hgd.2.2.1
  obtain ⟨ra, rc, rfl, hrd⟩ := ((m.rl.grow HGP.out).grow HC5.out).form
  rw [hzn] at hrd hp
  dsimp only at m hp
  obtain ⟨F, hF⟩ : ∃ F, finF cs (hf % 101) (th % 8) gs ts zs = F := ⟨_, rfl⟩
  obtain ⟨A, hA⟩ : ∃ A, (fin0 cs (hf % 101) (th % 8) gs ts).zs = A := ⟨_, rfl⟩
  rw [hF] at m hp
  rw [hA] at m
  have HF := hide hF
  have HA := hide hA
  have HD := hide ((m.sd.grow HGP.out).grow HC5.out)
  have HM := hide m
  have HP5 := hide (hp.chg HC5.out id)
  have HNP := hide (show ¬ p = g ∧ ¬ p = gc ∧ w.heap.size ≤ g ∧ w.heap.size ≤ gc ∧ p < w5.heap.size from by
    have h1 := m.pl
    have h2 := m.lo.gz
    have h3 := HPE.out
    have h4 := HG.out.size
    have h5 := (hp.chg HC5.out id).lt
    exact ⟨by omega, by omega, by omega, by omega, h5⟩)
  clear hF hA m hp
  have HZN := hide (show F.zs.length = zl ∧ F.cs = cs ∧ F.n = 1000 ∧ zl ≤ 20 from by rw [← HF.out]; exact ⟨hzn, hcs, hfn, hz20⟩)
  rw [HF.out] at hrd
  have HRD := hide hrd
  have HYL := hide HM.out.ylo
  have HZR := hide HM.out.zr
  clear hzn hcs hfn hz20 hrd hgd HQ HP4
  have hol := lolds_any HD.out.lo.st HP5.out (t := F.y.OT) (by have := HD.out.wf.ok.o; omega) (by have h1 := HD.out.wf.so.wk HD.out.wf.rt; rw [HD.out.o.1] at h1; exact h1)
  obtain ⟨-, -, -, c5, -⟩ := lf_rc HP5.out
  have HOL := hide hol
  clear hol
  go_wp2_with fail
  clear c5
  refine HOL.out.mono ?_
  rintro e w6 ⟨ov, rfl, hov, c6⟩
  obtain ⟨oa, oc, rfl, hor⟩ := hov.form
  obtain ⟨ON, hON⟩ : ∃ ON, F.OS.length = ON := ⟨_, rfl⟩
  rw [hON] at hor
  rw [hON]
  have hoblk : ∀ x : Addr, oa = some x → x.block < w6.heap.size := fun x e => (hov.lt x.block (by subst e; rfl)).2
  have hfr : ∀ x ∈ F.zs ++ F.OS, x = 0 ∨ x ∈ F.all := fun x hx => (List.mem_append.1 hx).elim (HZR.out x) fun h => .inr (List.mem_append_left _ h)
  obtain ⟨res, hres⟩ := ex_rch (ob := F.ob) (L := F.all) HD.out.wf.cl hfr
  obtain ⟨CAN, hCAN⟩ : ∃ CAN, canL F.ob (F.zs ++ F.OS) res = CAN := ⟨_, rfl⟩
  have hln := HD.out.wf.len3 HYL.out
  have hln2 : F.OS.length ≤ 10000 := by
    simp only [Fx.all, List.length_append] at hln
    omega
  have hfl : (F.zs ++ F.OS).length < 100000 := by rw [List.length_append, HZN.out.1]; have := HZN.out.2.2.2; omega
  have HCL := hide (HD.out.can_len HYL.out hfl hfr hres)
  rw [hCAN] at HCL
  have HLN := hide (show zl ≤ 100000 ∧ ON ≤ 100000 from ⟨by have := HZN.out.2.2.2; omega, by omega⟩)
  have HFL := hide (show zl + ON < 100000 by have := HZN.out.2.2.2; omega)
  have HFR := hide hfr
  have HRS := hide hres
  have HCAN := hide hCAN
  have HG6 := hide (HG5.out.trans c6)
  have HD6 := hide (HD.out.grow c6)
  have HP6 := hide (HP5.out.chg c6 id)
  have HR6 := hide (HRD.out.grow c6)
  have HHOR := hide hor
  have HOB2 := hide (fun (x : Addr) (e : oa = some x) => show ¬ x.block = g ∧ ¬ x.block = gc from by
    have h1 := (hov.lt x.block (by subst e; rfl)).1
    have h2 := HD.out.lo.st.lt
    have h3 := HD.out.ct.glt
    exact ⟨by omega, by omega⟩)
  have HOB := hide hoblk
  have HON5 := hide (show F.OS.length = ON from hON)
  have HB1 := hide (show w.heap.size ≤ w1.heap.size ∧ w1.heap.size ≤ w6.heap.size from ⟨HG.out.size, ((((HM.out.gr.trans HGP.out).trans HC5.out).trans c6)).size⟩)
  have HIC : Hid (IsCls w6 ca cl cc F.cs) := hide (by
    rw [HZN.out.2.1]
    exact HU.out.c.chg (((HM.out.gr.trans HGP.out).trans HC5.out).trans c6) fun _ _ => id)
  have HST := hide (fun W (c' : Grow w6 W) => lstore_any (HD6.out.grow c').lo.st (HP6.out.chg c' id) (HD6.out.wf.n.trans HZN.out.2.2.1))
  have HRR := hide (fun W (c' : Grow w6 W) => And.intro (HR6.out.grow c') (HHOR.out.grow c'))
  have HCN := hide (fun W q zq fa fc (c' : Grow w6 W) (h1 : L1.RAr W q zq xs) (h2 : L1.Rd W fa (zl + ON) (F.zs ++ F.OS)) => (HD6.out.grow c').canon (fc := fc) HZN.out.2.2.1 HYL.out h1 (HIC.out.chg c' fun _ _ => id) h2 HFL.out HFR.out HRS.out)
  rw [hCAN] at HCN
  have HGW := hide (((HM.out.gr.trans HGP.out).trans HC5.out).trans c6)
  have HK := hide (fun W (c' : Grow w6 W) => show W.cell? ⟨p, 18, none⟩ = some (.slice ra zl rc) from (HP6.out.chg c' id).cell 18)
  clear hfr hres hCAN hln hln2 hfl c6 hov hor hoblk hON HOL HRD HP5 HD HG4 HG5
  go_upto_region 5 with fail
  go_cut [6] from 27 (fun v wx => OL wx w6.heap.size v CAN ∧ Grow w6 wx)
  case first =>
    have hk0 := hide (HK.out w6 (Chg.refl _ _))
    have hk1 := hide (HK.out w6.drew (Chg.drew (Chg.refl _ _)))
    have hk2 := hide (HK.out (w6.alloc (.cells #[] 3)).drew (Chg.drew ((Chg.refl _ _).alloc _)))
    have hk2' := hide (HK.out (w6.drew.alloc (.cells #[] 3)) ((Chg.drew (Chg.refl _ _)).alloc _))
    go_region_held3 (fun W => W.cell? ⟨p, 18, none⟩ = some (.slice ra zl rc))
      (first | with_reducible exact hk0.out | with_reducible exact hk1.out | with_reducible exact hk2.out | with_reducible exact hk2'.out | with_reducible exact hk3.out | with_reducible exact hk4.out | with_reducible exact hk5.out | with_reducible exact hk6.out | with_reducible exact hk7.out)
      (first
        | (go_at_call 11; (with_reducible refine (HST.out _ (Chg.drew (Chg.refl _ _))).mono ?_); rintro e w7 ⟨q, zq, rfl, hra, g7, u1, u2⟩; (have G7 := Chg.trans (Chg.drew (Chg.refl (fun _ => False) w6)) g7); (have hk3 := hide (HK.out w7 G7)); (have gA := Grow.box w7 (.cells #[] 3)); (have hk4 := hide (HK.out (w7.alloc (.cells #[] 3)) (G7.trans gA))); (obtain ⟨x1, y1, W1, x2, y2, W2, e1, e2, r2, k1, k2, d2⟩ := two_apps (w0 := w7) (c1 := rc) (c2 := oc) gA (OL.lit w7 [] (by simp)) (HRR.out _ (G7.trans gA)).1 (HRR.out _ (G7.trans gA)).2 (fun x e h => by (have h1 := lit_own h); (have h2 := HOB.out x e); (have h3 := G7.size); omega) HLN.out.1 HLN.out.2); (have K1 := hide e1); (have K2 := hide e2); (have HR2 := hide r2); clear e1 e2 r2; (have GW := G7.trans k2); (have hk5 := hide (HK.out W1 (G7.trans k1))); (have hk6 := hide (HK.out W2 GW)); (have HRA := hide (hra.chg k2 id id)))
        | (go_at_call 11; (with_reducible refine (HST.out _ (Chg.drew ((Chg.refl _ _).alloc _))).mono ?_); rintro e w7 ⟨q, zq, rfl, hra, g7, u1, u2⟩; (have G7 : Grow w6 w7 := Chg.trans (Chg.drew ((Chg.refl (fun _ => False) w6).alloc (.cells #[] 3))) g7); (have hk3 := hide (HK.out w7 G7)); (have hO0 : OL (w6.alloc (.cells #[] 3)).drew w6.heap.size (.slice (some ⟨w6.heap.size, 0, none⟩) 0 0) [] := OL.lit w6 [] (by simp)); (have g7' : Grow (w6.alloc (.cells #[] 3)).drew w7 := g7); (have hO := hO0.grow g7'); (obtain ⟨x1, y1, W1, x2, y2, W2, e1, e2, r2, k1, k2, d2⟩ := two_apps (w0 := w6) (c1 := rc) (c2 := oc) G7 hO (HRR.out _ G7).1 (HRR.out _ G7).2 (fun x e h => by (have h1 := lit_own h); (have h2 := HOB.out x e); omega) HLN.out.1 HLN.out.2); (have K1 := hide e1); (have K2 := hide e2); (have HR2 := hide r2); clear e1 e2 r2; (have GW := k2); (have hk5 := hide (HK.out W1 k1)); (have hk6 := hide (HK.out W2 GW)); (have hs1 := alloc_size w6 (.cells #[] 3)); (have u1' : (w6.alloc (.cells #[] 3)).heap.size ≤ q := u1); (have u2' : (w6.alloc (.cells #[] 3)).heap.size ≤ zq := u2); (have HRA := hide (hra.chg d2 (fun h => by (have h1 := lit_own h); omega) (fun h => by (have h1 := lit_own h); omega))))
        | (go_at_call 11; (with_reducible refine (HST.out _ ((Chg.drew (Chg.refl _ _)).alloc _)).mono ?_); rintro e w7 ⟨q, zq, rfl, hra, g7, u1, u2⟩; (have G7 : Grow w6 w7 := Chg.trans (Chg.drew ((Chg.refl (fun _ => False) w6).alloc (.cells #[] 3))) g7); (have hk3 := hide (HK.out w7 G7)); (have hO0 : OL (w6.alloc (.cells #[] 3)).drew w6.heap.size (.slice (some ⟨w6.heap.size, 0, none⟩) 0 0) [] := OL.lit w6 [] (by simp)); (have g7' : Grow (w6.alloc (.cells #[] 3)).drew w7 := g7); (have hO := hO0.grow g7'); (obtain ⟨x1, y1, W1, x2, y2, W2, e1, e2, r2, k1, k2, d2⟩ := two_apps (w0 := w6) (c1 := rc) (c2 := oc) G7 hO (HRR.out _ G7).1 (HRR.out _ G7).2 (fun x e h => by (have h1 := lit_own h); (have h2 := HOB.out x e); omega) HLN.out.1 HLN.out.2); (have K1 := hide e1); (have K2 := hide e2); (have HR2 := hide r2); clear e1 e2 r2; (have GW := k2); (have hk5 := hide (HK.out W1 k1)); (have hk6 := hide (HK.out W2 GW)); (have hs1 := alloc_size w6 (.cells #[] 3)); (have u1' : (w6.alloc (.cells #[] 3)).heap.size ≤ q := u1); (have u2' : (w6.alloc (.cells #[] 3)).heap.size ≤ zq := u2); (have HRA := hide (hra.chg d2 (fun h => by (have h1 := lit_own h); omega) (fun h => by (have h1 := lit_own h); omega))))
        | (refine step_app (by rfl) _ _ _ (by rfl) (.slice (some ⟨w7.heap.size, 0, none⟩) 0 0) (.slice ra zl rc) (.slice x1 zl y1) W1 (by rfl) (by rfl) (by exact K1.out) ?_)
        | (refine step_app (by rfl) _ _ _ (by rfl) (.slice (some ⟨w6.heap.size, 0, none⟩) 0 0) (.slice ra zl rc) (.slice x1 zl y1) W1 (by rfl) (by rfl) (by exact K1.out) ?_)
        | (refine step_app (by rfl) _ _ _ (by rfl) (.slice x1 zl y1) (.slice oa ON oc) (.slice x2 (zl + ON) y2) W2 (by rfl) (by rfl) (by exact K2.out) ?_)
        | (go_at_call 10; (with_reducible refine (HCN.out W2 q zq x2 y2 GW HRA.out HR2.out).mono ?_); rintro e w8 ⟨v8, rfl, hv8, g8⟩; (have hk7 := hide (HK.out w8 (GW.trans g8))))
        | fail)
    all_goals (
      go_wp2_with fail
      go_meet
      case rel => exact ⟨hv8.lower GW.size, GW.trans g8⟩)
  case rest =>
    obtain ⟨hv, c8⟩ := hcut
    obtain ⟨wa, wcap, rfl, hwr⟩ := hv.form
    have HV := hide hv
    have HWR := hide hwr
    have HD8 := hide (HD6.out.grow c8)
    have HP8 := hide (HP6.out.chg c8 id)
    have HR8 := hide (HRR.out _ c8)
    have HG8 := hide (HG6.out.trans c8)
    have HGW8 := hide (HGW.out.trans c8)
    have HS8 := hide (show w6.heap.size ≤ wc.heap.size from c8.size)
    have HB8 := hide (fun (x : Addr) (e : wa = some x) => show w6.heap.size ≤ x.block ∧ x.block < wc.heap.size from hv.lt x.block (by subst e; rfl))
    have HRUN := hide (HD8.out.run (rc := rc) HR8.out.1 (by have := HLN.out; omega) HZR.out)
    have HGG := hide (show g < w6.heap.size ∧ gc < w6.heap.size ∧ w1.heap.size ≤ g ∧ w1.heap.size ≤ gc ∧ z ≤ w6.heap.size from by
      have h1 := HD6.out.lo.st.lt
      have h2 := HD6.out.ct.glt
      have h3 := HM.out.pl
      have h4 := HD6.out.zw
      exact ⟨h1, h2, by omega, by omega, h4⟩)
    clear hv hwr c8 HST HRR HCN HK HP6 HG6 HGW HR6
    obtain ⟨c0, c1, c4, c5, c6, c7, c8, c9, c10, c11, c12, c13, c14, c15, c16, c18, c19⟩ := lf_rc HP8.out
    go_wp2_with fail
    clear c0 c1 c4 c5 c6 c7 c8 c9 c10 c11 c12 c13 c14 c15 c16 c18 c19
    refine HRUN.out.mono ?_
    rintro e w9 (⟨hf, rfl, c9⟩ | ⟨-, v, rs, s, rfl, R⟩)
    · as_aux_lemma =>
      have HG9 := hide (HG8.out.trans c9)
      have hp9 := HP8.out.chg c9 id
      clear c9
      go_upto_region 8 with fail
      have gq := Grow.box w9 (.cells [.int .i64 0, .int .i64 0, .int .i64 0, .int .i64 0, .int .i64 0, .int .i64 0, .int .i64 0, .int .i64 0, .int .i64 0, .int .i64 0, .int .i64 0, .int .i64 0, .int .i64 0].toArray 35)
      have HG10 := hide (HG9.out.trans gq)
      have hp10 := hp9.chg gq id
      clear gq hp9
      generalize w9.alloc (.cells #[.int .i64 0, .int .i64 0, .int .i64 0, .int .i64 0, .int .i64 0, .int .i64 0, .int .i64 0, .int .i64 0, .int .i64 0, .int .i64 0, .int .i64 0, .int .i64 0, .int .i64 0] 35) = w10 at *
      obtain ⟨-, -, c4, c5, c6, c7, c8, c9, c10, c11, c12, -⟩ := lf_rc hp10
      obtain ⟨r1, r2, r3, -⟩ := HD8.out.wf.ok.ris
      obtain ⟨RM, hRM⟩ : ∃ RM, F.y.OE - F.y.OT = RM := ⟨_, rfl⟩
      obtain ⟨UE, hUE⟩ : ∃ UE, F.y.ET - F.y.EF = UE := ⟨_, rfl⟩
      obtain ⟨UF, hUF⟩ : ∃ UF, F.y.FT - F.y.FF = UF := ⟨_, rfl⟩
      obtain ⟨US, hUS⟩ : ∃ US, UE + UF = US := ⟨_, rfl⟩
      have hbd : IntKind.i64.wrap (UE + UF) = US := by
        have h1 := HD8.out.wf.ok.e
        have h2 := HD8.out.wf.ok.f
        rw [← hUS]
        exact IntWalk.i64_in _ (by omega)
      have q9 : decide (RM < US) = true := decide_eq_true (by omega)
      have R1 := hide r1
      have R2 := hide r2
      have R3 := hide r3
      have HRM := hide hRM
      have HUE := hide hUE
      have HUF := hide hUF
      clear hf hUS r1 r2 r3 hRM hUE hUF hp10
      refine wp_region_grow (by kernel_rfl) (by kernel_rfl) ?_
      repeat (
        with_reducible refine wpQuiet_step ?_
        intro K hK
        first
          | ((with_reducible refine quiet_offT rfl ?_ (hK _ ?_)); focus (refine ⟨_, rfl, ?_⟩; with_reducible rfl))
          | ((with_reducible refine quiet_offF rfl ?_ (hK _ ?_)); focus (refine ⟨_, rfl, ?_⟩; with_reducible rfl))
          | ((with_reducible refine quiet_offN rfl ?_ (hK _ ?_)); focus (exact rfl))
          | ((first | with_reducible refine quiet_free rfl ?_ | ((with_reducible refine quiet_on rfl ?_ ?_); focus (refine ⟨_, rfl, ?_⟩; with_reducible rfl)))
             apply Exists.intro
             refine ⟨fun Wq hW => ?_, hK _ ?_⟩
             focus (have q0 := Grow.cell hW c4; have q1 := Grow.cell hW c5; have q2 := Grow.cell hW c6; have q3 := Grow.cell hW c7; have q4 := Grow.cell hW c8; have q5 := Grow.cell hW c9; have q6 := Grow.cell hW c10; have q7 := Grow.cell hW c11; have q8 := Grow.cell hW c12; go_simp; first | done | with_reducible rfl | (go_at_call 13; (first | with_reducible exact grown_call hW (L2.room_is F.y.OF F.y.OT F.y.OE _ R1.out HRM.out) | with_reducible exact grown_same hW (L2.room_is F.y.OF F.y.OT F.y.OE _ R1.out HRM.out))) | (go_at_call 14; (first | with_reducible exact grown_call hW (L2.used_is F.y.EF F.y.ET F.y.EE _ R2.out HUE.out) | with_reducible exact grown_same hW (L2.used_is F.y.EF F.y.ET F.y.EE _ R2.out HUE.out))) | (go_at_call 14; (first | with_reducible exact grown_call hW (L2.used_is F.y.FF F.y.FT F.y.FE _ R3.out HUF.out) | with_reducible exact grown_same hW (L2.used_is F.y.FF F.y.FT F.y.FE _ R3.out HUF.out)))))
        clear hK K
        simp only [Act.put, List.setIfInBounds_toArray, List.set_cons_zero, List.set_cons_succ])
      with_reducible refine wpQuiet_nil ?_
      intro w11 c11'
      have HG11 := hide (HG10.out.trans c11')
      clear c11' c4 c5 c6 c7 c8 c9 c10 c11 c12 hbd
      go_wp2
      go_ret
      exact ⟨ret_bool (by first | rfl | exact q9), HG11.out.below (fun _ _ h => h) (Nat.le_refl _)⟩
    have hgg := HGG.out
    have hnp := HNP.out
    have hs8 := HS8.out
    have hn : rs.length = zl := R.n.trans HZN.out.1
    obtain ⟨va, vc, rfl, -⟩ := R.ol.form
    rw [hn]
    have ev : (F.y.aft s.ot s.tt).v = .agg #[.int .i64 F.y.OF, .int .i64 s.ot, .int .i64 F.y.OE, .int .i64 F.y.EF, .int .i64 F.y.EF, .int .i64 F.y.EE, .int .i64 F.y.TF, .int .i64 s.tt, .int .i64 F.y.TE, .int .i64 F.y.FF, .int .i64 F.y.FF, .int .i64 F.y.FE, .int .i64 F.y.th] := rfl
    rw [ev]
    obtain ⟨h1, h2, h3⟩ := run_can HD8.out.wf R HZR.out (fun x hx => hx) HRS.out
    rw [HCAN.out] at h2
    have HRC := hide h1
    have HCN2 := hide h2
    have HFR2 := hide h3
    have HDR := hide (R.sd HD8.out)
    have HN := hide hn
    have gR : Grow w1 w9 := HGW8.out.step R.c fun i hi e => by have e' : i = g ∨ i = gc := e; omega
    have HGR := hide gR
    have HG9 := hide (HG8.out.step R.c fun i hi e => by have e' : i = g ∨ i = gc := e; omega)
    have HW9 := hide (HWR.out.chg R.c fun x e hh => by have h1 := HB8.out x e; have e' : x.block = g ∨ x.block = gc := hh; omega)
    have HO9 := hide (HR8.out.2.chg R.c fun x e hh => by have h1 := HOB2.out x e; have e' : x.block = g ∨ x.block = gc := hh; omega)
    have HP9 := hide (HP8.out.chg R.c (show ¬ (p = g ∨ p = gc) by omega))
    have HOL9 := hide R.ol
    have HZ9 := hide (show wc.heap.size ≤ w9.heap.size from R.c.size)
    clear R h1 h2 h3 ev gR hgg hnp hs8 hn
    go_upto_region 9 with fail
    have gq := Grow.box w9 (.cells [.int .i64 F.y.OF, .int .i64 s.ot, .int .i64 F.y.OE, .int .i64 F.y.EF, .int .i64 F.y.EF, .int .i64 F.y.EE, .int .i64 F.y.TF, .int .i64 s.tt, .int .i64 F.y.TE, .int .i64 F.y.FF, .int .i64 F.y.FF, .int .i64 F.y.FE, .int .i64 F.y.th].toArray 35)
    have HG10 := hide (HG9.out.trans gq)
    have HGR10 := hide (HGR.out.trans gq)
    have HP10 := hide (HP9.out.chg gq id)
    have HOL10 := hide (HOL9.out.grow gq)
    have HW10 := hide (HW9.out.grow gq)
    have HO10 := hide (HO9.out.grow gq)
    have HZ10 := hide (Nat.le_trans HZ9.out gq.size)
    have HD10 := hide (HDR.out.grow gq)
    clear gq
    generalize w9.alloc (.cells #[.int .i64 F.y.OF, .int .i64 s.ot, .int .i64 F.y.OE, .int .i64 F.y.EF, .int .i64 F.y.EF, .int .i64 F.y.EE, .int .i64 F.y.TF, .int .i64 s.tt, .int .i64 F.y.TE, .int .i64 F.y.FF, .int .i64 F.y.FF, .int .i64 F.y.FE, .int .i64 F.y.th] 35) = w10 at *
    have HST2 := hide (lstore_any HD10.out.lo.st HP10.out (HD10.out.wf.n.trans HZN.out.2.2.1))
    clear HG9 HGR HP9 HOL9 HW9 HO9
    have c18 : w10.cell? ⟨p, 18, none⟩ = some (.slice ra zl rc) := HP10.out.cell 18
    go_wp2_with fail
    clear c18
    refine HST2.out.mono ?_
    rintro e w11 ⟨q, zq, rfl, hra, c11, u1, u2⟩
    have hol := HOL10.out.grow c11
    have hor := HO10.out.grow c11
    have hlen := HN.out
    obtain ⟨v', W', hrr, ho', hgb, -⟩ := app_int (c := oc) hol (by have := HZ10.out; have := c11.size; omega) hor (by have h1 := HLN.out; omega)
    have d1 : Chg (fun i => (Value.slice va rs.length vc).ownBlock = some i) w11 W' := Chg.grown (S := fun i => (Value.slice va rs.length vc).ownBlock = some i) (Chg.refl _ _) hgb (fun k _ e => e)
    have hown := HOL10.out.lt
    have hra' := hra.chg d1 (fun h => by have h1 := (hown _ h).2; omega) (fun h => by have h1 := (hown _ h).2; omega)
    have HW11 := hide ((HW10.out.grow c11).chg d1 (fun x e h => by have h1 := (hown _ h).1; have h2 := HB8.out x e; omega))
    have hgw : Grow w1 W' := (HGR10.out.trans c11).step d1 (fun i hi e => by have h1 := (hown i e).1; have h2 := HS8.out; have h3 := HGG.out; have h4 := HB1.out; omega)
    have hgg : Grow w W' := (HG10.out.trans c11).step d1 (fun i hi e => by have h1 := (hown i e).1; have h2 := HS8.out; have h4 := HB1.out; omega)
    have hic : IsCls W' ca cl cc (F.aft s rs).cs := by
      show IsCls W' ca cl cc F.cs
      rw [HZN.out.2.1]
      exact HU.out.c.chg hgw fun _ _ => id
    obtain ⟨x3, y3, rfl⟩ := own_len ho'
    have hrd3 := own_rd ho'
    obtain ⟨LN, hLN⟩ : ∃ LN, (rs ++ F.OS).length = LN := ⟨_, rfl⟩
    rw [hLN] at hrr hrd3
    have hc3 := HDR.out.canon (fc := y3) HZN.out.2.2.1 (HYL.out.aft s.ot s.tt) hra' hic hrd3 (by rw [← hLN, List.length_append, hlen]; have := HFL.out; have h5 := HON5.out; omega) HFR2.out HRC.out
    have hcn := HCN2.out
    have hcan : canL (F.aft s rs).ob (rs ++ F.OS) (res.map (ph F.y s.mv)) = CAN := hcn
    rw [hcan] at hc3
    rw [hlen] at hrr
    have HRR3 := hide hrr
    have HC3 := hide hc3
    have HGG3 := hide hgg
    clear hra hol hor ho' hgb d1 hown hra' hgw hgg hic hrd3 hc3 hcn hcan hrr c11 hlen u1 u2 hLN
    go_wp2_with (at_builtin; generalize hWL : @wpList = WL)
    subst hWL
    refine wpList_appW (by kernel_rfl) _ _ 36 rfl (.slice va zl vc) (.slice oa ON oc) _ (by rfl) (by rfl) HRR3.out ?_
    go_wp2_with fail
    refine HC3.out.mono ?_
    rintro e w12 ⟨v12, rfl, hv12, c12⟩
    obtain ⟨ya, yc, rfl, hyr⟩ := hv12.form
    have HG12 := hide (HGG3.out.trans c12)
    have HSM := hide (L1.same_yes wa ya CAN.length wcap yc CAN _ (HW11.out.grow c12) hyr HCL.out)
    clear hv12 hyr c12
    go_wp2_with fail
    refine HSM.out.mono ?_
    rintro e w13 ⟨rfl, c13⟩
    have HG13 := hide (HG12.out.trans c13)
    clear c13
    go_wp2
    go_ret
    exact ⟨rfl, HG13.out.below (fun _ _ h => h) (Nat.le_refl _)⟩

theorem own : ownKnob Tryz.prog.godebug = none := by kernel_rfl
theorem laidOut : laidOutB Tryz.prog = true := by kernel_rfl

set_option maxRecDepth 100000 in
theorem lifted (os : Os) (started : os.Started) (H : Type) (enc : TypeId × Value → H) :
    ReturnsInHanded {} Tryz.checked os 3 .any (Rows.scavengeKeepsSpec.pre6 enc Tryz.prog Tryz.f3 Rows.scavengeKeepsRow.domain false) (Rows.scavengeKeepsSpec.post enc Tryz.prog Tryz.f3 false true false false) := by
  refine returnsInHanded_of_change (C := Tryz.checked) own started (by kernel_rfl) Tryz.func3
    (ChangeSpec.witness6 (enc := enc) (C := Tryz.checked) false ⟨#[], #[.agg #[.slice none 0 0, .slice none 0 0, .slice none 0 0, .slice none 0 0, .int .u8 0, .int .u8 0]], []⟩ 8 (by kernel_rfl) (by kernel_rfl) (by kernel_rfl) (by kernel_rfl)) ?_
  intro W base args ds gs before hval0 hW hcnd _
  have hval : ∀ (j : Nat) t v, Tryz.f3.params[j]? = some t → args[j]? = some v → Value.okWide Tryz.prog W .any base t v := hval0
  have hW' := hW
  obtain ⟨p, q, hA0, hV, rfl, hfz, hnd⟩ := hW
  have hA : DataW.TrodAll enc Tryz.prog W 0 (fun _ => true) true Tryz.f3.params.toList args.toList ds p := hA0
  rw [Tryz.params3] at hA hval
  obtain ⟨v0, vs0, d0, ds0, p0, q0, hargs, rfl, rfl, h0, r0⟩ := trodAll_cons hA
  obtain ⟨rfl, rfl, rfl⟩ := trodAll_nil r0
  obtain rfl : args = #[v0] := by cases args; simp_all
  obtain ⟨rfl, rfl⟩ := trodVars_none hV
  have k0 := h0
  have lt0 : ∀ x ∈ p0, x.block < W.heap.size := by obtain ⟨m, hm⟩ := k0; exact DataW.trod_lt m _ _ _ hm
  obtain ⟨u0, cs0, gs0, ts0, zs0, rfl, w0⟩ := open_world (hval 0 27 v0 rfl rfl) h0
  clear hA0 hval0
  refine (walk u0 cs0 gs0 ts0 zs0 W w0).mono fun e W' ⟨he, bel⟩ => ?_
  subst he
  exact ⟨_, rfl, _, _, _, [], _, [], hW', trodAll_mk1 (shut_bool Tryz.underlying4 _), (trodAll_cons_mk (Below.trod laidOut (by kernel_rfl) (of_decide_eq_true (by kernel_rfl)) k0 bel lt0) trodAll_mk0), rfl, bel.frame _, fun h => by cases h⟩

theorem over : Rows.scavengeKeepsRow.holds Tryz.pinned (OpenSpec.ofChange Rows.scavengeKeepsSpec) :=
  OpenClaim.holds_of_wide 3 Tryz.f3 rfl rfl rfl rfl rfl rfl rfl ⟨rfl, rfl, rfl, rfl, rfl⟩ rfl rfl rfl rfl rfl (by kernel_rfl) Tryz.func3 (by kernel_rfl)
    (of_decide_eq_true (by kernel_rfl)) (by unfold Func.isWrapper; first | (rw [if_pos (by decide +kernel)]; kernel_rfl) | (rw [if_neg (by decide +kernel)]; exact ⟨rfl, rfl⟩))
    (fun os started H enc _ => lifted os started H enc)

/-- The statement. -/
theorem proved : Rows.ScavengeKeepsSaid := over
#print axioms proved
end Go.Proofs.YtogfjclmohpjkaaGreat.scavengeKeeps


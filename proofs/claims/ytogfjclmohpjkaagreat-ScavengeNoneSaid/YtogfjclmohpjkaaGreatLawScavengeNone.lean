/- For all arguments ScavengeNone answers true: without roots, and without old objects, no young object goes on; done once more nothing is changed. Conditions: none. -/
import Derived.Test.YtogfjclmohpjkaaGreatL15Aw
import Derived.ShutString
namespace Go.Proofs.YtogfjclmohpjkaaGreat.scavengeNone
open Go.ChangeShapes Go.WideShapes Go.ChangeAt Go.RowKit Go.Deep Go.Proofs.YtogfjclmohpjkaaGreat.L15
open Go.Proofs.YtogfjclmohpjkaaGreat.L1 (ptr Ar)
open Go.Proofs.YtogfjclmohpjkaaGreat.L5 (Cl IsCls newX Tb)
open Go.Proofs.YtogfjclmohpjkaaGreat.L6 (stV St)
open Go.Proofs.YtogfjclmohpjkaaGreat.L7 (Ct tset tb_touch inn cd isd)
open Go.Proofs.YtogfjclmohpjkaaGreat.L3 (no)
set_option linter.unusedVariables false
set_option maxRecDepth 100000
theorem fin_lt {cs : List Cl} {h th : Int} {gs : List Tg} {ts : List Tr} {zs : List Int} (hg : ∀ t ∈ gs, t.w % 4 ≠ 3) : (finF cs h th gs ts zs).OS = [] := by
  refine fin_os fun t ht => ?_
  unfold Tg.i
  split
  · decide
  · rw [if_neg (hg t ht)]; decide
set_option maxHeartbeats 8000000 in
theorem walk (u : Wo) (cs : List Cl) (gs : List Tg) (ts : List Tr) (zs : List Int) (w : World) (h : IsWo w u cs gs ts zs) :
    Calls Tryz.prog 5 #[Wo.v u] w fun e w' => e = .returned (.bool true) ∧ Below w.heap.size w w' := by
  obtain ⟨ca, cl, cc, ta, tl, tc, ra, rl, rc, za, zl, zc, hf, th⟩ := u
  obtain ⟨hb, gB, -⟩ := boxes1 w 27 [.slice ca cl cc, .slice ta tl tc, .slice ra rl rc, .slice za zl zc, .int .u8 hf, .int .u8 th]
  have HU := hide (h.chg gB fun _ _ => id)
  have HTL := hide (show (tl : Int) ≤ 9223372036854775807 by have h1 := h.t.2.1; have h2 := h.t.2.2.1; unfold maxLen at h2; dsimp only at h1 h2; omega)
  clear h
  obtain ⟨k0, k1, k2, k3, k4, k5⟩ := hb.cell6
  go_enter Tryz.func5, Tryz.ntmps5
  go_wp2_with fail
  clear k0 k1 k2 k3 k4 k5
  generalize w.alloc (.cells #[.slice ca cl cc, .slice ta tl tc, .slice ra rl rc, .slice za zl zc, .int .u8 hf, .int .u8 th] 27) = w1 at *
  generalize w.heap.size = bw at *
  have HB := hide hb
  have HG := hide gB
  clear hb gB
  go_loopw [15] (fun v wr => ∃ k : Nat, k ≤ tl ∧ v = .int .i64 k ∧ (∀ j, j < k → j < 60 → ∀ t, gs[j]? = some t → t.w % 4 ≠ 3) ∧ w1 = wr) (fun v _ => tl - (intOf v).toNat)
  case atStart => exact ⟨0, Nat.zero_le _, rfl, fun j hj => absurd hj (by omega), rfl⟩
  case round =>
    obtain ⟨k, hk, rfl, hno, hww⟩ := hrel
    subst hww
    rcases Nat.eq_or_lt_of_le hk with hke | hlt
    · have q1 : decide ((k : Int) < tl) = false := decide_eq_false (by omega)
      have q1n : ¬ k < tl := by omega
      have HNO := hide (fun (h60 : tl ≤ 60) (t : Tg) (ht : t ∈ gs) => show t.w % 4 ≠ 3 from by
        obtain ⟨j, hj, e⟩ := List.getElem_of_mem ht
        have hl : gs.length = tl := HU.out.t.1
        exact hno j (by omega) (by omega) t (by rw [List.getElem?_eq_getElem hj, e]))
      clear hno hke hk
      obtain ⟨k0, k1, k2, k3, k4, k5⟩ := HB.out.cell6
      go_wp2_with fail
      clear k0 k1 k2 k3 k4 k5 q1 q1n
      refine (made_any HU.out).mono ?_
      rintro e w3 ⟨CL, ok, rfl, hln, h21, hone, c3, hq⟩
      have HQ := hide hq
      have HG3 := hide (HG.out.trans c3)
      have HLN := hide hln
      have H21 := hide h21
      have HONE := hide hone
      have HBL := hide (Blk.new w3 39 lf0)
      clear hq c3 hln h21 hone
      go_upto_region 8 with (refine wpList_store_row rfl 39 _ _ rfl w3.heap.size CL.toArray (by rfl) (by rfl) 39 lf0.toArray HBL.out H21.out HLN.out HONE.out ?_)
      obtain ⟨hp, gp⟩ := new_life w3 CL
      clear HBL H21 HLN HONE
      generalize (w3.alloc (.cells lf0.toArray 39)).setRow w3.heap.size CL.toArray = w4 at *
      generalize hpe : w3.heap.size = p at *
      have HG4 := hide (HG3.out.trans gp)
      have HP4 := hide hp
      have HGP := hide gp
      have HPE := hide hpe
      clear hp gp hpe HG3
      go_wp2_with fail
      refine (awake_any _).mono ?_
      rintro e w5 ⟨rfl, c5⟩
      have HG5 := hide (HG4.out.trans c5)
      have HC5 := hide c5
      clear c5
      rcases HQ.out with ⟨rfl, -⟩ | ⟨rfl, hgd, xs, z, yl, b, tp, g, pc, mc, gc, av, rv, rfl, m⟩
      · clear HNO
        go_wp2_with fail
        refine (awake_any _).mono ?_
        rintro e w6 ⟨rfl, c6⟩
        have HG6 := hide (HG5.out.trans c6)
        clear c6
        go_wp2
        go_ret
        exact ⟨rfl, HG6.out.below (fun _ _ h => h) (Nat.le_refl _)⟩
      have hp := HP4.out
      dsimp only at m hp
      obtain ⟨F, hF⟩ : ∃ F, finF cs (hf % 101) (th % 8) gs ts zs = F := ⟨_, rfl⟩
      obtain ⟨A, hA⟩ : ∃ A, (fin0 cs (hf % 101) (th % 8) gs ts).zs = A := ⟨_, rfl⟩
      rw [hF] at m hp
      rw [hA] at m
      have HF := hide hF
      have HA := hide hA
      have HD := hide ((m.sd.grow HGP.out).grow HC5.out)
      have HM := hide m
      have HP5 := hide (hp.chg HC5.out id)
      have HNP := hide (show ¬ p = g ∧ ¬ p = gc ∧ w.heap.size ≤ g ∧ w.heap.size ≤ gc ∧ p < w5.heap.size from by
        have h1 := m.pl
        have h2 := m.lo.gz
        have h3 := HPE.out
        have h4 := HG.out.size
        have h5 := (hp.chg HC5.out id).lt
        exact ⟨by omega, by omega, by omega, by omega, h5⟩)
      clear hF hA m hp
      have hos : F.OS = [] := by rw [← HF.out]; exact fin_lt (HNO.out hgd.1)
      have hr0 := HM.out.room0 hos
      have HOS := hide hos
      have HR0 := hide hr0
      have HR := hide (HD.out.run (rc := 0) (zs' := []) rd_nil (by decide) (fun r hr => by cases hr))
      obtain ⟨c0, c1, c4, c5, c6, c7, c8, c9, c10, c11, c12, c13, c14, c15, c16, c18, c19⟩ := lf_rc HP5.out
      clear hos hr0 hgd HNO HQ HP4
      go_wp2_with fail
      clear c0 c1 c4 c5 c6 c7 c8 c9 c10 c11 c12 c13 c14 c15 c16 c18 c19
      refine HR.out.mono ?_
      rintro e w6 (⟨hf, -⟩ | ⟨-, v, rs, s, rfl, R⟩)
      · exact absurd HR0.out (by omega)
      have wf' := HD.out.wf.zs []
      obtain ⟨-, e1, e2, e3, e4⟩ := fin_none wf' R.i (fun r hr => by cases hr) HOS.out
      dsimp only at e3 e4
      have hn : rs.length = 0 := R.n
      obtain ⟨va, vc, rfl, -⟩ := R.ol.form
      rw [hn]
      have d6 := R.sd HD.out
      have hp6 := HP5.out.chg R.c (show ¬ (p = g ∨ p = gc) by have := HNP.out; omega)
      have HG6 := hide (HG5.out.step R.c (fun i hi e => by have e' : i = g ∨ i = gc := e; have := HNP.out; omega))
      have ev : (F.y.aft s.ot s.tt).v = .agg #[.int .i64 F.y.OF, .int .i64 F.y.OF, .int .i64 F.y.OE, .int .i64 F.y.EF, .int .i64 F.y.EF, .int .i64 F.y.EE, .int .i64 F.y.TF, .int .i64 F.y.TF, .int .i64 F.y.TE, .int .i64 F.y.FF, .int .i64 F.y.FF, .int .i64 F.y.FE, .int .i64 F.y.th] := by rw [e3, e4]
      have ey : (F.aft s rs).y.v = .agg #[.int .i64 F.y.OF, .int .i64 F.y.OF, .int .i64 F.y.OE, .int .i64 F.y.EF, .int .i64 F.y.EF, .int .i64 F.y.EE, .int .i64 F.y.TF, .int .i64 F.y.TF, .int .i64 F.y.TE, .int .i64 F.y.FF, .int .i64 F.y.FF, .int .i64 F.y.FE, .int .i64 F.y.th] := ev
      rw [ev]
      have hrb := d6.wf.ok.ris
      have hos2 : (F.aft s rs).OS = [] := by show F.OS ++ s.PO = []; rw [HOS.out, e1]; rfl
      have hyy : (F.aft s rs).y = ⟨F.y.OF, F.y.OF, F.y.OE, F.y.EF, F.y.EF, F.y.EE, F.y.TF, F.y.TF, F.y.TE, F.y.FF, F.y.FF, F.y.FE, F.y.th⟩ := by show F.y.aft s.ot s.tt = _; rw [e3, e4]
      rw [hyy] at hrb
      have HRB := hide hrb
      have HOT := hide (show s.ot = F.y.OF ∧ s.tt = F.y.TF from ⟨e3, e4⟩)
      have HOS2 := hide hos2
      have HYY := hide hyy
      have HEY := hide ey
      have HD6 := hide d6
      have HP6 := hide hp6
      have HOK := hide HD.out.wf.ok.o
      clear R e1 e2 e3 e4 hn d6 hp6 ev ey hrb hos2 hyy wf'
      go_upto_region 11 with fail
      have hq := Blk.new w6 35 [.int .i64 F.y.OF, .int .i64 F.y.OF, .int .i64 F.y.OE, .int .i64 F.y.EF, .int .i64 F.y.EF, .int .i64 F.y.EE, .int .i64 F.y.TF, .int .i64 F.y.TF, .int .i64 F.y.TE, .int .i64 F.y.FF, .int .i64 F.y.FF, .int .i64 F.y.FE, .int .i64 F.y.th]
      have gq := Grow.box w6 (.cells [.int .i64 F.y.OF, .int .i64 F.y.OF, .int .i64 F.y.OE, .int .i64 F.y.EF, .int .i64 F.y.EF, .int .i64 F.y.EE, .int .i64 F.y.TF, .int .i64 F.y.TF, .int .i64 F.y.TE, .int .i64 F.y.FF, .int .i64 F.y.FF, .int .i64 F.y.FE, .int .i64 F.y.th].toArray 35)
      have HG7 := hide (HG6.out.trans gq)
      have HP7 := hide (HP6.out.chg gq id)
      have HD7 := hide (HD6.out.grow gq)
      have HNQ := hide (show ¬ w6.heap.size = g ∧ ¬ w6.heap.size = gc from by
        have h1 := HD6.out.ct.glt
        have h2 := HD6.out.lo.st.lt
        exact ⟨by omega, by omega⟩)
      clear gq
      generalize w6.alloc (.cells #[.int .i64 F.y.OF, .int .i64 F.y.OF, .int .i64 F.y.OE, .int .i64 F.y.EF, .int .i64 F.y.EF, .int .i64 F.y.EE, .int .i64 F.y.TF, .int .i64 F.y.TF, .int .i64 F.y.TE, .int .i64 F.y.FF, .int .i64 F.y.FF, .int .i64 F.y.FE, .int .i64 F.y.th] 35) = w7 at *
      generalize w6.heap.size = q at *
      have HQ7 := hide hq
      obtain ⟨y0, y1, y2, y3, y4, y5, y6, y7, y8, y9, y10, y11, y12⟩ : YC w7 q ⟨F.y.OF, F.y.OF, F.y.OE, F.y.EF, F.y.EF, F.y.EE, F.y.TF, F.y.TF, F.y.TE, F.y.FF, F.y.FF, F.y.FE, F.y.th⟩ := hq.yc
      clear hq
      have hw0 : IntKind.i64.wrap (0 : Int) = 0 := by decide
      refine wp_region_grow (by kernel_rfl) (by kernel_rfl) ?_
      repeat (
        with_reducible refine wpQuiet_step ?_
        intro K hK
        first
          | ((with_reducible refine quiet_offT rfl ?_ (hK _ ?_)); focus (refine ⟨_, rfl, ?_⟩; with_reducible rfl))
          | ((with_reducible refine quiet_offF rfl ?_ (hK _ ?_)); focus (refine ⟨_, rfl, ?_⟩; with_reducible rfl))
          | ((with_reducible refine quiet_offN rfl ?_ (hK _ ?_)); focus (exact rfl))
          | ((first | with_reducible refine quiet_free rfl ?_ | ((with_reducible refine quiet_on rfl ?_ ?_); focus (refine ⟨_, rfl, ?_⟩; with_reducible rfl)))
             apply Exists.intro
             refine ⟨fun Wq hW => ?_, hK _ ?_⟩
             focus (have q0 := Grow.cell hW y0; have q1 := Grow.cell hW y1; have q2 := Grow.cell hW y2; have q3 := Grow.cell hW y3; have q4 := Grow.cell hW y4; have q5 := Grow.cell hW y5; have q6 := Grow.cell hW y6; have q7 := Grow.cell hW y7; have q8 := Grow.cell hW y8; have q9 := Grow.cell hW y9; have q10 := Grow.cell hW y10; have q11 := Grow.cell hW y11; go_simp; first | done | with_reducible rfl | (go_at_call 14; (first | with_reducible exact grown_call hW (L2.used_is F.y.EF F.y.EF F.y.EE _ HRB.out.2.1 (v := 0) (by omega)) | with_reducible exact grown_same hW (L2.used_is F.y.EF F.y.EF F.y.EE _ HRB.out.2.1 (v := 0) (by omega)))) | (go_at_call 14; (first | with_reducible exact grown_call hW (L2.used_is F.y.TF F.y.TF F.y.TE _ HRB.out.2.2.1 (v := 0) (by omega)) | with_reducible exact grown_same hW (L2.used_is F.y.TF F.y.TF F.y.TE _ HRB.out.2.2.1 (v := 0) (by omega)))) | (go_at_call 14; (first | with_reducible exact grown_call hW (L2.used_is F.y.FF F.y.FF F.y.FE _ HRB.out.2.2.2 (v := 0) (by omega)) | with_reducible exact grown_same hW (L2.used_is F.y.FF F.y.FF F.y.FE _ HRB.out.2.2.2 (v := 0) (by omega)))) | (go_at_call 14; (first | with_reducible exact grown_call hW (L2.used_is F.y.OF F.y.OF F.y.OE _ HRB.out.1 (v := 0) (by omega)) | with_reducible exact grown_same hW (L2.used_is F.y.OF F.y.OF F.y.OE _ HRB.out.1 (v := 0) (by omega))))))
        clear hK K
        simp only [Act.put, List.setIfInBounds_toArray, List.set_cons_zero, List.set_cons_succ])
      with_reducible refine wpQuiet_nil ?_
      intro w8 c8
      have HG8 := hide (HG7.out.trans c8)
      have HP8 := hide (HP7.out.chg c8 id)
      have HD8 := hide (HD7.out.grow c8)
      have HQ8 := hide (HQ7.out.chg c8 id)
      clear c8 y0 y1 y2 y3 y4 y5 y6 y7 y8 y9 y10 y11 y12 HQ7 HP7 HD7 HG7
      have hr2 := HD8.out.run (rc := 0) (zs' := []) rd_nil (by decide) (fun r hr => by cases hr)
      rw [HEY.out] at hr2
      have HR2 := hide hr2
      clear hr2
      obtain ⟨c0, c1, -, -, -, -, -, -, -, -, -, -, -, -, -, -, c19⟩ := lf_rc HP8.out
      obtain ⟨y0, y1, y2, y3, y4, y5, y6, y7, y8, y9, y10, y11, y12⟩ : YC w8 q ⟨F.y.OF, F.y.OF, F.y.OE, F.y.EF, F.y.EF, F.y.EE, F.y.TF, F.y.TF, F.y.TE, F.y.FF, F.y.FF, F.y.FE, F.y.th⟩ := HQ8.out.yc
      go_wp2_with fail
      clear c0 c1 c19 y0 y1 y2 y3 y4 y5 y6 y7 y8 y9 y10 y11 y12
      refine HR2.out.mono ?_
      rintro e w9 (⟨hf, -⟩ | ⟨-, v2, rs2, s2, rfl, R2⟩)
      · exfalso
        have h1 := HOK.out
        have h2 := HOT.out
        have h3 : F.y.OE - s.ot < F.y.EF - F.y.EF + (s.tt - F.y.TF) := hf
        omega
      obtain ⟨-, -, -, e3, e4⟩ := fin_none (HD8.out.wf.zs []) R2.i (fun r hr => by cases hr) HOS2.out
      dsimp only at e3 e4
      have ev2 : ((F.aft s rs).y.aft s2.ot s2.tt).v = .agg #[.int .i64 F.y.OF, .int .i64 F.y.OF, .int .i64 F.y.OE, .int .i64 F.y.EF, .int .i64 F.y.EF, .int .i64 F.y.EE, .int .i64 F.y.FF, .int .i64 F.y.FF, .int .i64 F.y.FE, .int .i64 F.y.TF, .int .i64 F.y.TF, .int .i64 F.y.TE, .int .i64 F.y.th] := by
        have e5 : s2.ot = F.y.OF := e3
        have e6 : s2.tt = F.y.FF := e4
        show ((F.y.aft s.ot s.tt).aft s2.ot s2.tt).v = _
        rw [e5, e6, HOT.out.1, HOT.out.2]
      rw [ev2]
      have HG9 := hide (HG8.out.step R2.c (fun i hi e => by have e' : i = g ∨ i = gc := e; have := HNP.out; omega))
      have HQ9 := hide (HQ8.out.chg R2.c (show ¬ (q = g ∨ q = gc) by have := HNQ.out; omega))
      clear R2 e3 e4 ev2
      go_upto_region 14 with fail
      have hq := Blk.new w9 35 [.int .i64 F.y.OF, .int .i64 F.y.OF, .int .i64 F.y.OE, .int .i64 F.y.EF, .int .i64 F.y.EF, .int .i64 F.y.EE, .int .i64 F.y.FF, .int .i64 F.y.FF, .int .i64 F.y.FE, .int .i64 F.y.TF, .int .i64 F.y.TF, .int .i64 F.y.TE, .int .i64 F.y.th]
      have gq := Grow.box w9 (.cells [.int .i64 F.y.OF, .int .i64 F.y.OF, .int .i64 F.y.OE, .int .i64 F.y.EF, .int .i64 F.y.EF, .int .i64 F.y.EE, .int .i64 F.y.FF, .int .i64 F.y.FF, .int .i64 F.y.FE, .int .i64 F.y.TF, .int .i64 F.y.TF, .int .i64 F.y.TE, .int .i64 F.y.th].toArray 35)
      have HG10 := hide (HG9.out.trans gq)
      obtain ⟨y0, y1, y2, y3, y4, y5, y6, y7, y8, y9, y10, y11, y12⟩ : YC (w9.alloc (.cells [.int .i64 F.y.OF, .int .i64 F.y.OF, .int .i64 F.y.OE, .int .i64 F.y.EF, .int .i64 F.y.EF, .int .i64 F.y.EE, .int .i64 F.y.FF, .int .i64 F.y.FF, .int .i64 F.y.FE, .int .i64 F.y.TF, .int .i64 F.y.TF, .int .i64 F.y.TE, .int .i64 F.y.th].toArray 35)) q ⟨F.y.OF, F.y.OF, F.y.OE, F.y.EF, F.y.EF, F.y.EE, F.y.TF, F.y.TF, F.y.TE, F.y.FF, F.y.FF, F.y.FE, F.y.th⟩ := (HQ9.out.chg gq id).yc
      obtain ⟨z0, z1, z2, z3, z4, z5, z6, z7, z8, z9, z10, z11, z12⟩ : YC (w9.alloc (.cells [.int .i64 F.y.OF, .int .i64 F.y.OF, .int .i64 F.y.OE, .int .i64 F.y.EF, .int .i64 F.y.EF, .int .i64 F.y.EE, .int .i64 F.y.FF, .int .i64 F.y.FF, .int .i64 F.y.FE, .int .i64 F.y.TF, .int .i64 F.y.TF, .int .i64 F.y.TE, .int .i64 F.y.th].toArray 35)) w9.heap.size ⟨F.y.OF, F.y.OF, F.y.OE, F.y.EF, F.y.EF, F.y.EE, F.y.FF, F.y.FF, F.y.FE, F.y.TF, F.y.TF, F.y.TE, F.y.th⟩ := hq.yc
      clear hq gq
      generalize w9.alloc (.cells #[.int .i64 F.y.OF, .int .i64 F.y.OF, .int .i64 F.y.OE, .int .i64 F.y.EF, .int .i64 F.y.EF, .int .i64 F.y.EE, .int .i64 F.y.FF, .int .i64 F.y.FF, .int .i64 F.y.FE, .int .i64 F.y.TF, .int .i64 F.y.TF, .int .i64 F.y.TE, .int .i64 F.y.th] 35) = w10 at *
      generalize w9.heap.size = q2 at *
      go_wp2
      go_ret
      exact ⟨rfl, HG10.out.below (fun _ _ h => h) (Nat.le_refl _)⟩
    · have q1 : decide ((k : Int) < tl) = true := decide_eq_true (by omega)
      have hw : IntKind.i64.wrap ((k : Int) + 1) = ((k + 1 : Nat) : Int) := (IntWalk.i64_in _ (by have := HTL.out; omega)).trans (by omega)
      have HW := hide hw
      clear hw
      obtain ⟨tb', to', t, hta, hgt, htB, x0, x1, x2, x3⟩ := HU.out.t.at_ hlt
      have hta : ta = some ⟨tb', to', none⟩ := hta
      have k1 := (HB.out.cell6).2.1
      have HN1 := hide (fun (h : ¬ (k < 60 ∧ t.w % 4 = 3)) => show ∀ j, j < k + 1 → j < 60 → ∀ t, gs[j]? = some t → t.w % 4 ≠ 3 from fun j hj hj60 t' ht' e => by
        rcases Nat.lt_succ_iff_lt_or_eq.1 hj with h1 | h1
        · exact hno j h1 hj60 t' ht' e
        · subst h1
          rw [hgt] at ht'
          injection ht' with ht'
          subst ht'
          exact h ⟨hj60, e⟩)
      have m0 : (0 : Int) ≤ t.w := htB.2.2.1.1
      have q2 : k < tl := hlt
      have s0 : (0 : Int) ≤ (k : Int) := by omega
      have s1 : (k : Int) < (tl : Int) := by omega
      subst hta
      clear hno hk hlt hgt htB x0 x1 x3
      by_cases h60 : k < 60
      · have q3 : decide ((k : Int) < 60) = true := decide_eq_true (by omega)
        by_cases h3 : t.w % 4 = 3
        · have q4 : (t.w % 4 == 3) = true := by simpa using h3
          clear h3 h60
          go_wp2_with fail
          refine (awake_any _).mono ?_
          rintro e w2 ⟨rfl, c2⟩
          have HG2 := hide (HG.out.trans c2)
          clear c2 k1 x2
          go_wp2
          go_ret
          exact ⟨rfl, HG2.out.below (fun _ _ h => h) (Nat.le_refl _)⟩
        · have q4 : (t.w % 4 == 3) = false := by simpa using h3
          have HN2 := hide (HN1.out fun h => h3 h.2)
          clear h3 h60 HN1
          have hw := HW.out
          go_wp2_with fail
          go_roundw
          case rel => exact ⟨k + 1, q2, rfl, HN2.out, by first | exact rfl | trivial⟩
          case measure => clear hw; simp [intOf]; omega
      · have q3 : decide ((k : Int) < 60) = false := decide_eq_false (by omega)
        have HN2 := hide (HN1.out fun h => h60 h.1)
        clear h60 HN1
        have hw := HW.out
        go_wp2_with fail
        go_roundw
        case rel => exact ⟨k + 1, q2, rfl, HN2.out, by first | exact rfl | trivial⟩
        case measure => clear hw; simp [intOf]; omega

theorem own : ownKnob Tryz.prog.godebug = none := by kernel_rfl
theorem laidOut : laidOutB Tryz.prog = true := by kernel_rfl

set_option maxRecDepth 100000 in
theorem lifted (os : Os) (started : os.Started) (H : Type) (enc : TypeId × Value → H) :
    ReturnsInHanded {} Tryz.checked os 5 .any (Rows.scavengeNoneSpec.pre6 enc Tryz.prog Tryz.f5 Rows.scavengeNoneRow.domain false) (Rows.scavengeNoneSpec.post enc Tryz.prog Tryz.f5 false true false false) := by
  refine returnsInHanded_of_change (C := Tryz.checked) own started (by kernel_rfl) Tryz.func5
    (ChangeSpec.witness6 (enc := enc) (C := Tryz.checked) false ⟨#[], #[.agg #[.slice none 0 0, .slice none 0 0, .slice none 0 0, .slice none 0 0, .int .u8 0, .int .u8 0]], []⟩ 8 (by kernel_rfl) (by kernel_rfl) (by kernel_rfl) (by kernel_rfl)) ?_
  intro W base args ds gs before hval0 hW hcnd _
  have hval : ∀ (j : Nat) t v, Tryz.f5.params[j]? = some t → args[j]? = some v → Value.okWide Tryz.prog W .any base t v := hval0
  have hW' := hW
  obtain ⟨p, q, hA0, hV, rfl, hfz, hnd⟩ := hW
  have hA : DataW.TrodAll enc Tryz.prog W 0 (fun _ => true) true Tryz.f5.params.toList args.toList ds p := hA0
  rw [Tryz.params5] at hA hval
  obtain ⟨v0, vs0, d0, ds0, p0, q0, hargs, rfl, rfl, h0, r0⟩ := trodAll_cons hA
  obtain ⟨rfl, rfl, rfl⟩ := trodAll_nil r0
  obtain rfl : args = #[v0] := by cases args; simp_all
  obtain ⟨rfl, rfl⟩ := trodVars_none hV
  have k0 := h0
  have lt0 : ∀ x ∈ p0, x.block < W.heap.size := by obtain ⟨m, hm⟩ := k0; exact DataW.trod_lt m _ _ _ hm
  obtain ⟨u0, cs0, gs0, ts0, zs0, rfl, w0⟩ := open_world (hval 0 27 v0 rfl rfl) h0
  clear hA0 hval0
  refine (walk u0 cs0 gs0 ts0 zs0 W w0).mono fun e W' ⟨he, bel⟩ => ?_
  subst he
  exact ⟨_, rfl, _, _, _, [], _, [], hW', trodAll_mk1 (shut_bool Tryz.underlying4 _), (trodAll_cons_mk (Below.trod laidOut (by kernel_rfl) (of_decide_eq_true (by kernel_rfl)) k0 bel lt0) trodAll_mk0), rfl, bel.frame _, fun h => by cases h⟩

theorem over : Rows.scavengeNoneRow.holds Tryz.pinned (OpenSpec.ofChange Rows.scavengeNoneSpec) :=
  OpenClaim.holds_of_wide 5 Tryz.f5 rfl rfl rfl rfl rfl rfl rfl ⟨rfl, rfl, rfl, rfl, rfl⟩ rfl rfl rfl rfl rfl (by kernel_rfl) Tryz.func5 (by kernel_rfl)
    (of_decide_eq_true (by kernel_rfl)) (by unfold Func.isWrapper; first | (rw [if_pos (by decide +kernel)]; kernel_rfl) | (rw [if_neg (by decide +kernel)]; exact ⟨rfl, rfl⟩))
    (fun os started H enc _ => lifted os started H enc)

/-- The statement. -/
theorem proved : Rows.ScavengeNoneSaid := over
#print axioms proved
end Go.Proofs.YtogfjclmohpjkaaGreat.scavengeNone


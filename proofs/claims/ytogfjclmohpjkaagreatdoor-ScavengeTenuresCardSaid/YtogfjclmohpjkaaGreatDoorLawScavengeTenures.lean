/- For all arguments ScavengeTenures answers true: with the threshold 0 all that goes on is old at once; with a half of no words, too. Conditions: the table of math/bits.TrailingZeros64 is as the program's text lays it, which the card ties. -/
import Derived.Test.YtogfjclmohpjkaaGreatDoorL15KA
import Derived.Test.YtogfjclmohpjkaaGreatDoorCards
import Derived.Test.YtogfjclmohpjkaaGreatDoorTie
import Derived.SevenTiedAt
import Derived.Stop.Joined
import Derived.ShutString
namespace Go.Proofs.YtogfjclmohpjkaaGreatDoor.scavengeTenures
open Go.ChangeShapes Go.WideShapes Go.ChangeAt Go.RowKit Go.Deep Go.Proofs.YtogfjclmohpjkaaGreatDoor.L15
open Go.Proofs.YtogfjclmohpjkaaGreatDoor.L1 (ptr Ar)
open Go.Proofs.YtogfjclmohpjkaaGreatDoor.L5 (Cl IsCls newX Tb)
open Go.Proofs.YtogfjclmohpjkaaGreatDoor.L6 (stV St)
open Go.Proofs.YtogfjclmohpjkaaGreatDoor.L7 (Ct tset tb_touch inn cd isd)
open Go.Proofs.YtogfjclmohpjkaaGreatDoor.L3 (no)
set_option linter.unusedVariables false
set_option maxRecDepth 100000
theorem set_cell {w : World} {g : Nat} {c0 c1 c2 c3 c4 c5 : Value} (h : Blk w g 27 [c0, c1, c2, c3, c4, c5]) (v : Value) : Blk (w.setCell ⟨g, 4, none⟩ v) g 27 [c0, c1, c2, c3, v, c5] ∧ Blk (w.setCell ⟨g, 5, none⟩ v) g 27 [c0, c1, c2, c3, c4, v] := ⟨h.set_ 4 v, h.set_ 5 v⟩
set_option maxHeartbeats 20000000 in
theorem walk (u : Wo) (cs : List Cl) (gs : List Tg) (ts : List Tr) (zs : List Int) (half : Bool) (w : World) (ht : L3.Tab w) (h : IsWo w u cs gs ts zs) :
    Calls Tryz.prog 6 #[Wo.v u, .bool half] w fun e w' => e = .returned (.bool true) ∧ Below w.heap.size w w' := by
  obtain ⟨ca, cl, cc, ta, tl, tc, ra0, rl, rc0, za, zl, zc, hf, th⟩ := u
  obtain ⟨hb, -, -⟩ := boxes1 w 27 [.slice ca cl cc, .slice ta tl tc, .slice ra0 rl rc0, .slice za zl zc, .int .u8 hf, .int .u8 th]
  have HTAB := hide ht
  have HU0 := hide h
  have f4 := hb.frozen 4
  have f5 := hb.frozen 5
  obtain ⟨k0, k1, k2, k3, k4, k5⟩ := hb.cell6
  clear h ht hb
  cases half with
  | true =>
    as_aux_lemma =>
    obtain ⟨hb2, gB, -⟩ := boxes1 w 27 [.slice ca cl cc, .slice ta tl tc, .slice ra0 rl rc0, .slice za zl zc, .int .u8 0, .int .u8 th]
    have HU : Hid (IsWo (w.alloc (.cells [.slice ca cl cc, .slice ta tl tc, .slice ra0 rl rc0, .slice za zl zc, .int .u8 0, .int .u8 th].toArray 27)) ⟨ca, cl, cc, ta, tl, tc, ra0, rl, rc0, za, zl, zc, 0, th⟩ cs gs ts zs) := hide (by
      have := HU0.out.chg gB fun _ _ => id
      exact ⟨this.c, this.t, this.r, this.z, show (0 : Int) ≤ 0 ∧ (0 : Int) ≤ 255 by decide, this.tb⟩)
    have HG := hide gB
    clear gB hb2 HU0
    go_enter Tryz.func6, Tryz.ntmps6
    go_wp2_with fail
    clear k0 k1 k2 k3 k4 k5 f4 f5
    generalize w.alloc (.cells #[.slice ca cl cc, .slice ta tl tc, .slice ra0 rl rc0, .slice za zl zc, .int .u8 0, .int .u8 th] 27) = w1 at *
    refine (made_any HU.out).mono ?_
    rintro e w3 ⟨CL, ok, rfl, hln, h21, hone, c3, hq⟩
    have HQ := hide hq
    have HG3 := hide (HG.out.trans c3)
    have HLN := hide hln
    have H21 := hide h21
    have HONE := hide hone
    have HBL := hide (Blk.new w3 40 lf0)
    clear hq c3 hln h21 hone
    go_upto_region 5 with (refine wpList_store_row rfl 40 _ _ rfl w3.heap.size CL.toArray (by rfl) (by rfl) 40 lf0.toArray HBL.out H21.out HLN.out HONE.out ?_)
    obtain ⟨hp, gp⟩ := new_life w3 CL
    clear HBL H21 HLN HONE
    generalize (w3.alloc (.cells lf0.toArray 40)).setRow w3.heap.size CL.toArray = w4 at *
    generalize hpe : w3.heap.size = p at *
    have HG4 := hide (HG3.out.trans gp)
    have HP4 := hide hp
    have HGP := hide gp
    have HPE := hide hpe
    clear hp gp hpe HG3
    go_wp2_with fail
    refine (awake_any _).mono ?_
    rintro e w5 ⟨rfl, c5⟩
    have HG5 := hide (HG4.out.trans c5)
    have HC5 := hide c5
    clear c5
    rcases HQ.out with ⟨rfl, -⟩ | ⟨rfl, hgd, xs, z, yl, b, tp, g, pc, mc, gc, av, rv, rfl, m⟩
    · skip
      go_wp2_with fail
      refine (awake_any _).mono ?_
      rintro e w6 ⟨rfl, c6⟩
      have HG6 := hide (HG5.out.trans c6)
      clear c6
      go_wp2
      go_ret
      exact ⟨rfl, HG6.out.below (fun _ _ h => h) (Nat.le_refl _)⟩
    have hp := HP4.out
    have hzn : ((finF cs (0 % 101) (th % 8) gs ts zs).zs).length = zl := by
      show (zs.map _).length = zl
      rw [List.length_map]
      exact HU.out.z.1
    have hz20 : zl ≤ 20 := hgd.2.2.1
    obtain ⟨ra, rc, rfl, hrd⟩ := ((m.rl.grow HGP.out).grow HC5.out).form
    dsimp only at hrd hp m
    rw [hzn] at hrd hp
    have hth : (finF cs (0 % 101) (th % 8) gs ts zs).y.th = th % 8 := fin_cs.2
    have hyy := m.bd.y
    dsimp only at hyy
    obtain ⟨F, hF⟩ : ∃ F, finF cs (0 % 101) (th % 8) gs ts zs = F := ⟨_, rfl⟩
    obtain ⟨A, hA⟩ : ∃ A, (fin0 cs (0 % 101) (th % 8) gs ts).zs = A := ⟨_, rfl⟩
    rw [hF] at m hp hzn hth hyy hrd
    rw [hA] at m
    have HD := hide ((m.sd.grow HGP.out).grow HC5.out)
    have HP5 := hide (hp.chg HC5.out id)
    have HT0 := hide (show F.y.TE = F.y.TF ∨ F.y.th = 0 from (.inl (by omega)))
    have HNP := hide (show ¬ p = g ∧ ¬ p = gc ∧ w.heap.size ≤ g ∧ w.heap.size ≤ gc ∧ p < w5.heap.size from by
      have h1 := m.pl
      have h2 := m.lo.gz
      have h3 := HPE.out
      have h4 := HG.out.size
      have h5 := (hp.chg HC5.out id).lt
      exact ⟨by omega, by omega, by omega, by omega, h5⟩)
    have HZN := hide (show F.zs.length = zl ∧ zl ≤ 20 from ⟨hzn, hz20⟩)
    have HZR := hide m.zr
    have HRUN := hide (HD.out.run (rc := rc) hrd (by omega) HZR.out)
    clear hF hA m hp hzn hz20 hrd hgd HQ HP4 hth hyy
    obtain ⟨c0, c1, c4, c5, c6, c7, c8, c9, c10, c11, c12, c13, c14, c15, c16, c18, c19⟩ := lf_rc HP5.out
    go_wp2_with fail
    clear c0 c1 c4 c5 c6 c7 c8 c9 c10 c11 c12 c13 c14 c15 c16 c18 c19
    refine HRUN.out.mono ?_
    rintro e w9 (⟨-, rfl, c9⟩ | ⟨-, v, rs, s, rfl, R⟩)
    · have HG9 := hide (HG5.out.trans c9)
      clear c9
      go_upto_region 8 with fail
      have gq := Grow.box w9 (.cells [.int .i64 0, .int .i64 0, .int .i64 0, .int .i64 0, .int .i64 0, .int .i64 0, .int .i64 0, .int .i64 0, .int .i64 0, .int .i64 0, .int .i64 0, .int .i64 0, .int .i64 0].toArray 36)
      have HG10 := hide (HG9.out.trans gq)
      clear gq
      generalize w9.alloc (.cells #[.int .i64 0, .int .i64 0, .int .i64 0, .int .i64 0, .int .i64 0, .int .i64 0, .int .i64 0, .int .i64 0, .int .i64 0, .int .i64 0, .int .i64 0, .int .i64 0, .int .i64 0] 36) = w10 at *
      clear HRUN HZR HZN HNP HT0 HP5 HD HC5 HG5 HPE HGP HG4 HU HTAB HG9
      go_wp2
      go_ret
      exact ⟨rfl, HG10.out.below (fun _ _ h => h) (Nat.le_refl _)⟩
    have wf' := HD.out.wf.zs F.zs
    have hlt : s.LT = [] := HT0.out.elim (fun h => fin_half0 wf' R.i h) (fun h => fin_th0 wf' R.i h)
    have htt : s.tt = F.y.TF := lt_nil R.i hlt
    have hin := run_memb HD.out.wf R HZR.out
    have hseg := R.i.so
    have hok := (R.sd HD.out).wf.ok
    have hin2 : ∀ x ∈ rs, x = 0 ∨ L2.hasB F.y.OF s.ot F.y.OE x = true := fun x hx => by
      rcases hin x hx with h | h
      · exact .inl h
      · right
        have h' : x ∈ (F.OS ++ s.PO) ++ ([] ++ s.LT) := h
        rw [hlt, List.append_nil, List.append_nil] at h'
        have h1 := hseg.bd h'
        have h2 := hok.o
        have h3 := sz_pos (s.ob x)
        have h4 : F.y.OF ≤ x ∧ x + ((s.ob x).sz : Int) ≤ s.ot := h1
        have h5 : 1 ≤ F.y.OF ∧ F.y.OF ≤ s.ot ∧ s.ot ≤ F.y.OE ∧ F.y.OE ≤ 4096 := ⟨h2.1, h2.2.1, h2.2.2.1, h2.2.2.2.1⟩
        exact (has_iff (by omega)).2 (by omega)
    have hn : rs.length = zl := R.n.trans HZN.out.1
    have hrec : recS (F.y.aft s.ot s.tt) s.ob 1 401 (F.OS ++ s.PO) = no := recS_no fun o => ld_none rfl htt o
    have hct := R.ct
    rw [show recS ((({ F with zs := F.zs } : Fx).y).aft s.ot s.tt) s.ob 1 401 (({ F with zs := F.zs } : Fx).OS ++ s.PO) = no from hrec] at hct
    have hri : L2.riB F.y.TF F.y.TF F.y.TE = true := by have := hok.ris.2.2.1; rw [show ((F.aft s rs).y.FT) = F.y.TF from htt] at this; exact this
    have HRI := hide hri
    have HIN := hide hin2
    have HN := hide hn
    have HOL := hide R.ol
    obtain ⟨va, vc, rfl, -⟩ := R.ol.form
    rw [hn]
    have ev : (F.y.aft s.ot s.tt).v = .agg #[.int .i64 F.y.OF, .int .i64 s.ot, .int .i64 F.y.OE, .int .i64 F.y.EF, .int .i64 F.y.EF, .int .i64 F.y.EE, .int .i64 F.y.TF, .int .i64 F.y.TF, .int .i64 F.y.TE, .int .i64 F.y.FF, .int .i64 F.y.FF, .int .i64 F.y.FE, .int .i64 F.y.th] := by rw [htt]
    rw [ev]
    have hnp := HNP.out
    have HG9 := hide (HG5.out.step R.c fun i hi e => by have e' : i = g ∨ i = gc := e; omega)
    have HP9 := hide (HP5.out.chg R.c (show ¬ (p = g ∨ p = gc) by omega))
    clear R wf' hlt htt hin hseg hok hin2 hrec hri ev hn hnp
    go_upto_region 8 with fail
    have hq := Blk.new w9 36 [.int .i64 F.y.OF, .int .i64 s.ot, .int .i64 F.y.OE, .int .i64 F.y.EF, .int .i64 F.y.EF, .int .i64 F.y.EE, .int .i64 F.y.TF, .int .i64 F.y.TF, .int .i64 F.y.TE, .int .i64 F.y.FF, .int .i64 F.y.FF, .int .i64 F.y.FE, .int .i64 F.y.th]
    have gq := Grow.box w9 (.cells [.int .i64 F.y.OF, .int .i64 s.ot, .int .i64 F.y.OE, .int .i64 F.y.EF, .int .i64 F.y.EF, .int .i64 F.y.EE, .int .i64 F.y.TF, .int .i64 F.y.TF, .int .i64 F.y.TE, .int .i64 F.y.FF, .int .i64 F.y.FF, .int .i64 F.y.FE, .int .i64 F.y.th].toArray 36)
    have HG10 := hide (HG9.out.trans gq)
    have HP10 := hide (HP9.out.chg gq id)
    have HOL10 := hide (HOL.out.grow gq)
    have HCT10 := hide (hct.grow gq)
    clear gq HG9 HP9 HOL hct
    generalize w9.alloc (.cells #[.int .i64 F.y.OF, .int .i64 s.ot, .int .i64 F.y.OE, .int .i64 F.y.EF, .int .i64 F.y.EF, .int .i64 F.y.EE, .int .i64 F.y.TF, .int .i64 F.y.TF, .int .i64 F.y.TE, .int .i64 F.y.FF, .int .i64 F.y.FF, .int .i64 F.y.FE, .int .i64 F.y.th] 36) = w10 at *
    generalize w9.heap.size = q at *
    have HQ10 := hide hq
    clear hq
    go_wp2_with fail
    go_loopw [47] (fun v wr => ∃ k : Nat, k ≤ zl ∧ v = .int .i64 k ∧ Grow w10 wr) (fun v _ => zl - (intOf v).toNat)
    case atStart => exact ⟨0, Nat.zero_le _, rfl, Chg.refl _ _⟩
    case round =>
      obtain ⟨k, hk, rfl, cg⟩ := hrel
      have HP11 := hide (HP10.out.chg cg id)
      have HCT11 := hide (HCT10.out.grow cg)
      have HOL11 := hide (HOL10.out.grow cg)
      have HQ11 := hide (HQ10.out.chg cg id)
      have HG11 := hide (HG10.out.trans cg)
      have HCG := hide cg
      clear cg
      rcases Nat.eq_or_lt_of_le hk with hke | hlt
      · have q1 : decide ((k : Int) < zl) = false := decide_eq_false (by omega)
        have q1n : ¬ k < zl := by omega
        clear hke hk
        obtain ⟨-, -, -, -, -, -, y6, y7, y8, -⟩ : YC wr q ⟨F.y.OF, s.ot, F.y.OE, F.y.EF, F.y.EF, F.y.EE, F.y.TF, F.y.TF, F.y.TE, F.y.FF, F.y.FF, F.y.FE, F.y.th⟩ := HQ11.out.yc
        go_wp2_with fail
        clear y6 y7 y8 q1 q1n
        refine (L2.used_is F.y.TF F.y.TF F.y.TE _ HRI.out (v := 0) (by omega)).mono ?_
        rintro e w12 ⟨rfl, c12⟩
        have HCT12 := hide (HCT11.out.grow c12)
        have HG12 := hide (HG11.out.trans c12)
        have hp12 := HP11.out.chg c12 id
        obtain ⟨-, -, -, -, -, -, -, -, -, -, -, -, -, -, -, -, c19⟩ := lf_rc hp12
        clear c12 hp12
        go_wp2_with fail
        clear c19
        refine (L7.tb_all HCT12.out (HTAB.out.chg HG12.out id) (l := []) (cds_no _ _)).mono ?_
        rintro e w13 ⟨v13, rfl, hv13, c13⟩
        obtain ⟨oa, ocap, rfl⟩ := own_len hv13
        have HG13 := hide (HG12.out.trans c13)
        clear hv13 c13
        go_wp2
        go_ret
        exact ⟨rfl, HG13.out.below (fun _ _ h => h) (Nat.le_refl _)⟩
      · have q1 : decide ((k : Int) < zl) = true := decide_eq_true (by omega)
        have q2 : k < zl := hlt
        have hw : IntKind.i64.wrap ((k : Int) + 1) = ((k + 1 : Nat) : Int) := (IntWalk.i64_in _ (by have := HZN.out; omega)).trans (by omega)
        have HWK := hide hw
        clear hw
        obtain ⟨ag, ac, e1, -, -⟩ := HOL11.out.pos (by have := HN.out; omega)
        have lx := HOL11.out
        rw [e1] at lx
        have lx := lx.cell (k := k) (by have := HN.out; omega)
        obtain ⟨X, hX⟩ : ∃ X, rs.getD k 0 = X := ⟨_, rfl⟩
        have hXin : X ∈ rs := by rw [← hX]; exact getD_mem (by have := HN.out; omega)
        have HXI := hide (HIN.out X hXin)
        rw [hX] at lx
        injection e1 with e1
        subst e1
        have s5 : (0 : Int) ≤ (k : Int) := by omega
        have s6 : (k : Int) < (zl : Int) := by omega
        clear hX hXin hk hlt
        obtain ⟨y0, y1, y2, -⟩ : YC wr q ⟨F.y.OF, s.ot, F.y.OE, F.y.EF, F.y.EF, F.y.EE, F.y.TF, F.y.TF, F.y.TE, F.y.FF, F.y.FF, F.y.FE, F.y.th⟩ := HQ11.out.yc
        go_upto_region 13 with fail
        by_cases hX0 : X = 0
        · have q3 : (X != 0) = false := by simp [hX0]
          have q4 : (X == 0) = true := by simp [hX0]
          refine wp_region_grow (by kernel_rfl) (by kernel_rfl) ?_
          repeat (
            with_reducible refine wpQuiet_step ?_
            intro K hK
            first
              | ((with_reducible refine quiet_offT rfl ?_ (hK _ ?_)); focus (refine ⟨_, rfl, ?_⟩; with_reducible rfl))
              | ((with_reducible refine quiet_offF rfl ?_ (hK _ ?_)); focus (refine ⟨_, rfl, ?_⟩; with_reducible rfl))
              | ((with_reducible refine quiet_offN rfl ?_ (hK _ ?_)); focus (exact rfl))
              | ((first | with_reducible refine quiet_free rfl ?_ | ((with_reducible refine quiet_on rfl ?_ ?_); focus (refine ⟨_, rfl, ?_⟩; with_reducible rfl)))
                 apply Exists.intro
                 refine ⟨fun Wq hW => ?_, hK _ ?_⟩
                 focus (have q0 := Grow.cell hW lx; have q1 := Grow.cell hW y0; have q2 := Grow.cell hW y1; have q3 := Grow.cell hW y2; go_simp; first | done | with_reducible rfl))
            clear hK K
            simp only [Act.put, List.setIfInBounds_toArray, List.set_cons_zero, List.set_cons_succ])
          with_reducible refine wpQuiet_nil ?_
          intro w12 c12
          have HC12 := hide (HCG.out.trans c12)
          clear c12 lx y0 y1 y2 hX0
          have hwk := HWK.out
          go_wp2_with fail
          go_roundw
          case rel => exact ⟨k + 1, q2, rfl, HC12.out⟩
          case measure => clear hwk; simp [intOf]; omega
        · have q3 : (X != 0) = true := by simpa using hX0
          have HHB := hide (HXI.out.resolve_left hX0)
          refine wp_region_grow (by kernel_rfl) (by kernel_rfl) ?_
          repeat (
            with_reducible refine wpQuiet_step ?_
            intro K hK
            first
              | ((with_reducible refine quiet_offT rfl ?_ (hK _ ?_)); focus (refine ⟨_, rfl, ?_⟩; with_reducible rfl))
              | ((with_reducible refine quiet_offF rfl ?_ (hK _ ?_)); focus (refine ⟨_, rfl, ?_⟩; with_reducible rfl))
              | ((with_reducible refine quiet_offN rfl ?_ (hK _ ?_)); focus (exact rfl))
              | ((first | with_reducible refine quiet_free rfl ?_ | ((with_reducible refine quiet_on rfl ?_ ?_); focus (refine ⟨_, rfl, ?_⟩; with_reducible rfl)))
                 apply Exists.intro
                 refine ⟨fun Wq hW => ?_, hK _ ?_⟩
                 focus (have q0 := Grow.cell hW lx; have q1 := Grow.cell hW y0; have q2 := Grow.cell hW y1; have q3 := Grow.cell hW y2; go_simp; first | done | with_reducible rfl | (go_at_call 19; (first | with_reducible exact grown_call hW (L2.has_is F.y.OF s.ot F.y.OE X _ HHB.out) | with_reducible exact grown_same hW (L2.has_is F.y.OF s.ot F.y.OE X _ HHB.out)))))
            clear hK K
            simp only [Act.put, List.setIfInBounds_toArray, List.set_cons_zero, List.set_cons_succ])
          with_reducible refine wpQuiet_nil ?_
          intro w12 c12
          have HC12 := hide (HCG.out.trans c12)
          clear c12 lx y0 y1 y2 hX0
          have hwk := HWK.out
          go_wp2_with fail
          go_roundw
          case rel => exact ⟨k + 1, q2, rfl, HC12.out⟩
          case measure => clear hwk; simp [intOf]; omega
  | false =>
    as_aux_lemma =>
    obtain ⟨hb2, gB, -⟩ := boxes1 w 27 [.slice ca cl cc, .slice ta tl tc, .slice ra0 rl rc0, .slice za zl zc, .int .u8 hf, .int .u8 0]
    have HU : Hid (IsWo (w.alloc (.cells [.slice ca cl cc, .slice ta tl tc, .slice ra0 rl rc0, .slice za zl zc, .int .u8 hf, .int .u8 0].toArray 27)) ⟨ca, cl, cc, ta, tl, tc, ra0, rl, rc0, za, zl, zc, hf, 0⟩ cs gs ts zs) := hide (by
      have := HU0.out.chg gB fun _ _ => id
      exact ⟨this.c, this.t, this.r, this.z, this.hb, show (0 : Int) ≤ 0 ∧ (0 : Int) ≤ 255 by decide⟩)
    have HG := hide gB
    clear gB hb2 HU0
    go_enter Tryz.func6, Tryz.ntmps6
    go_wp2_with fail
    clear k0 k1 k2 k3 k4 k5 f4 f5
    generalize w.alloc (.cells #[.slice ca cl cc, .slice ta tl tc, .slice ra0 rl rc0, .slice za zl zc, .int .u8 hf, .int .u8 0] 27) = w1 at *
    refine (made_any HU.out).mono ?_
    rintro e w3 ⟨CL, ok, rfl, hln, h21, hone, c3, hq⟩
    have HQ := hide hq
    have HG3 := hide (HG.out.trans c3)
    have HLN := hide hln
    have H21 := hide h21
    have HONE := hide hone
    have HBL := hide (Blk.new w3 40 lf0)
    clear hq c3 hln h21 hone
    go_upto_region 5 with (refine wpList_store_row rfl 40 _ _ rfl w3.heap.size CL.toArray (by rfl) (by rfl) 40 lf0.toArray HBL.out H21.out HLN.out HONE.out ?_)
    obtain ⟨hp, gp⟩ := new_life w3 CL
    clear HBL H21 HLN HONE
    generalize (w3.alloc (.cells lf0.toArray 40)).setRow w3.heap.size CL.toArray = w4 at *
    generalize hpe : w3.heap.size = p at *
    have HG4 := hide (HG3.out.trans gp)
    have HP4 := hide hp
    have HGP := hide gp
    have HPE := hide hpe
    clear hp gp hpe HG3
    go_wp2_with fail
    refine (awake_any _).mono ?_
    rintro e w5 ⟨rfl, c5⟩
    have HG5 := hide (HG4.out.trans c5)
    have HC5 := hide c5
    clear c5
    rcases HQ.out with ⟨rfl, -⟩ | ⟨rfl, hgd, xs, z, yl, b, tp, g, pc, mc, gc, av, rv, rfl, m⟩
    · skip
      go_wp2_with fail
      refine (awake_any _).mono ?_
      rintro e w6 ⟨rfl, c6⟩
      have HG6 := hide (HG5.out.trans c6)
      clear c6
      go_wp2
      go_ret
      exact ⟨rfl, HG6.out.below (fun _ _ h => h) (Nat.le_refl _)⟩
    have hp := HP4.out
    have hzn : ((finF cs (hf % 101) (0 % 8) gs ts zs).zs).length = zl := by
      show (zs.map _).length = zl
      rw [List.length_map]
      exact HU.out.z.1
    have hz20 : zl ≤ 20 := hgd.2.2.1
    obtain ⟨ra, rc, rfl, hrd⟩ := ((m.rl.grow HGP.out).grow HC5.out).form
    dsimp only at hrd hp m
    rw [hzn] at hrd hp
    have hth : (finF cs (hf % 101) (0 % 8) gs ts zs).y.th = 0 % 8 := fin_cs.2
    have hyy := m.bd.y
    dsimp only at hyy
    obtain ⟨F, hF⟩ : ∃ F, finF cs (hf % 101) (0 % 8) gs ts zs = F := ⟨_, rfl⟩
    obtain ⟨A, hA⟩ : ∃ A, (fin0 cs (hf % 101) (0 % 8) gs ts).zs = A := ⟨_, rfl⟩
    rw [hF] at m hp hzn hth hyy hrd
    rw [hA] at m
    have HD := hide ((m.sd.grow HGP.out).grow HC5.out)
    have HP5 := hide (hp.chg HC5.out id)
    have HT0 := hide (show F.y.TE = F.y.TF ∨ F.y.th = 0 from (.inr (by omega)))
    have HNP := hide (show ¬ p = g ∧ ¬ p = gc ∧ w.heap.size ≤ g ∧ w.heap.size ≤ gc ∧ p < w5.heap.size from by
      have h1 := m.pl
      have h2 := m.lo.gz
      have h3 := HPE.out
      have h4 := HG.out.size
      have h5 := (hp.chg HC5.out id).lt
      exact ⟨by omega, by omega, by omega, by omega, h5⟩)
    have HZN := hide (show F.zs.length = zl ∧ zl ≤ 20 from ⟨hzn, hz20⟩)
    have HZR := hide m.zr
    have HRUN := hide (HD.out.run (rc := rc) hrd (by omega) HZR.out)
    clear hF hA m hp hzn hz20 hrd hgd HQ HP4 hth hyy
    obtain ⟨c0, c1, c4, c5, c6, c7, c8, c9, c10, c11, c12, c13, c14, c15, c16, c18, c19⟩ := lf_rc HP5.out
    go_wp2_with fail
    clear c0 c1 c4 c5 c6 c7 c8 c9 c10 c11 c12 c13 c14 c15 c16 c18 c19
    refine HRUN.out.mono ?_
    rintro e w9 (⟨-, rfl, c9⟩ | ⟨-, v, rs, s, rfl, R⟩)
    · have HG9 := hide (HG5.out.trans c9)
      clear c9
      go_upto_region 8 with fail
      have gq := Grow.box w9 (.cells [.int .i64 0, .int .i64 0, .int .i64 0, .int .i64 0, .int .i64 0, .int .i64 0, .int .i64 0, .int .i64 0, .int .i64 0, .int .i64 0, .int .i64 0, .int .i64 0, .int .i64 0].toArray 36)
      have HG10 := hide (HG9.out.trans gq)
      clear gq
      generalize w9.alloc (.cells #[.int .i64 0, .int .i64 0, .int .i64 0, .int .i64 0, .int .i64 0, .int .i64 0, .int .i64 0, .int .i64 0, .int .i64 0, .int .i64 0, .int .i64 0, .int .i64 0, .int .i64 0] 36) = w10 at *
      clear HRUN HZR HZN HNP HT0 HP5 HD HC5 HG5 HPE HGP HG4 HU HTAB HG9
      go_wp2
      go_ret
      exact ⟨rfl, HG10.out.below (fun _ _ h => h) (Nat.le_refl _)⟩
    have wf' := HD.out.wf.zs F.zs
    have hlt : s.LT = [] := HT0.out.elim (fun h => fin_half0 wf' R.i h) (fun h => fin_th0 wf' R.i h)
    have htt : s.tt = F.y.TF := lt_nil R.i hlt
    have hin := run_memb HD.out.wf R HZR.out
    have hseg := R.i.so
    have hok := (R.sd HD.out).wf.ok
    have hin2 : ∀ x ∈ rs, x = 0 ∨ L2.hasB F.y.OF s.ot F.y.OE x = true := fun x hx => by
      rcases hin x hx with h | h
      · exact .inl h
      · right
        have h' : x ∈ (F.OS ++ s.PO) ++ ([] ++ s.LT) := h
        rw [hlt, List.append_nil, List.append_nil] at h'
        have h1 := hseg.bd h'
        have h2 := hok.o
        have h3 := sz_pos (s.ob x)
        have h4 : F.y.OF ≤ x ∧ x + ((s.ob x).sz : Int) ≤ s.ot := h1
        have h5 : 1 ≤ F.y.OF ∧ F.y.OF ≤ s.ot ∧ s.ot ≤ F.y.OE ∧ F.y.OE ≤ 4096 := ⟨h2.1, h2.2.1, h2.2.2.1, h2.2.2.2.1⟩
        exact (has_iff (by omega)).2 (by omega)
    have hn : rs.length = zl := R.n.trans HZN.out.1
    have hrec : recS (F.y.aft s.ot s.tt) s.ob 1 401 (F.OS ++ s.PO) = no := recS_no fun o => ld_none rfl htt o
    have hct := R.ct
    rw [show recS ((({ F with zs := F.zs } : Fx).y).aft s.ot s.tt) s.ob 1 401 (({ F with zs := F.zs } : Fx).OS ++ s.PO) = no from hrec] at hct
    have hri : L2.riB F.y.TF F.y.TF F.y.TE = true := by have := hok.ris.2.2.1; rw [show ((F.aft s rs).y.FT) = F.y.TF from htt] at this; exact this
    have HRI := hide hri
    have HIN := hide hin2
    have HN := hide hn
    have HOL := hide R.ol
    obtain ⟨va, vc, rfl, -⟩ := R.ol.form
    rw [hn]
    have ev : (F.y.aft s.ot s.tt).v = .agg #[.int .i64 F.y.OF, .int .i64 s.ot, .int .i64 F.y.OE, .int .i64 F.y.EF, .int .i64 F.y.EF, .int .i64 F.y.EE, .int .i64 F.y.TF, .int .i64 F.y.TF, .int .i64 F.y.TE, .int .i64 F.y.FF, .int .i64 F.y.FF, .int .i64 F.y.FE, .int .i64 F.y.th] := by rw [htt]
    rw [ev]
    have hnp := HNP.out
    have HG9 := hide (HG5.out.step R.c fun i hi e => by have e' : i = g ∨ i = gc := e; omega)
    have HP9 := hide (HP5.out.chg R.c (show ¬ (p = g ∨ p = gc) by omega))
    clear R wf' hlt htt hin hseg hok hin2 hrec hri ev hn hnp
    go_upto_region 8 with fail
    have hq := Blk.new w9 36 [.int .i64 F.y.OF, .int .i64 s.ot, .int .i64 F.y.OE, .int .i64 F.y.EF, .int .i64 F.y.EF, .int .i64 F.y.EE, .int .i64 F.y.TF, .int .i64 F.y.TF, .int .i64 F.y.TE, .int .i64 F.y.FF, .int .i64 F.y.FF, .int .i64 F.y.FE, .int .i64 F.y.th]
    have gq := Grow.box w9 (.cells [.int .i64 F.y.OF, .int .i64 s.ot, .int .i64 F.y.OE, .int .i64 F.y.EF, .int .i64 F.y.EF, .int .i64 F.y.EE, .int .i64 F.y.TF, .int .i64 F.y.TF, .int .i64 F.y.TE, .int .i64 F.y.FF, .int .i64 F.y.FF, .int .i64 F.y.FE, .int .i64 F.y.th].toArray 36)
    have HG10 := hide (HG9.out.trans gq)
    have HP10 := hide (HP9.out.chg gq id)
    have HOL10 := hide (HOL.out.grow gq)
    have HCT10 := hide (hct.grow gq)
    clear gq HG9 HP9 HOL hct
    generalize w9.alloc (.cells #[.int .i64 F.y.OF, .int .i64 s.ot, .int .i64 F.y.OE, .int .i64 F.y.EF, .int .i64 F.y.EF, .int .i64 F.y.EE, .int .i64 F.y.TF, .int .i64 F.y.TF, .int .i64 F.y.TE, .int .i64 F.y.FF, .int .i64 F.y.FF, .int .i64 F.y.FE, .int .i64 F.y.th] 36) = w10 at *
    generalize w9.heap.size = q at *
    have HQ10 := hide hq
    clear hq
    go_wp2_with fail
    go_loopw [47] (fun v wr => ∃ k : Nat, k ≤ zl ∧ v = .int .i64 k ∧ Grow w10 wr) (fun v _ => zl - (intOf v).toNat)
    case atStart => exact ⟨0, Nat.zero_le _, rfl, Chg.refl _ _⟩
    case round =>
      obtain ⟨k, hk, rfl, cg⟩ := hrel
      have HP11 := hide (HP10.out.chg cg id)
      have HCT11 := hide (HCT10.out.grow cg)
      have HOL11 := hide (HOL10.out.grow cg)
      have HQ11 := hide (HQ10.out.chg cg id)
      have HG11 := hide (HG10.out.trans cg)
      have HCG := hide cg
      clear cg
      rcases Nat.eq_or_lt_of_le hk with hke | hlt
      · have q1 : decide ((k : Int) < zl) = false := decide_eq_false (by omega)
        have q1n : ¬ k < zl := by omega
        clear hke hk
        obtain ⟨-, -, -, -, -, -, y6, y7, y8, -⟩ : YC wr q ⟨F.y.OF, s.ot, F.y.OE, F.y.EF, F.y.EF, F.y.EE, F.y.TF, F.y.TF, F.y.TE, F.y.FF, F.y.FF, F.y.FE, F.y.th⟩ := HQ11.out.yc
        go_wp2_with fail
        clear y6 y7 y8 q1 q1n
        refine (L2.used_is F.y.TF F.y.TF F.y.TE _ HRI.out (v := 0) (by omega)).mono ?_
        rintro e w12 ⟨rfl, c12⟩
        have HCT12 := hide (HCT11.out.grow c12)
        have HG12 := hide (HG11.out.trans c12)
        have hp12 := HP11.out.chg c12 id
        obtain ⟨-, -, -, -, -, -, -, -, -, -, -, -, -, -, -, -, c19⟩ := lf_rc hp12
        clear c12 hp12
        go_wp2_with fail
        clear c19
        refine (L7.tb_all HCT12.out (HTAB.out.chg HG12.out id) (l := []) (cds_no _ _)).mono ?_
        rintro e w13 ⟨v13, rfl, hv13, c13⟩
        obtain ⟨oa, ocap, rfl⟩ := own_len hv13
        have HG13 := hide (HG12.out.trans c13)
        clear hv13 c13
        go_wp2
        go_ret
        exact ⟨rfl, HG13.out.below (fun _ _ h => h) (Nat.le_refl _)⟩
      · have q1 : decide ((k : Int) < zl) = true := decide_eq_true (by omega)
        have q2 : k < zl := hlt
        have hw : IntKind.i64.wrap ((k : Int) + 1) = ((k + 1 : Nat) : Int) := (IntWalk.i64_in _ (by have := HZN.out; omega)).trans (by omega)
        have HWK := hide hw
        clear hw
        obtain ⟨ag, ac, e1, -, -⟩ := HOL11.out.pos (by have := HN.out; omega)
        have lx := HOL11.out
        rw [e1] at lx
        have lx := lx.cell (k := k) (by have := HN.out; omega)
        obtain ⟨X, hX⟩ : ∃ X, rs.getD k 0 = X := ⟨_, rfl⟩
        have hXin : X ∈ rs := by rw [← hX]; exact getD_mem (by have := HN.out; omega)
        have HXI := hide (HIN.out X hXin)
        rw [hX] at lx
        injection e1 with e1
        subst e1
        have s5 : (0 : Int) ≤ (k : Int) := by omega
        have s6 : (k : Int) < (zl : Int) := by omega
        clear hX hXin hk hlt
        obtain ⟨y0, y1, y2, -⟩ : YC wr q ⟨F.y.OF, s.ot, F.y.OE, F.y.EF, F.y.EF, F.y.EE, F.y.TF, F.y.TF, F.y.TE, F.y.FF, F.y.FF, F.y.FE, F.y.th⟩ := HQ11.out.yc
        go_upto_region 13 with fail
        by_cases hX0 : X = 0
        · have q3 : (X != 0) = false := by simp [hX0]
          have q4 : (X == 0) = true := by simp [hX0]
          refine wp_region_grow (by kernel_rfl) (by kernel_rfl) ?_
          repeat (
            with_reducible refine wpQuiet_step ?_
            intro K hK
            first
              | ((with_reducible refine quiet_offT rfl ?_ (hK _ ?_)); focus (refine ⟨_, rfl, ?_⟩; with_reducible rfl))
              | ((with_reducible refine quiet_offF rfl ?_ (hK _ ?_)); focus (refine ⟨_, rfl, ?_⟩; with_reducible rfl))
              | ((with_reducible refine quiet_offN rfl ?_ (hK _ ?_)); focus (exact rfl))
              | ((first | with_reducible refine quiet_free rfl ?_ | ((with_reducible refine quiet_on rfl ?_ ?_); focus (refine ⟨_, rfl, ?_⟩; with_reducible rfl)))
                 apply Exists.intro
                 refine ⟨fun Wq hW => ?_, hK _ ?_⟩
                 focus (have q0 := Grow.cell hW lx; have q1 := Grow.cell hW y0; have q2 := Grow.cell hW y1; have q3 := Grow.cell hW y2; go_simp; first | done | with_reducible rfl))
            clear hK K
            simp only [Act.put, List.setIfInBounds_toArray, List.set_cons_zero, List.set_cons_succ])
          with_reducible refine wpQuiet_nil ?_
          intro w12 c12
          have HC12 := hide (HCG.out.trans c12)
          clear c12 lx y0 y1 y2 hX0
          have hwk := HWK.out
          go_wp2_with fail
          go_roundw
          case rel => exact ⟨k + 1, q2, rfl, HC12.out⟩
          case measure => clear hwk; simp [intOf]; omega
        · have q3 : (X != 0) = true := by simpa using hX0
          have HHB := hide (HXI.out.resolve_left hX0)
          refine wp_region_grow (by kernel_rfl) (by kernel_rfl) ?_
          repeat (
            with_reducible refine wpQuiet_step ?_
            intro K hK
            first
              | ((with_reducible refine quiet_offT rfl ?_ (hK _ ?_)); focus (refine ⟨_, rfl, ?_⟩; with_reducible rfl))
              | ((with_reducible refine quiet_offF rfl ?_ (hK _ ?_)); focus (refine ⟨_, rfl, ?_⟩; with_reducible rfl))
              | ((with_reducible refine quiet_offN rfl ?_ (hK _ ?_)); focus (exact rfl))
              | ((first | with_reducible refine quiet_free rfl ?_ | ((with_reducible refine quiet_on rfl ?_ ?_); focus (refine ⟨_, rfl, ?_⟩; with_reducible rfl)))
                 apply Exists.intro
                 refine ⟨fun Wq hW => ?_, hK _ ?_⟩
                 focus (have q0 := Grow.cell hW lx; have q1 := Grow.cell hW y0; have q2 := Grow.cell hW y1; have q3 := Grow.cell hW y2; go_simp; first | done | with_reducible rfl | (go_at_call 19; (first | with_reducible exact grown_call hW (L2.has_is F.y.OF s.ot F.y.OE X _ HHB.out) | with_reducible exact grown_same hW (L2.has_is F.y.OF s.ot F.y.OE X _ HHB.out)))))
            clear hK K
            simp only [Act.put, List.setIfInBounds_toArray, List.set_cons_zero, List.set_cons_succ])
          with_reducible refine wpQuiet_nil ?_
          intro w12 c12
          have HC12 := hide (HCG.out.trans c12)
          clear c12 lx y0 y1 y2 hX0
          have hwk := HWK.out
          go_wp2_with fail
          go_roundw
          case rel => exact ⟨k + 1, q2, rfl, HC12.out⟩
          case measure => clear hwk; simp [intOf]; omega

theorem own : ownKnob Tryz.prog.godebug = none := by kernel_rfl
theorem laidOut : laidOutB Tryz.prog = true := by kernel_rfl
theorem door_met (os : Os) (args : Array Value) : laidMetH Tryz.prog Rows.scavengeTenuresRow.laid ((World.doorLaid Tryz.prog 400 os).forCall (fun _ _ => 0) ⟨#[], args, []⟩).memory :=
  laidMetH_of_parts3 (fuel := 8) (laidMet_of_run' 8 (by kernel_rfl) (by kernel_rfl)) (by kernel_rfl) (by kernel_rfl)

set_option maxRecDepth 100000 in
theorem lifted (os : Os) (started : os.Started) (H : Type) (enc : TypeId × Value → H) :
    ReturnsInHanded {} Tryz.checked os 6 .any (fun w args => (Rows.scavengeTenuresSpec.pre enc Tryz.prog Tryz.f6 [] false w args ∧ laidMetH Tryz.prog Rows.scavengeTenuresRow.laid w) ∧ sizedMet enc Tryz.prog Tryz.f6 (OpenSpec.ofChange Rows.scavengeTenuresSpec) false w args) (Rows.scavengeTenuresSpec.post enc Tryz.prog Tryz.f6 false true false false) := by
  refine returnsInHanded_of_change_and (C := Tryz.checked) (X := fun w _ => laidMetH Tryz.prog Rows.scavengeTenuresRow.laid w) (fun _ _ _ hh h => h.of_heap hh) own started (by kernel_rfl) Tryz.func6
    (ChangeSpec.witness_shaped (enc := enc) (C := Tryz.checked) (os := os) (X := fun w _ => laidMetH Tryz.prog Rows.scavengeTenuresRow.laid w) false (World.doorLaid Tryz.prog 400 os) #[.agg #[.slice none 0 0, .slice none 0 0, .slice none 0 0, .slice none 0 0, .int .u8 0, .int .u8 0], .bool false] 8 rfl (World.shaped_of_RefB (by kernel_rfl) (by kernel_rfl)) (by kernel_rfl) (by kernel_rfl) (by kernel_rfl) (door_met os _)) ?_
  intro W base args ds gs before hval0 hW _ _ hL _
  have hval : ∀ (j : Nat) t v, Tryz.f6.params[j]? = some t → args[j]? = some v → Value.okWide Tryz.prog W .any base t v := hval0
  have hW' := hW
  obtain ⟨p, q, hA0, hV, rfl, hfz, hnd⟩ := hW
  have hA : DataW.TrodAll enc Tryz.prog W 0 (fun _ => true) true Tryz.f6.params.toList args.toList ds p := hA0
  rw [Tryz.params6] at hA hval
  obtain ⟨v0, vs0, d0, ds0, p0, q0, hargs, rfl, rfl, h0, r0⟩ := trodAll_cons hA
  obtain ⟨v1, vs1, d1, ds1, p1, q1, rfl, rfl, rfl, h1, r1⟩ := trodAll_cons r0
  obtain ⟨rfl, rfl, rfl⟩ := trodAll_nil r1
  obtain rfl : args = #[v0, v1] := by cases args; simp_all
  obtain ⟨rfl, rfl⟩ := trodVars_none hV
  have k0 := h0
  have lt0 : ∀ x ∈ p0, x.block < W.heap.size := by obtain ⟨m, hm⟩ := k0; exact DataW.trod_lt m _ _ _ hm
  obtain ⟨u0, cs0, gs0, ts0, zs0, rfl, w0⟩ := open_world (hval 0 27 v0 rfl rfl) h0
  obtain ⟨a1, rfl, rfl, rfl⟩ := open_bool Tryz.underlying4 (hval 1 4 v1 rfl rfl) h1
  clear hA0 hval0
  refine (walk u0 cs0 gs0 ts0 zs0 a1 W (L3.tab_of_laid hL) w0).mono fun e W' ⟨he, bel⟩ => ?_
  subst he
  exact ⟨_, rfl, _, _, _, [], _, [], hW', trodAll_mk1 (shut_bool Tryz.underlying4 _), (trodAll_cons_mk (Below.trod laidOut (by kernel_rfl) (of_decide_eq_true (by kernel_rfl)) k0 bel lt0) (trodAll_cons_mk (shut_bool Tryz.underlying4 _) trodAll_mk0)), rfl, bel.frame _, fun h => by cases h⟩

theorem over : Rows.scavengeTenuresRow.holds Tryz.pinned (OpenSpec.ofChange Rows.scavengeTenuresSpec) :=
  OpenClaim.holds_of_wide 6 Tryz.f6 rfl rfl rfl rfl rfl rfl rfl ⟨rfl, rfl, rfl, rfl, rfl⟩ rfl rfl rfl rfl rfl (by kernel_rfl) Tryz.func6 (by kernel_rfl)
    (of_decide_eq_true (by kernel_rfl)) (by unfold Func.isWrapper; first | (rw [if_pos (by decide +kernel)]; kernel_rfl) | (rw [if_neg (by decide +kernel)]; exact ⟨rfl, rfl⟩))
    (fun os started H enc _ => lifted os started H enc)

/-- The statement. -/
theorem proved : Rows.ScavengeTenuresCardSaid :=
  Claim7.holds_tied_plain_at .later [] [.data] true Rows.scavengeTenuresCard.stood.harness false
    over (fun _ h => by cases h) (by kernel_rfl) (fun _ h => by cases h) scavengeTenures_row_tie rfl ⟨rfl, rfl⟩ (by kernel_rfl) rfl
    (fun f fn hf hfn => by
      obtain rfl : f = 6 := Option.some.inj ((show Tryz.prog.funcNamed "gleaning/gleaninglaw15.ScavengeTenures" = some 6 by kernel_rfl).symm.trans hf) |>.symm
      obtain rfl : fn = Tryz.f6 := (Option.some.inj (Tryz.func6.symm.trans hfn)).symm
      exact ⟨by kernel_rfl, fun j t ht => by
        rw [Tryz.params6] at ht
        have hm : t ∈ [27, 4] := by simpa using Array.mem_of_getElem? ht
        have hall : ([27, 4].all fun u => !Tryz.prog.wantsStandIn u) = true := by kernel_rfl
        exact (show Tryz.prog.wantsStandIn t = false by simpa using List.all_eq_true.1 hall t hm)⟩)
    (by kernel_rfl)
#print axioms proved
end Go.Proofs.YtogfjclmohpjkaaGreatDoor.scavengeTenures


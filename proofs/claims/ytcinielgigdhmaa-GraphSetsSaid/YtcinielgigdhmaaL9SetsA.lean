/- GraphSets where SetNum is called, too. Conditions: the calls are few, the classes can be. -/
import Derived.Test.YtcinielgigdhmaaL9SetsP
namespace Go.Proofs.Ytcinielgigdhmaa.graphSets
open Go.ChangeShapes Go.WideShapes Go.ChangeAt Go.RowKit Go.Proofs.Ytcinielgigdhmaa.L9
open Go.Proofs.Ytcinielgigdhmaa.L5 (Cl clAt IsCls newX)
set_option linter.unusedVariables false
section
variable {w : World} {a a1 : Option Addr} {len cap len1 cap1 : Nat} {cs : List Cl} {l : List Oq} {o : Oq}
set_option maxRecDepth 100000 in
set_option maxHeartbeats 8000000 in
theorem walk_odd (hc : IsCls w a len cap cs) (ho : IsOps w a1 len1 cap1 l) (hoo : o.Ok w) (hfl : fewB l = true) (hfo : fewB [o] = true) (hl : len ≤ 100) (hX : newX cs = 0) (hodd : (o.k.tmod 2 == 1) = true) :
    Calls Try.prog 8 #[.slice a len cap, .slice a1 len1 cap1, .agg o.cells.toArray] w fun e w' => e = .returned (.bool true) ∧ Below w.heap.size w w' := by
  have HFL := hide hfl
  have HFO := hide hfo
  have HNX := hide hX
  have q1 : decide ((len : Int) > 100) = false := by simp; omega
  clear hfl hfo hX
  have HCL := hide hc
  have HOPS := hide ho
  have HO := hide hoo
  clear hc ho hoo
  have hb := Blk.new w 39 o.cells
  have cc := Grow.box w (.cells o.cells.toArray 39)
  go_enter Try.func8, Try.ntmps8
  go_wp2_with fail
  generalize w.alloc (.cells o.cells.toArray 39) = wb at *
  refine (awake_any _).mono ?_
  rintro e w1 ⟨rfl, c1⟩
  replace hb := hb.chg c1 id
  replace cc := cc.trans c1
  clear c1
  go_wp2_with fail
  refine (few_any (HOPS.out.chg cc fun _ _ => id)).mono ?_
  rintro e w' ⟨rfl, rfl⟩
  rw [HFL.out]
  have x0 : w1.cell? ⟨w.heap.size, 0, none⟩ = some (.int .i64 o.k) := hb.cell 0
  have x1 : w1.cell? ⟨w.heap.size, 1, none⟩ = some (.int .i64 o.a) := hb.cell 1
  have x2 : w1.cell? ⟨w.heap.size, 2, none⟩ = some (.int .i64 o.b) := hb.cell 2
  have x3 : w1.cell? ⟨w.heap.size, 3, none⟩ = some (.int .i64 o.c) := hb.cell 3
  have x4 : w1.cell? ⟨w.heap.size, 4, none⟩ = some (.slice o.la o.ll o.lc) := hb.cell 4
  have HF := hide (few_any (IsOps.one (Blk.new w1 39 o.cells) (HO.out.chg (cc.alloc _) fun _ _ => id)))
  replace hb := hb.alloc (.cells o.cells.toArray 39)
  replace cc := cc.alloc (.cells o.cells.toArray 39)
  go_wp2_with fail
  clear x0 x1 x2 x3 x4
  refine HF.out.mono ?_
  rintro e w2 ⟨rfl, rfl⟩
  rw [HFO.out]
  clear HF
  generalize w1.alloc (.cells o.cells.toArray 39) = w2 at *
  go_wp2_with fail
  refine (L5.rnew_any _ _ _ _ _ (HCL.out.chg cc fun _ _ => id) hl).mono ?_
  rintro e w3 ⟨rfl, c3⟩
  rw [HNX.out]
  replace cc := cc.trans c3
  
  replace hb := hb.chg c3 id
  clear c3
  go_wp2_with fail
  refine (new_tz (HCL.out.chg cc fun _ _ => id) hl HNX.out).mono ?_
  rintro e w4 ⟨tb, rfl, ht, c4⟩
  obtain ⟨z, hz⟩ : ∃ z, w4.heap.size = z := ⟨_, rfl⟩
  rw [hz] at ht
  have HZ := hide (And.intro (show w.heap.size ≤ z by rw [← hz]; exact Nat.le_trans cc.size c4.size) (Nat.le_of_eq hz.symm))
  have cz : Chg (fun k => w.heap.size ≤ k) w w4 := (cc.trans c4).mono fun _ _ h => h.elim
  clear cc
  replace hb := hb.chg c4 id
  have HBZ := hide (show w.heap.size < z by rw [← hz]; exact hb.lt)
  clear c4 hz
  go_wp2_with fail
  refine (new_gr ht HZ.out.2).mono ?_
  rintro e w5 ⟨p, Sg, rfl, c5, hg, hsg⟩
  have ht2 := ht.grow c5
  have hz5 := Nat.le_trans HZ.out.2 c5.size
  clear ht
  go_wp2_with fail
  refine (new_gr ht2 hz5).mono ?_
  rintro e w6 ⟨q, Sh, rfl, c6, hh, hsh⟩
  have HT := hide (show Two w6 z Sg Sh p q cs [] [] from ⟨hg.grow c6, hh, fun k hk hs => by have := (hg.s hk).2; have := hsh k hs; omega⟩)
  replace cz := cz.step (c5.trans c6) fun _ _ h => h.elim
  replace hb := (hb.chg c5 id).chg c6 id
  clear c5 c6 hg hh hsg hsh ht2 hz5
  have HLN := hide (And.intro HOPS.out.1 (fewB_ll HFL.out))
  go_wp2_with fail
  refine (play_any HT.out.g HOPS.out cz HZ.out.1 (by simp) (by have := HLN.out; omega)).mono ?_
  rintro e w7 ⟨rfl, hp⟩
  obtain ⟨Sg1, T1, c7⟩ := HT.out.fst' hp
  replace hb := hb.chg c7 (fun h => by have := (HT.out.g.s h).1; have := HBZ.out; omega)
  replace cz := cz.step c7 fun i _ h => Nat.le_trans HZ.out.1 (HT.out.g.s h).1
  replace HT := hide T1
  clear T1 c7 hp
  go_wp2_with fail
  refine (play_any HT.out.h HOPS.out cz HZ.out.1 (by simp) (by have := HLN.out; omega)).mono ?_
  rintro e w8 ⟨rfl, hp⟩
  obtain ⟨Sh1, T1, c8⟩ := HT.out.snd' hp
  replace hb := hb.chg c8 (fun h => by have := (HT.out.h.s h).1; have := HBZ.out; omega)
  replace cz := cz.step c8 fun i _ h => Nat.le_trans HZ.out.1 (HT.out.h.s h).1
  replace HT := hide T1
  have HLB := hide (pl_bd (cs := cs) HFL.out)
  clear T1 c8 hp HLN HOPS HFL HFO HCL HNX
  generalize plL cs [] l = Lp at *
  have x1 : w8.cell? ⟨w.heap.size, 1, none⟩ = some (.int .i64 o.a) := hb.cell 1
  have x2 : w8.cell? ⟨w.heap.size, 2, none⟩ = some (.int .i64 o.b) := hb.cell 2
  have x3 : w8.cell? ⟨w.heap.size, 3, none⟩ = some (.int .i64 o.c) := hb.cell 3
  go_wp2_with fail
  clear x1 x2 x3
  refine (setref_gs HT.out.g HO.out.a HO.out.b HO.out.c).mono ?_
  rintro e w9 ⟨rfl, c9, hg9⟩
  replace hb := hb.chg c9 (fun h => by have := (HT.out.g.s h).1; have := HBZ.out; omega)
  replace cz := cz.step c9 fun i _ h => Nat.le_trans HZ.out.1 (HT.out.g.s h).1
  replace HT := hide (HT.out.fst c9 hg9)
  clear c9 hg9
  have x0 : w9.cell? ⟨w.heap.size, 0, none⟩ = some (.int .i64 o.k) := hb.cell 0
  have x1 : w9.cell? ⟨w.heap.size, 1, none⟩ = some (.int .i64 o.a) := hb.cell 1
  have x2 : w9.cell? ⟨w.heap.size, 2, none⟩ = some (.int .i64 o.b) := hb.cell 2
  have x3 : w9.cell? ⟨w.heap.size, 3, none⟩ = some (.int .i64 o.c) := hb.cell 3
  have HXR := hide (show ∀ x : Nd, bR Lp o x = (decide (x.id = o.a) && decide (srX Lp o.a o.b o.c = 0)) from fun _ => rfl)
  have HXD := hide (show ∀ x : Nd, bD Lp o true x = (decide (x.id = o.a) && (true && decide (snX (srL Lp o.a o.b o.c) o.a o.b = 0))) from fun _ => rfl)
  go_wp2_with fail
  clear x0 x1 x2 x3
  refine (setnum_gs HT.out.g o.c HO.out.a HO.out.b).mono ?_
  rintro e w10 ⟨rfl, c10, hg10⟩
  replace hb := hb.chg c10 (fun h => by have := (HT.out.g.s h).1; have := HBZ.out; omega)
  replace cz := cz.step c10 fun i _ h => Nat.le_trans HZ.out.1 (HT.out.g.s h).1
  have HT2 := hide (show Two w10 z Sg1 Sh1 p q cs (seL Lp o true) Lp from HT.out.fst c10 hg10)
  clear c10 hg10 HT
  generalize srX Lp o.a o.b o.c = X at *
  generalize snX (srL Lp o.a o.b o.c) o.a o.b = F at *
  go_wp2_with fail
  refine (ids_gs HT2.out.h (by have := HLB.out; omega)).mono ?_
  rintro e w11 ⟨ia, ic, rfl, hrow, c11⟩
  have hbl := hb.lt
  replace hb := hb.chg c11 id
  replace cz := cz.step c11 fun _ _ h => h.elim
  have HSB := hide (show w10.heap.size ≤ w11.heap.size ∧ w.heap.size < w10.heap.size from ⟨c11.size, hbl⟩)
  replace HT2 := hide (HT2.out.grow c11)
  clear c11 hbl
  have HROW := hide hrow
  have HB := hide hb
  have HCZ := hide cz
  obtain ⟨n, hn⟩ : ∃ n, Lp.length = n := ⟨_, rfl⟩
  rw [hn] at hrow HROW HLB
  have HN := hide hn
  clear hrow hb cz
  try clear x0 x1 x2 x3
  go_wp2_with fail
  go_loopw [82] (fun i wr => ∃ j : Nat, j ≤ n ∧ i = .int .i64 j ∧ Grow w11 wr) (fun i _ => n - (Go.RowKit.intOf i).toNat)
  case atStart => exact ⟨0, Nat.zero_le _, rfl, Chg.refl _ _⟩
  case round =>
    obtain ⟨j, hj, rfl, gg⟩ := hrel
    rcases Nat.eq_or_lt_of_le hj with rfl | hlt
    · have q2 : decide ((j : Int) < j) = false := by simp
      go_wp2
      go_ret
      exact ⟨rfl, (HCZ.out.step gg fun _ _ h => h.elim).below (fun i hi h => by omega) (Nat.le_refl _)⟩
    · have q2 : decide ((j : Int) < n) = true := by simp; omega
      obtain ⟨x, hxj⟩ : ∃ x, Lp[j]? = some x := ⟨_, List.getElem?_eq_getElem (by rw [HN.out]; exact hlt)⟩
      have hxm := List.mem_of_getElem? hxj
      have hnd := nd_mem HT2.out.h.srt hxm
      have hse := se_nd Lp o true hnd
      have hok := HT2.out.h.ok hxm
      have HIN := hide (And.intro (fun h => bR_in (o := o) hnd h) (fun h => bD_in (o := o) (odd := true) hnd h))
      have HRD := hide (And.intro (HXR.out x) (HXD.out x))
      obtain ⟨gi, hia, -, hgi, -, hcj⟩ := own_at (own_grow HROW.out gg) hlt
      have HGI := hide (And.intro hgi (show w.heap.size < wr.heap.size by have := HSB.out; have := gg.size; omega))
      clear hgi
      rw [show (Lp.map Nd.id).getD j 0 = x.id by simp [List.getD_eq_getElem?_getD, hxj]] at hcj
      subst hia
      obtain ⟨xi, xc, xr, xd, xf⟩ := x
      unfold seN at hse
      dsimp only at hcj hse hnd
      obtain ⟨rs, hrs⟩ : ∃ rs, rs = (if bR Lp o ⟨xi, xc, xr, xd, xf⟩ then xr.set o.b.toNat o.c else xr) := ⟨_, rfl⟩
      obtain ⟨ds, hds⟩ : ∃ ds, ds = (if bD Lp o true ⟨xi, xc, xr, xd, xf⟩ then xd.set o.b.toNat o.c else xd) := ⟨_, rfl⟩
      rw [← hrs, ← hds] at hse
      obtain ⟨n1, h1⟩ : ∃ n1, xr.length = n1 := ⟨_, rfl⟩
      obtain ⟨m1, h2⟩ : ∃ m1, xd.length = m1 := ⟨_, rfl⟩
      have h3 : rs.length = n1 := by rw [hrs]; split <;> simp [h1]
      have h4 : ds.length = m1 := by rw [hds]; split <;> simp [h2]
      have HLEN := hide (And.intro (And.intro h1 h2) (And.intro (show n1 ≤ 1000000 by have := hok.rl; simp at this; omega) (show m1 ≤ 1000000 by have := hok.dl; simp at this; omega)))
      have hid : In64 xi := hok.id2
      have HRS := hide hrs
      have HDS := hide hds
      have HK := hide hlt
      have HLB2 := HLB.out
      have hw : IntKind.i64.wrap ((j : Int) + 1) = ((j + 1 : Nat) : Int) := (IntWalk.i64_in _ (by omega)).trans (by omega)
      have HN1 := hide (node_tn (HT2.out.g.grow gg) hid hse h3 h4)
      have HN2 := hide (fun (W : World) (g : Grow _ W) => node_tn (HT2.out.h.grow (gg.trans g)) hid hnd h1 h2)
      have HG0 := hide gg.size
      have x0 : _ = some (Value.int .i64 o.k) := Grow.cell gg (HB.out.cell 0)
      have x1 : _ = some (Value.int .i64 o.a) := Grow.cell gg (HB.out.cell 1)
      have x2 : _ = some (Value.int .i64 o.b) := Grow.cell gg (HB.out.cell 2)
      have x3 : _ = some (Value.int .i64 o.c) := Grow.cell gg (HB.out.cell 3)
      clear hj hlt hxj hxm hnd hse hok hrs hds h1 h2 h3 h4 hid HLB2
      go_wp2_with fail
      refine HN1.out.mono ?_
      rintro e wa ⟨ar, car, ad, cad, rfl, ca, ta⟩
      have gA := ca.alloc (.cells #[.int .i64 xi, .int .i64 xc, .slice ar n1 car, .slice ad m1 cad, .bool xf] 45)
      have sA : (wa.alloc (.cells #[.int .i64 xi, .int .i64 xc, .slice ar n1 car, .slice ad m1 cad, .bool xf] 45)).heap.size = wa.heap.size + 1 := by simp
      replace hcj := Grow.cell gA hcj
      replace x0 := Grow.cell gA x0
      replace x1 := Grow.cell gA x1
      replace x2 := Grow.cell gA x2
      replace x3 := Grow.cell gA x3
      replace gg := gg.trans gA
      clear ca
      go_wp2_with fail
      generalize wa.alloc (.cells #[.int .i64 xi, .int .i64 xc, .slice ar n1 car, .slice ad m1 cad, .bool xf] 45) = wa2 at *
      generalize wa.heap.size = tA at *
      refine (HN2.out _ gA).mono ?_
      rintro e wb ⟨br, cbr, bd, cbd, rfl, cb, tb2⟩
      have gB := cb.alloc (.cells #[.int .i64 xi, .int .i64 xc, .slice br n1 cbr, .slice bd m1 cbd, .bool xf] 45)
      replace ta := ta.grow gB
      replace hcj := Grow.cell gB hcj
      replace x0 := Grow.cell gB x0
      replace x1 := Grow.cell gB x1
      replace x2 := Grow.cell gB x2
      replace x3 := Grow.cell gB x3
      replace gg := gg.trans gB
      have HSA := hide (And.intro sA cb.size)
      clear cb gA sA HN1 HN2
      go_wp2_with fail
      generalize wb.alloc (.cells #[.int .i64 xi, .int .i64 xc, .slice br n1 cbr, .slice bd m1 cbd, .bool xf] 45) = wb2 at *
      generalize wb.heap.size = tB at *
      clear gB
      by_cases e1 : xi = o.a
      · have hq1 : (xi == o.a) = true := by simpa using e1
        replace e1 := hide e1
        by_cases eX : X = 0
        · as_aux_lemma =>
          have hq2 : (X == 0) = true := by simpa using eX
          replace eX := hide eX
          have hbr : bR Lp o ⟨xi, xc, xr, xd, xf⟩ = true := by rw [HRD.out.1]; simp [e1.out, eX.out]
          obtain ⟨hb0, hb1⟩ := HIN.out.1 hbr
          obtain ⟨nb, hnb⟩ := Int.eq_ofNat_of_zero_le hb0
          have hkR : nb < n1 := by have := HLEN.out.1.1; rw [hnb, Int.toNat_natCast] at hb1; omega
          have HRE := hide (show rs = xr.set nb o.c by rw [HRS.out, if_pos hbr, hnb]; rfl)
          rw [hnb] at x2
          have HNB := hide hnb
          clear hbr hb0 hb1 hnb
          refine wp_region_grow (by kernel_rfl) (by kernel_rfl) ?_
          repeat (
            with_reducible refine wpQuiet_step ?_
            intro K hK
            first
              | ((with_reducible refine quiet_offT rfl ?_ (hK _ ?_)); focus (refine ⟨_, rfl, ?_⟩; with_reducible rfl))
              | ((with_reducible refine quiet_offF rfl ?_ (hK _ ?_)); focus (refine ⟨_, rfl, ?_⟩; with_reducible rfl))
              | ((with_reducible refine quiet_offN rfl ?_ (hK _ ?_)); focus (exact rfl))
              | ((first | with_reducible refine quiet_free rfl ?_ | ((with_reducible refine quiet_on rfl ?_ ?_); focus (refine ⟨_, rfl, ?_⟩; with_reducible rfl)))
                 apply Exists.intro
                 refine ⟨fun Wq hW => ?_, hK _ ?_⟩
                 focus (have q0 := Grow.cell hW hcj; have q1 := Grow.cell hW x0; have q2 := Grow.cell hW x1; go_simp; first | done | with_reducible rfl))
            clear hK K
            simp only [Act.put, List.setIfInBounds_toArray, List.set_cons_zero, List.set_cons_succ])
          with_reducible refine wpQuiet_nil ?_
          intro w16 cw16
          replace hcj := Grow.cell cw16 hcj
          replace x0 := Grow.cell cw16 x0
          replace x1 := Grow.cell cw16 x1
          replace x2 := Grow.cell cw16 x2
          replace x3 := Grow.cell cw16 x3
          replace ta := ta.grow cw16
          replace tb2 := tb2.grow cw16
          replace gg := gg.trans cw16
          clear cw16
          obtain ⟨gr, hbe, hlo, hhi, yc, yf, tn⟩ := tb2.setR hkR o.c
          have y2 := tb2.cells.2.2.1
          subst hbe
          have hgr : tA + 1 ≤ gr := by have := HSA.out; omega
          have hwt : wr.heap.size ≤ tA := ta.tl.1
          have cS : Chg (· = gr) w16 (w16.setCell ⟨gr, nb, none⟩ (.int .i64 o.c)) := (Chg.refl _ _).set1 _ _
          have hA := ta.chg cS (fun k h1 h2 e => by omega)
          have hg2 : Grow w11 (w16.setCell ⟨gr, nb, none⟩ (.int .i64 o.c)) := Fresh.put (show w11.heap.size ≤ gr by have := HG0.out; omega) gg nb _
          have hcj' := Chg.cell cS hcj (by have := HGI.out; show ¬ gi = gr; omega)
          have x0' := Chg.cell cS x0 (by have := HGI.out; show ¬ w.heap.size = gr; omega)
          have x1' := Chg.cell cS x1 (by have := HGI.out; show ¬ w.heap.size = gr; omega)
          have x2' := Chg.cell cS x2 (by have := HGI.out; show ¬ w.heap.size = gr; omega)
          have x3' := Chg.cell cS x3 (by have := HGI.out; show ¬ w.heap.size = gr; omega)
          have HST := hide (And.intro hA (And.intro tn hg2))
          generalize xr.getD nb 0 = yv at yc
          clear ta tb2 gg hg2 cS hlo hhi
          clear hA tn
          go_wp2_with fail
          skip
          clear hcj x0 x1 x2 x3 y2 yc yf
          generalize w16.setCell ⟨gr, nb, none⟩ (.int .i64 o.c) = w17 at *
          have hcj := hcj'
          have x0 := x0'
          have x1 := x1'
          have x2 := x2'
          have x3 := x3'
          have ta := HST.out.1
          have tb2 := HST.out.2.1
          have gg := HST.out.2.2
          clear hcj' x0' x1' x2' x3' HST
          by_cases eF : F = 0
          · as_aux_lemma =>
            have hq3 : (F == 0) = true := by simpa using eF
            replace eF := hide eF
            have hbd : bD Lp o true ⟨xi, xc, xr, xd, xf⟩ = true := by rw [HRD.out.2]; simp [e1.out, eF.out]
            obtain ⟨-, hb1⟩ := HIN.out.2 hbd
            have hkD : nb < m1 := by have := HLEN.out.1.2; rw [HNB.out, Int.toNat_natCast] at hb1; omega
            have HDE := hide (show ds = xd.set nb o.c by rw [HDS.out, if_pos hbd, HNB.out]; rfl)
            clear hbd hb1
            refine wp_region_grow (by kernel_rfl) (by kernel_rfl) ?_
            repeat (
              with_reducible refine wpQuiet_step ?_
              intro K hK
              first
                | ((with_reducible refine quiet_offT rfl ?_ (hK _ ?_)); focus (refine ⟨_, rfl, ?_⟩; with_reducible rfl))
                | ((with_reducible refine quiet_offF rfl ?_ (hK _ ?_)); focus (refine ⟨_, rfl, ?_⟩; with_reducible rfl))
                | ((with_reducible refine quiet_offN rfl ?_ (hK _ ?_)); focus (exact rfl))
                | ((first | with_reducible refine quiet_free rfl ?_ | ((with_reducible refine quiet_on rfl ?_ ?_); focus (refine ⟨_, rfl, ?_⟩; with_reducible rfl)))
                   apply Exists.intro
                   refine ⟨fun Wq hW => ?_, hK _ ?_⟩
                   focus (have q0 := Grow.cell hW hcj; have q1 := Grow.cell hW x0; have q2 := Grow.cell hW x1; go_simp; first | done | with_reducible rfl))
              clear hK K
              simp only [Act.put, List.setIfInBounds_toArray, List.set_cons_zero, List.set_cons_succ])
            with_reducible refine wpQuiet_nil ?_
            intro w18 cw18
            replace hcj := Grow.cell cw18 hcj
            replace x0 := Grow.cell cw18 x0
            replace x1 := Grow.cell cw18 x1
            replace x2 := Grow.cell cw18 x2
            replace x3 := Grow.cell cw18 x3
            replace ta := ta.grow cw18
            replace tb2 := tb2.grow cw18
            replace gg := gg.trans cw18
            clear cw18
            obtain ⟨gd, hbe, hlo, hhi, yc, yf, tn⟩ := tb2.setD hkD o.c
            have y2 := tb2.cells.2.2.2.1
            subst hbe
            have hgr : tA + 1 ≤ gd := by have := HSA.out; omega
            have hwt : wr.heap.size ≤ tA := ta.tl.1
            have cS : Chg (· = gd) w18 (w18.setCell ⟨gd, nb, none⟩ (.int .i64 o.c)) := (Chg.refl _ _).set1 _ _
            have hA := ta.chg cS (fun k h1 h2 e => by omega)
            have hg2 : Grow w11 (w18.setCell ⟨gd, nb, none⟩ (.int .i64 o.c)) := Fresh.put (show w11.heap.size ≤ gd by have := HG0.out; omega) gg nb _
            have hcj' := Chg.cell cS hcj (by have := HGI.out; show ¬ gi = gd; omega)
            have x0' := Chg.cell cS x0 (by have := HGI.out; show ¬ w.heap.size = gd; omega)
            have x1' := Chg.cell cS x1 (by have := HGI.out; show ¬ w.heap.size = gd; omega)
            have x2' := Chg.cell cS x2 (by have := HGI.out; show ¬ w.heap.size = gd; omega)
            have x3' := Chg.cell cS x3 (by have := HGI.out; show ¬ w.heap.size = gd; omega)
            have HST := hide (And.intro hA (And.intro tn hg2))
            generalize xd.getD nb 0 = yv at yc
            clear ta tb2 gg hg2 cS hlo hhi
            obtain ⟨a0, a1', a2, a3, a4⟩ := hA.cells
            obtain ⟨b0, b1, b2, b3, b4⟩ := tn.cells
            clear hA tn
            go_wp2_with fail
            clear a0 a1' a2 a3 a4 b0 b1 b2 b3 b4
            clear hcj x0 x1 x2 x3 y2 yc yf
            generalize w18.setCell ⟨gd, nb, none⟩ (.int .i64 o.c) = w19 at *
            have hcj := hcj'
            have x0 := x0'
            have x1 := x1'
            have x2 := x2'
            have x3 := x3'
            have ta := HST.out.1
            have tb2 := HST.out.2.1
            have gg := HST.out.2.2
            clear hcj' x0' x1' x2' x3' HST
            rw [HRE.out, HDE.out] at ta
            have hsm := same_tn ta tb2 HLEN.out.2.1 HLEN.out.2.2
            have HSM := hide hsm
            clear hsm hcj x0 x1 x2 x3 ta tb2
            refine HSM.out.mono ?_
            rintro e wz ⟨rfl, cz⟩
            replace gg := gg.trans cz
            clear cz
            go_wp2
            go_roundw
            case rel => exact ⟨j + 1, HK.out, rfl, gg⟩
            case measure => have := HK.out; simp [Go.RowKit.intOf]; omega
          · as_aux_lemma =>
            have hq3 : (F == 0) = false := by simpa using eF
            replace eF := hide eF
            have hbd : bD Lp o true ⟨xi, xc, xr, xd, xf⟩ = false := by rw [HRD.out.2]; simp [eF.out]
            have HDE := hide (show ds = xd by rw [HDS.out, hbd]; rfl)
            clear hbd
            refine wp_region_grow (by kernel_rfl) (by kernel_rfl) ?_
            repeat (
              with_reducible refine wpQuiet_step ?_
              intro K hK
              first
                | ((with_reducible refine quiet_offT rfl ?_ (hK _ ?_)); focus (refine ⟨_, rfl, ?_⟩; with_reducible rfl))
                | ((with_reducible refine quiet_offF rfl ?_ (hK _ ?_)); focus (refine ⟨_, rfl, ?_⟩; with_reducible rfl))
                | ((with_reducible refine quiet_offN rfl ?_ (hK _ ?_)); focus (exact rfl))
                | ((first | with_reducible refine quiet_free rfl ?_ | ((with_reducible refine quiet_on rfl ?_ ?_); focus (refine ⟨_, rfl, ?_⟩; with_reducible rfl)))
                   apply Exists.intro
                   refine ⟨fun Wq hW => ?_, hK _ ?_⟩
                   focus (have q0 := Grow.cell hW hcj; have q1 := Grow.cell hW x0; have q2 := Grow.cell hW x1; go_simp; first | done | with_reducible rfl))
              clear hK K
              simp only [Act.put, List.setIfInBounds_toArray, List.set_cons_zero, List.set_cons_succ])
            with_reducible refine wpQuiet_nil ?_
            intro w18 cw18
            replace hcj := Grow.cell cw18 hcj
            replace x0 := Grow.cell cw18 x0
            replace x1 := Grow.cell cw18 x1
            replace x2 := Grow.cell cw18 x2
            replace x3 := Grow.cell cw18 x3
            replace ta := ta.grow cw18
            replace tb2 := tb2.grow cw18
            replace gg := gg.trans cw18
            clear cw18
            rw [HRE.out, HDE.out] at ta
            have hsm := same_tn ta tb2 HLEN.out.2.1 HLEN.out.2.2
            obtain ⟨a0, a1', a2, a3, a4⟩ := ta.cells
            obtain ⟨b0, b1, b2, b3, b4⟩ := tb2.cells
            have HSM := hide hsm
            clear hsm hcj x0 x1 x2 x3 ta tb2
            go_wp2_with fail
            clear a0 a1' a2 a3 a4 b0 b1 b2 b3 b4
            refine HSM.out.mono ?_
            rintro e wz ⟨rfl, cz⟩
            replace gg := gg.trans cz
            clear cz
            go_wp2
            go_roundw
            case rel => exact ⟨j + 1, HK.out, rfl, gg⟩
            case measure => have := HK.out; simp [Go.RowKit.intOf]; omega
        · as_aux_lemma =>
          have hq2 : (X == 0) = false := by simpa using eX
          replace eX := hide eX
          have hbr : bR Lp o ⟨xi, xc, xr, xd, xf⟩ = false := by rw [HRD.out.1]; simp [eX.out]
          have HRE := hide (show rs = xr by rw [HRS.out, hbr]; rfl)
          clear hbr
          refine wp_region_grow (by kernel_rfl) (by kernel_rfl) ?_
          repeat (
            with_reducible refine wpQuiet_step ?_
            intro K hK
            first
              | ((with_reducible refine quiet_offT rfl ?_ (hK _ ?_)); focus (refine ⟨_, rfl, ?_⟩; with_reducible rfl))
              | ((with_reducible refine quiet_offF rfl ?_ (hK _ ?_)); focus (refine ⟨_, rfl, ?_⟩; with_reducible rfl))
              | ((with_reducible refine quiet_offN rfl ?_ (hK _ ?_)); focus (exact rfl))
              | ((first | with_reducible refine quiet_free rfl ?_ | ((with_reducible refine quiet_on rfl ?_ ?_); focus (refine ⟨_, rfl, ?_⟩; with_reducible rfl)))
                 apply Exists.intro
                 refine ⟨fun Wq hW => ?_, hK _ ?_⟩
                 focus (have q0 := Grow.cell hW hcj; have q1 := Grow.cell hW x0; have q2 := Grow.cell hW x1; go_simp; first | done | with_reducible rfl))
            clear hK K
            simp only [Act.put, List.setIfInBounds_toArray, List.set_cons_zero, List.set_cons_succ])
          with_reducible refine wpQuiet_nil ?_
          intro w16 cw16
          replace hcj := Grow.cell cw16 hcj
          replace x0 := Grow.cell cw16 x0
          replace x1 := Grow.cell cw16 x1
          replace x2 := Grow.cell cw16 x2
          replace x3 := Grow.cell cw16 x3
          replace ta := ta.grow cw16
          replace tb2 := tb2.grow cw16
          replace gg := gg.trans cw16
          clear cw16
          go_wp2_with fail
          by_cases eF : F = 0
          · as_aux_lemma =>
            have hq3 : (F == 0) = true := by simpa using eF
            replace eF := hide eF
            have hbd : bD Lp o true ⟨xi, xc, xr, xd, xf⟩ = true := by rw [HRD.out.2]; simp [e1.out, eF.out]
            obtain ⟨hb0, hb1⟩ := HIN.out.2 hbd
            obtain ⟨nb, hnb⟩ := Int.eq_ofNat_of_zero_le hb0
            have hkD : nb < m1 := by have := HLEN.out.1.2; rw [hnb, Int.toNat_natCast] at hb1; omega
            have HDE := hide (show ds = xd.set nb o.c by rw [HDS.out, if_pos hbd, hnb]; rfl)
            rw [hnb] at x2
            clear hbd hb0 hb1 hnb
            refine wp_region_grow (by kernel_rfl) (by kernel_rfl) ?_
            repeat (
              with_reducible refine wpQuiet_step ?_
              intro K hK
              first
                | ((with_reducible refine quiet_offT rfl ?_ (hK _ ?_)); focus (refine ⟨_, rfl, ?_⟩; with_reducible rfl))
                | ((with_reducible refine quiet_offF rfl ?_ (hK _ ?_)); focus (refine ⟨_, rfl, ?_⟩; with_reducible rfl))
                | ((with_reducible refine quiet_offN rfl ?_ (hK _ ?_)); focus (exact rfl))
                | ((first | with_reducible refine quiet_free rfl ?_ | ((with_reducible refine quiet_on rfl ?_ ?_); focus (refine ⟨_, rfl, ?_⟩; with_reducible rfl)))
                   apply Exists.intro
                   refine ⟨fun Wq hW => ?_, hK _ ?_⟩
                   focus (have q0 := Grow.cell hW hcj; have q1 := Grow.cell hW x0; have q2 := Grow.cell hW x1; go_simp; first | done | with_reducible rfl))
              clear hK K
              simp only [Act.put, List.setIfInBounds_toArray, List.set_cons_zero, List.set_cons_succ])
            with_reducible refine wpQuiet_nil ?_
            intro w18 cw18
            replace hcj := Grow.cell cw18 hcj
            replace x0 := Grow.cell cw18 x0
            replace x1 := Grow.cell cw18 x1
            replace x2 := Grow.cell cw18 x2
            replace x3 := Grow.cell cw18 x3
            replace ta := ta.grow cw18
            replace tb2 := tb2.grow cw18
            replace gg := gg.trans cw18
            clear cw18
            obtain ⟨gd, hbe, hlo, hhi, yc, yf, tn⟩ := tb2.setD hkD o.c
            have y2 := tb2.cells.2.2.2.1
            subst hbe
            have hgr : tA + 1 ≤ gd := by have := HSA.out; omega
            have hwt : wr.heap.size ≤ tA := ta.tl.1
            have cS : Chg (· = gd) w18 (w18.setCell ⟨gd, nb, none⟩ (.int .i64 o.c)) := (Chg.refl _ _).set1 _ _
            have hA := ta.chg cS (fun k h1 h2 e => by omega)
            have hg2 : Grow w11 (w18.setCell ⟨gd, nb, none⟩ (.int .i64 o.c)) := Fresh.put (show w11.heap.size ≤ gd by have := HG0.out; omega) gg nb _
            have hcj' := Chg.cell cS hcj (by have := HGI.out; show ¬ gi = gd; omega)
            have x0' := Chg.cell cS x0 (by have := HGI.out; show ¬ w.heap.size = gd; omega)
            have x1' := Chg.cell cS x1 (by have := HGI.out; show ¬ w.heap.size = gd; omega)
            have x2' := Chg.cell cS x2 (by have := HGI.out; show ¬ w.heap.size = gd; omega)
            have x3' := Chg.cell cS x3 (by have := HGI.out; show ¬ w.heap.size = gd; omega)
            have HST := hide (And.intro hA (And.intro tn hg2))
            generalize xd.getD nb 0 = yv at yc
            clear ta tb2 gg hg2 cS hlo hhi
            obtain ⟨a0, a1', a2, a3, a4⟩ := hA.cells
            obtain ⟨b0, b1, b2, b3, b4⟩ := tn.cells
            clear hA tn
            go_wp2_with fail
            clear a0 a1' a2 a3 a4 b0 b1 b2 b3 b4
            clear hcj x0 x1 x2 x3 y2 yc yf
            generalize w18.setCell ⟨gd, nb, none⟩ (.int .i64 o.c) = w19 at *
            have hcj := hcj'
            have x0 := x0'
            have x1 := x1'
            have x2 := x2'
            have x3 := x3'
            have ta := HST.out.1
            have tb2 := HST.out.2.1
            have gg := HST.out.2.2
            clear hcj' x0' x1' x2' x3' HST
            rw [HRE.out, HDE.out] at ta
            have hsm := same_tn ta tb2 HLEN.out.2.1 HLEN.out.2.2
            have HSM := hide hsm
            clear hsm hcj x0 x1 x2 x3 ta tb2
            refine HSM.out.mono ?_
            rintro e wz ⟨rfl, cz⟩
            replace gg := gg.trans cz
            clear cz
            go_wp2
            go_roundw
            case rel => exact ⟨j + 1, HK.out, rfl, gg⟩
            case measure => have := HK.out; simp [Go.RowKit.intOf]; omega
          · as_aux_lemma =>
            have hq3 : (F == 0) = false := by simpa using eF
            replace eF := hide eF
            have hbd : bD Lp o true ⟨xi, xc, xr, xd, xf⟩ = false := by rw [HRD.out.2]; simp [eF.out]
            have HDE := hide (show ds = xd by rw [HDS.out, hbd]; rfl)
            clear hbd
            refine wp_region_grow (by kernel_rfl) (by kernel_rfl) ?_
            repeat (
              with_reducible refine wpQuiet_step ?_
              intro K hK
              first
                | ((with_reducible refine quiet_offT rfl ?_ (hK _ ?_)); focus (refine ⟨_, rfl, ?_⟩; with_reducible rfl))
                | ((with_reducible refine quiet_offF rfl ?_ (hK _ ?_)); focus (refine ⟨_, rfl, ?_⟩; with_reducible rfl))
                | ((with_reducible refine quiet_offN rfl ?_ (hK _ ?_)); focus (exact rfl))
                | ((first | with_reducible refine quiet_free rfl ?_ | ((with_reducible refine quiet_on rfl ?_ ?_); focus (refine ⟨_, rfl, ?_⟩; with_reducible rfl)))
                   apply Exists.intro
                   refine ⟨fun Wq hW => ?_, hK _ ?_⟩
                   focus (have q0 := Grow.cell hW hcj; have q1 := Grow.cell hW x0; have q2 := Grow.cell hW x1; go_simp; first | done | with_reducible rfl))
              clear hK K
              simp only [Act.put, List.setIfInBounds_toArray, List.set_cons_zero, List.set_cons_succ])
            with_reducible refine wpQuiet_nil ?_
            intro w18 cw18
            replace hcj := Grow.cell cw18 hcj
            replace x0 := Grow.cell cw18 x0
            replace x1 := Grow.cell cw18 x1
            replace x2 := Grow.cell cw18 x2
            replace x3 := Grow.cell cw18 x3
            replace ta := ta.grow cw18
            replace tb2 := tb2.grow cw18
            replace gg := gg.trans cw18
            clear cw18
            rw [HRE.out, HDE.out] at ta
            have hsm := same_tn ta tb2 HLEN.out.2.1 HLEN.out.2.2
            obtain ⟨a0, a1', a2, a3, a4⟩ := ta.cells
            obtain ⟨b0, b1, b2, b3, b4⟩ := tb2.cells
            have HSM := hide hsm
            clear hsm hcj x0 x1 x2 x3 ta tb2
            go_wp2_with fail
            clear a0 a1' a2 a3 a4 b0 b1 b2 b3 b4
            refine HSM.out.mono ?_
            rintro e wz ⟨rfl, cz⟩
            replace gg := gg.trans cz
            clear cz
            go_wp2
            go_roundw
            case rel => exact ⟨j + 1, HK.out, rfl, gg⟩
            case measure => have := HK.out; simp [Go.RowKit.intOf]; omega
      · as_aux_lemma =>
        have hq1 : (xi == o.a) = false := by simpa using e1
        have HE := hide (show rs = xr ∧ ds = xd by
          have h1 := HRD.out.1
          have h2 := HRD.out.2
          simp only [decide_eq_false e1, Bool.false_and] at h1 h2
          exact ⟨by rw [HRS.out, h1]; rfl, by rw [HDS.out, h2]; rfl⟩)
        clear e1
        refine wp_region_grow (by kernel_rfl) (by kernel_rfl) ?_
        repeat (
          with_reducible refine wpQuiet_step ?_
          intro K hK
          first
            | ((with_reducible refine quiet_offT rfl ?_ (hK _ ?_)); focus (refine ⟨_, rfl, ?_⟩; with_reducible rfl))
            | ((with_reducible refine quiet_offF rfl ?_ (hK _ ?_)); focus (refine ⟨_, rfl, ?_⟩; with_reducible rfl))
            | ((with_reducible refine quiet_offN rfl ?_ (hK _ ?_)); focus (exact rfl))
            | ((first | with_reducible refine quiet_free rfl ?_ | ((with_reducible refine quiet_on rfl ?_ ?_); focus (refine ⟨_, rfl, ?_⟩; with_reducible rfl)))
               apply Exists.intro
               refine ⟨fun Wq hW => ?_, hK _ ?_⟩
               focus (have q0 := Grow.cell hW hcj; have q1 := Grow.cell hW x0; have q2 := Grow.cell hW x1; go_simp; first | done | with_reducible rfl))
          clear hK K
          simp only [Act.put, List.setIfInBounds_toArray, List.set_cons_zero, List.set_cons_succ])
        with_reducible refine wpQuiet_nil ?_
        intro w16 cw16
        replace hcj := Grow.cell cw16 hcj
        replace x0 := Grow.cell cw16 x0
        replace x1 := Grow.cell cw16 x1
        replace x2 := Grow.cell cw16 x2
        replace x3 := Grow.cell cw16 x3
        replace ta := ta.grow cw16
        replace tb2 := tb2.grow cw16
        replace gg := gg.trans cw16
        clear cw16
        go_wp2_with fail
        refine wp_region_grow (by kernel_rfl) (by kernel_rfl) ?_
        repeat (
          with_reducible refine wpQuiet_step ?_
          intro K hK
          first
            | ((with_reducible refine quiet_offT rfl ?_ (hK _ ?_)); focus (refine ⟨_, rfl, ?_⟩; with_reducible rfl))
            | ((with_reducible refine quiet_offF rfl ?_ (hK _ ?_)); focus (refine ⟨_, rfl, ?_⟩; with_reducible rfl))
            | ((with_reducible refine quiet_offN rfl ?_ (hK _ ?_)); focus (exact rfl))
            | ((first | with_reducible refine quiet_free rfl ?_ | ((with_reducible refine quiet_on rfl ?_ ?_); focus (refine ⟨_, rfl, ?_⟩; with_reducible rfl)))
               apply Exists.intro
               refine ⟨fun Wq hW => ?_, hK _ ?_⟩
               focus (have q0 := Grow.cell hW hcj; have q1 := Grow.cell hW x0; have q2 := Grow.cell hW x1; go_simp; first | done | with_reducible rfl))
          clear hK K
          simp only [Act.put, List.setIfInBounds_toArray, List.set_cons_zero, List.set_cons_succ])
        with_reducible refine wpQuiet_nil ?_
        intro w18 cw18
        replace hcj := Grow.cell cw18 hcj
        replace x0 := Grow.cell cw18 x0
        replace x1 := Grow.cell cw18 x1
        replace x2 := Grow.cell cw18 x2
        replace x3 := Grow.cell cw18 x3
        replace ta := ta.grow cw18
        replace tb2 := tb2.grow cw18
        replace gg := gg.trans cw18
        clear cw18
        rw [HE.out.1, HE.out.2] at ta
        have hsm := same_tn ta tb2 HLEN.out.2.1 HLEN.out.2.2
        obtain ⟨a0, a1', a2, a3, a4⟩ := ta.cells
        obtain ⟨b0, b1, b2, b3, b4⟩ := tb2.cells
        have HSM := hide hsm
        clear hsm hcj x0 x1 x2 x3 ta tb2
        go_wp2_with fail
        clear a0 a1' a2 a3 a4 b0 b1 b2 b3 b4
        refine HSM.out.mono ?_
        rintro e wz ⟨rfl, cz⟩
        replace gg := gg.trans cz
        clear cz
        go_wp2
        go_roundw
        case rel => exact ⟨j + 1, HK.out, rfl, gg⟩
        case measure => have := HK.out; simp [Go.RowKit.intOf]; omega
end
end Go.Proofs.Ytcinielgigdhmaa.graphSets

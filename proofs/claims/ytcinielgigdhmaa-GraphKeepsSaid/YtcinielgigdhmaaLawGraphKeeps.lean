/- For all classes, calls and numbers GraphKeeps answers true: what is kept is as it was, but for references to what is gone, which are 0; and kept once more nothing goes. Conditions: none. -/
import Derived.Test.YtcinielgigdhmaaL9KeepsP
namespace Go.Proofs.Ytcinielgigdhmaa.graphKeeps
open Go.ChangeShapes Go.WideShapes Go.ChangeAt Go.RowKit Go.Proofs.Ytcinielgigdhmaa.L9
open Go.Proofs.Ytcinielgigdhmaa.L5 (Cl clAt IsCls newX)
set_option linter.unusedVariables false
section
variable {w : World} {a a1 a2 : Option Addr} {len cap len1 cap1 len2 cap2 : Nat} {cs : List Cl} {l : List Oq} {zs : List Int}
set_option maxRecDepth 100000 in
set_option maxHeartbeats 2000000 in
theorem walk_no (hc : IsCls w a len cap cs) (ho : IsOps w a1 len1 cap1 l) (hr : IsRow .i64 w a2 len2 cap2 zs) (hn : ¬ (fewB l = true ∧ len2 ≤ 100 ∧ len ≤ 100 ∧ newX cs = 0)) :
    Calls Try.prog 4 #[.slice a len cap, .slice a1 len1 cap1, .slice a2 len2 cap2] w fun e w' => e = .returned (.bool true) ∧ Below w.heap.size w w' := by
  cases hfl : fewB l with
  | false =>
    have HFL := hide hfl
    clear hn
    have HCL := hide hc
    have HOPS := hide ho
    have HR := hide hr
    have cc := Chg.refl (fun _ => False) w
    clear hc ho hr
    go_enter Try.func4, Try.ntmps4
    go_wp2_with fail
    refine (awake_any _).mono ?_
    rintro e w1 ⟨rfl, c1⟩
    replace cc := cc.trans c1
    clear c1
    go_wp2_with fail
    refine (few_any (HOPS.out.chg cc fun _ _ => id)).mono ?_
    rintro e w' ⟨rfl, rfl⟩
    rw [HFL.out]
    go_wp2_with fail
    refine (awake_any _).mono ?_
    rintro e w9 ⟨rfl, c9⟩
    go_wp2
    go_ret
    exact ⟨rfl, (cc.trans c9).below (fun _ _ h => h) (Nat.le_refl _)⟩
  | true =>
    have HFL := hide hfl
    by_cases h1 : 100 < len2
    · have q0 : decide ((len2 : Int) > 100) = true := by simp; omega
      clear hn
      have HCL := hide hc
      have HOPS := hide ho
      have HR := hide hr
      have cc := Chg.refl (fun _ => False) w
      clear hc ho hr
      go_enter Try.func4, Try.ntmps4
      go_wp2_with fail
      refine (awake_any _).mono ?_
      rintro e w1 ⟨rfl, c1⟩
      replace cc := cc.trans c1
      clear c1
      go_wp2_with fail
      refine (few_any (HOPS.out.chg cc fun _ _ => id)).mono ?_
      rintro e w' ⟨rfl, rfl⟩
      rw [HFL.out]
      go_wp2_with fail
      refine (awake_any _).mono ?_
      rintro e w9 ⟨rfl, c9⟩
      go_wp2
      go_ret
      exact ⟨rfl, (cc.trans c9).below (fun _ _ h => h) (Nat.le_refl _)⟩
    · have q0 : decide ((len2 : Int) > 100) = false := by simp; omega
      by_cases hl : 100 < len
      · have q1 : decide ((len : Int) > 100) = true := by simp; omega
        clear hn
        have HCL := hide hc
        have HOPS := hide ho
        have HR := hide hr
        have cc := Chg.refl (fun _ => False) w
        clear hc ho hr
        go_enter Try.func4, Try.ntmps4
        go_wp2_with fail
        refine (awake_any _).mono ?_
        rintro e w1 ⟨rfl, c1⟩
        replace cc := cc.trans c1
        clear c1
        go_wp2_with fail
        refine (few_any (HOPS.out.chg cc fun _ _ => id)).mono ?_
        rintro e w' ⟨rfl, rfl⟩
        rw [HFL.out]
        go_wp2_with fail
        refine (awake_any _).mono ?_
        rintro e w9 ⟨rfl, c9⟩
        go_wp2
        go_ret
        exact ⟨rfl, (cc.trans c9).below (fun _ _ h => h) (Nat.le_refl _)⟩
      · have q1 : decide ((len : Int) > 100) = false := by simp; omega
        replace hl : len ≤ 100 := by omega
        obtain ⟨X, hX⟩ : ∃ X, newX cs = X := ⟨_, rfl⟩
        have hX0 : X ≠ 0 := fun e => hn ⟨hfl, by omega, hl, by rw [hX, e]⟩
        have q2 : (X != 0) = true := by simpa using hX0
        have HNX := hide hX
        clear hn hX hX0
        have HCL := hide hc
        have HOPS := hide ho
        have HR := hide hr
        have cc := Chg.refl (fun _ => False) w
        clear hc ho hr
        go_enter Try.func4, Try.ntmps4
        go_wp2_with fail
        refine (awake_any _).mono ?_
        rintro e w1 ⟨rfl, c1⟩
        replace cc := cc.trans c1
        clear c1
        go_wp2_with fail
        refine (few_any (HOPS.out.chg cc fun _ _ => id)).mono ?_
        rintro e w' ⟨rfl, rfl⟩
        rw [HFL.out]
        go_wp2_with fail
        refine (L5.rnew_any _ _ _ _ _ (HCL.out.chg cc fun _ _ => id) hl).mono ?_
        rintro e w3 ⟨rfl, c3⟩
        rw [HNX.out]
        replace cc := cc.trans c3
        
        go_wp2_with fail
        refine (awake_any _).mono ?_
        rintro e w9 ⟨rfl, c9⟩
        go_wp2
        go_ret
        exact ⟨rfl, (cc.trans c9).below (fun _ _ h => h) (Nat.le_refl _)⟩
set_option maxRecDepth 100000 in
set_option maxHeartbeats 8000000 in
theorem walk_main (hc : IsCls w a len cap cs) (ho : IsOps w a1 len1 cap1 l) (hr : IsRow .i64 w a2 len2 cap2 zs) (hfl : fewB l = true) (hl2 : len2 ≤ 100) (hl : len ≤ 100) (hX : newX cs = 0) :
    Calls Try.prog 4 #[.slice a len cap, .slice a1 len1 cap1, .slice a2 len2 cap2] w fun e w' => e = .returned (.bool true) ∧ Below w.heap.size w w' := by
  have HFL := hide hfl
  have HNX := hide hX
  have q0 : decide ((len2 : Int) > 100) = false := by simp; omega
  have q1 : decide ((len : Int) > 100) = false := by simp; omega
  have HL2 := hide hl2
  clear hfl hX
  have HCL := hide hc
  have HOPS := hide ho
  have HR := hide hr
  have cc := Chg.refl (fun _ => False) w
  clear hc ho hr
  go_enter Try.func4, Try.ntmps4
  go_wp2_with fail
  refine (awake_any _).mono ?_
  rintro e w1 ⟨rfl, c1⟩
  replace cc := cc.trans c1
  clear c1
  go_wp2_with fail
  refine (few_any (HOPS.out.chg cc fun _ _ => id)).mono ?_
  rintro e w' ⟨rfl, rfl⟩
  rw [HFL.out]
  go_wp2_with fail
  refine (L5.rnew_any _ _ _ _ _ (HCL.out.chg cc fun _ _ => id) hl).mono ?_
  rintro e w3 ⟨rfl, c3⟩
  rw [HNX.out]
  replace cc := cc.trans c3
  
  clear c3
  go_wp2_with fail
  refine (new_tz (HCL.out.chg cc fun _ _ => id) hl HNX.out).mono ?_
  rintro e w4 ⟨tb, rfl, ht, c4⟩
  obtain ⟨z, hz⟩ : ∃ z, w4.heap.size = z := ⟨_, rfl⟩
  rw [hz] at ht
  have HZ := hide (And.intro (show w.heap.size ≤ z by rw [← hz]; exact Nat.le_trans cc.size c4.size) (Nat.le_of_eq hz.symm))
  have cz : Chg (fun k => w.heap.size ≤ k) w w4 := (cc.trans c4).mono fun _ _ h => h.elim
  clear cc
  clear c4 hz q0 q1
  go_wp2_with fail
  refine (new_gr ht HZ.out.2).mono ?_
  rintro e w5 ⟨p, Sg, rfl, c5, hg, hsg⟩
  have ht2 := ht.grow c5
  have hz5 := Nat.le_trans HZ.out.2 c5.size
  clear ht
  go_wp2_with fail
  refine (new_gr ht2 hz5).mono ?_
  rintro e w6 ⟨q, Sh, rfl, c6, hh, hsh⟩
  have HT := hide (show Two w6 z Sg Sh p q cs [] [] from ⟨hg.grow c6, hh, fun k hk hs => by have := (hg.s hk).2; have := hsh k hs; omega⟩)
  replace cz := cz.step (c5.trans c6) fun _ _ h => h.elim
  clear c5 c6 hg hh hsg hsh ht2 hz5
  have HLN := hide (And.intro HOPS.out.1 (fewB_ll HFL.out))
  go_wp2_with fail
  refine (play_any HT.out.g HOPS.out cz HZ.out.1 (by simp) (by have := HLN.out; omega)).mono ?_
  rintro e w7 ⟨rfl, hp⟩
  obtain ⟨Sg1, T1, c7⟩ := HT.out.fst' hp
  replace cz := cz.step c7 fun i _ h => Nat.le_trans HZ.out.1 (HT.out.g.s h).1
  replace HT := hide T1
  clear T1 c7 hp
  go_wp2_with fail
  refine (play_any HT.out.h HOPS.out cz HZ.out.1 (by simp) (by have := HLN.out; omega)).mono ?_
  rintro e w8 ⟨rfl, hp⟩
  obtain ⟨Sh1, T1, c8⟩ := HT.out.snd' hp
  replace cz := cz.step c8 fun i _ h => Nat.le_trans HZ.out.1 (HT.out.h.s h).1
  replace HT := hide T1
  have HLB := hide (pl_bd (cs := cs) HFL.out)
  have HCLO := hide (clo_pl cs l [] (fun x hx => by cases hx))
  clear T1 c8 hp HLN HOPS HFL HCL HNX
  generalize plL cs [] l = Lp at *
  go_wp2_with fail
  refine (keep_gs HT.out.g (by have := HLB.out; omega) (HR.out.chg cz fun i hi h => by omega) (by have := HL2.out; omega)).mono ?_
  rintro e w9 ⟨rfl, c9, hg9⟩
  replace cz := cz.step c9 fun i _ h => Nat.le_trans HZ.out.1 (HT.out.g.s h).1
  have HKA := hide (fun x' (hx : x' ∈ kpL Lp zs) => kp_at HT.out.h.srt HCLO.out hx)
  have HKL := hide (kp_len Lp zs)
  replace HT := hide (HT.out.fst c9 hg9)
  clear c9 hg9 HCLO
  generalize kpL Lp zs = K at *
  generalize kpN Lp zs = M at *
  go_wp2_with fail
  refine (ids_gs HT.out.g (by have := HKL.out; have := HLB.out; omega)).mono ?_
  rintro e w10 ⟨ia, ic, rfl, hrow, c10⟩
  replace cz := cz.step c10 fun _ _ h => h.elim
  replace HT := hide (HT.out.grow c10)
  obtain ⟨n, hn⟩ : ∃ n, K.length = n := ⟨_, rfl⟩
  rw [hn] at hrow HKL
  have HROW := hide hrow
  have HCZ := hide cz
  have HN := hide hn
  have HR2 := hide (HR.out.chg cz fun i hi h => by omega)
  rw [hn]
  clear hrow cz c10 hn HR
  go_wp2_with fail
  go_loopw [64] (fun i wr => ∃ j : Nat, j ≤ n ∧ i = .int .i64 j ∧ Grow w10 wr) (fun i _ => n - (Go.RowKit.intOf i).toNat)
  case atStart => exact ⟨0, Nat.zero_le _, rfl, Chg.refl _ _⟩
  case round =>
    obtain ⟨j, hj, rfl, gg⟩ := hrel
    rcases Nat.eq_or_lt_of_le hj with rfl | hlt
    · as_aux_lemma =>
      have q2 : decide ((j : Int) < j) = false := by simp
      obtain ⟨n0, hn0⟩ : ∃ n0, Lp.length = n0 := ⟨_, rfl⟩
      have HN0 := hide hn0
      rw [hn0] at HKL HLB
      have hwr : IntKind.i64.wrap ((n0 : Int) - (j : Int)) = (M : Int) := (IntWalk.i64_in _ (by have := HKL.out; have := HLB.out; omega)).trans (by have := HKL.out; omega)
      have e1 : ((M : Int) == (M : Int)) = true := by simp
      have e2 : ((j : Int) == (j : Int)) = true := by simp
      have hin : ∀ x ∈ K.map Nd.id, In64 x := fun x hx => by
        obtain ⟨y, hy, rfl⟩ := List.mem_map.1 hx
        exact (HT.out.g.ok hy).id2
      have HIN := hide hin
      have HK0 := hide (show kpN K (K.map Nd.id) = 0 from kpN_all fun x hx => has_ids hx)
      have HK1 := hide (kp_len K (K.map Nd.id))
      clear hn0 hin hj
      go_wp2_with fail
      refine (ids_gs (HT.out.grow gg).h (by rw [HN0.out]; have := HLB.out; omega)).mono ?_
      rintro e wa ⟨ja, jc, rfl, -, ca⟩
      rw [HN0.out]
      have HGA := hide (gg.trans ca)
      clear gg ca
      go_wp2_with fail
      refine (keep_gs (HT.out.grow HGA.out).g (by rw [HN.out]; have := HKL.out; have := HLB.out; omega) (own_row (own_grow HROW.out HGA.out) HIN.out) (by have := HKL.out; have := HLB.out; omega)).mono ?_
      rintro e wb ⟨rfl, cb, hgb⟩
      rw [HK0.out]
      have HGB := hide hgb
      have HCB := hide cb
      clear cb hgb
      go_wp2_with fail
      refine (keep_gs HGB.out (by have := HK1.out; rw [HN.out] at this; have := HKL.out; have := HLB.out; omega) (own_row (xs := []) (World.ownsRow_nil wb 0 _ _) (by simp)) (by omega)).mono ?_
      rintro e wc ⟨rfl, cd, hgc⟩
      rw [show kpN (kpL K (K.map Nd.id)) [] = j by rw [(kp_nil _).2]; have := HK1.out; have := HK0.out; have := HN.out; omega]
      rw [(kp_nil _).1] at hgc
      have HGC := hide hgc
      have HCD := hide cd
      clear cd hgc
      go_wp2_with fail
      refine (words_gs HGC.out (by simp)).mono ?_
      rintro e wd ⟨rfl, ce⟩
      go_wp2
      go_ret
      refine ⟨rfl, ((((HCZ.out.step HGA.out fun _ _ h => h.elim).step HCB.out fun i _ h => ?_).step HCD.out fun i _ h => ?_).step ce fun _ _ h => h.elim).below (fun i hi h => by omega) (Nat.le_refl _)⟩
      · exact Nat.le_trans HZ.out.1 (HT.out.g.s h).1
      · exact Nat.le_trans HZ.out.1 (HT.out.g.s h).1
    · as_aux_lemma =>
      have q2 : decide ((j : Int) < n) = true := by simp; omega
      obtain ⟨x', hxj⟩ : ∃ x, K[j]? = some x := ⟨_, List.getElem?_eq_getElem (by rw [HN.out]; exact hlt)⟩
      have hxm := List.mem_of_getElem? hxj
      have hnk := nd_mem HT.out.g.srt hxm
      obtain ⟨x, hnd, hin, rfl⟩ := HKA.out x' hxm
      have hok := HT.out.h.ok (nd_some hnd).1
      obtain ⟨gi, hia, -, hgi, -, hcj⟩ := own_at (own_grow HROW.out gg) hlt
      rw [show (K.map Nd.id).getD j 0 = x.id by simp [List.getD_eq_getElem?_getD, hxj]] at hcj
      subst hia
      obtain ⟨xi, xc, xr, xd, xf⟩ := x
      dsimp only at hcj hnk hnd hin
      obtain ⟨rs, hrs⟩ : ∃ rs, rs = xr.map (c1 (fz zs)) := ⟨_, rfl⟩
      rw [← hrs] at hnk
      obtain ⟨n1, h1⟩ : ∃ n1, xr.length = n1 := ⟨_, rfl⟩
      obtain ⟨m1, h2⟩ : ∃ m1, xd.length = m1 := ⟨_, rfl⟩
      have h3 : rs.length = n1 := by rw [hrs]; simp [h1]
      have hid : In64 xi := hok.id2
      have HLEN := hide (And.intro h1 (And.intro (show n1 ≤ 1000000 by have := hok.rl; simp at this; omega) (show m1 ≤ 1000000 by have := hok.dl; simp at this; omega)))
      have HRS := hide hrs
      have HK := hide hlt
      have HIN := hide hin
      have HLB2 := HLB.out
      have HKL2 := HKL.out
      have hw : IntKind.i64.wrap ((j : Int) + 1) = ((j + 1 : Nat) : Int) := (IntWalk.i64_in _ (by omega)).trans (by omega)
      have HG0 := hide gg.size
      have HN1 := hide (node_tn (HT.out.g.grow gg) hid hnk h3 h2)
      have HN2 := hide (fun (W : World) (g : Grow _ W) => node_tn (HT.out.h.grow (gg.trans g)) hid hnd h1 h2)
      have HHAS := hide (fun (W : World) (g : Grow w10 W) (u : Int) => has_any (HR2.out.chg g fun _ _ => id) u (show len2 ≤ 1000000 by have := HL2.out; omega))
      clear hj hlt hxj hxm hnd hnk hok hrs h1 h2 h3 hid HLB2 HKL2 hin
      go_wp2_with fail
      refine HN1.out.mono ?_
      rintro e wa ⟨ar, car, ad, cad, rfl, ca, ta⟩
      have gA := ca.alloc (.cells #[.int .i64 xi, .int .i64 xc, .slice ar n1 car, .slice ad m1 cad, .bool xf] 45)
      have sA : (wa.alloc (.cells #[.int .i64 xi, .int .i64 xc, .slice ar n1 car, .slice ad m1 cad, .bool xf] 45)).heap.size = wa.heap.size + 1 := by simp
      replace hcj := Grow.cell gA hcj
      replace gg := gg.trans gA
      clear ca
      go_wp2_with fail
      generalize wa.alloc (.cells #[.int .i64 xi, .int .i64 xc, .slice ar n1 car, .slice ad m1 cad, .bool xf] 45) = wa2 at *
      generalize wa.heap.size = tA at *
      refine (HN2.out _ gA).mono ?_
      rintro e wb ⟨br, cbr, bd, cbd, rfl, cb, tb2⟩
      have gB := cb.alloc (.cells #[.int .i64 xi, .int .i64 xc, .slice br n1 cbr, .slice bd m1 cbd, .bool xf] 45)
      replace ta := ta.grow gB
      replace hcj := Grow.cell gB hcj
      replace gg := gg.trans gB
      have HSA := hide (And.intro sA cb.size)
      clear cb gA sA HN1 HN2
      go_wp2_with fail
      generalize wb.alloc (.cells #[.int .i64 xi, .int .i64 xc, .slice br n1 cbr, .slice bd m1 cbd, .bool xf] 45) = wb2 at *
      generalize wb.heap.size = tB at *
      clear gB
      refine (HHAS.out _ gg xi).mono ?_
      rintro e w2 ⟨rfl, hq⟩
      rw [HIN.out]
      have cd : Grow wb2 w2 := by obtain ⟨q, rfl⟩ := hq; exact (Chg.refl _ _).drewN q
      replace ta := ta.grow cd
      replace tb2 := tb2.grow cd
      replace gg := gg.trans cd
      clear hq cd hcj
      have y2 := tb2.cells.2.2.1
      have H0 := hide (And.intro gg (And.intro ta tb2))
      clear gg ta tb2
      go_wp2_with fail
      clear y2
      generalize wr.heap.size = lo1 at *
      generalize wa2.heap.size = lo2 at *
      go_loopw [103] (fun v wq => ∃ k : Nat, k ≤ n1 ∧ v = .int .i64 k ∧ Grow w10 wq ∧ Tn wq tA xi xc xf n1 m1 ar car ad cad rs xd lo1 (tA + 1) ∧ Tn wq tB xi xc xf n1 m1 br cbr bd cbd (clK (fz zs) xr k) xd lo2 (tB + 1)) (fun v _ => n1 - (Go.RowKit.intOf v).toNat)
      case atStart => exact ⟨0, Nat.zero_le _, rfl, H0.out.1, H0.out.2.1, by rw [clK_zero]; exact H0.out.2.2⟩
      case round =>
        obtain ⟨k, hk, rfl, gq, ta, tb⟩ := hrel
        clear H0
        rcases Nat.eq_or_lt_of_le hk with rfl | hlt
        · have q3 : decide ((k : Int) < k) = false := by simp
          rw [show clK (fz zs) xr k = rs by rw [HRS.out, ← HLEN.out.1, clK_all]] at tb
          have hsm := same_tn ta tb HLEN.out.2.1 HLEN.out.2.2
          obtain ⟨a0, a1', a2', a3, a4⟩ := ta.cells
          obtain ⟨b0, b1, b2, b3, b4⟩ := tb.cells
          have HSM := hide hsm
          clear hsm ta tb hk
          go_wp2_with fail
          clear a0 a1' a2' a3 a4 b0 b1 b2 b3 b4
          refine HSM.out.mono ?_
          rintro e wz ⟨rfl, cz⟩
          replace gq := gq.trans cz
          clear cz
          go_wp2
          go_roundw
          case rel => exact ⟨j + 1, HK.out, rfl, gq⟩
          case measure => have := HK.out; simp [Go.RowKit.intOf]; omega
        · have q3 : decide ((k : Int) < n1) = true := by simp; omega
          obtain ⟨g, hbe, hlo, -, -, yc⟩ := own_at tb.r hlt
          rw [clK_get] at yc
          have y2 := tb.cells.2.2.1
          subst hbe
          have hgr : tA + 1 ≤ g := by have := HSA.out; omega
          have hwt : lo1 ≤ tA := ta.tl.1
          have hw3 : IntKind.i64.wrap ((k : Int) + 1) = ((k + 1 : Nat) : Int) := (IntWalk.i64_in _ (by have := HLEN.out; omega)).trans (by omega)
          have HKK := hide hlt
          have HGQ := hide gq
          have HTA := hide ta
          have HTB := hide tb
          have HORD := hide (And.intro hgr hwt)
          obtain ⟨u, hu⟩ : ∃ u, xr.getD k 0 = u := ⟨_, rfl⟩
          have HST := hide (clK_step (f := fz zs) xr k (by rw [HLEN.out.1]; exact hlt))
          have HSK := hide (clK_skip (f := fz zs) xr k (by rw [HLEN.out.1]; exact hlt))
          rw [hu] at HST HSK yc
          have HC1 := hide (HHAS.out _ gq u)
          clear hk hlt hu gq ta tb hgr hwt hlo
          cases hb : hasB zs u with
          | true =>
            have HB := hide hb
            clear hb
            go_wp2_with fail
            refine HC1.out.mono ?_
            rintro e w3 ⟨rfl, hq⟩
            rw [HB.out]
            have cd : Grow wr w3 := by obtain ⟨q, rfl⟩ := hq; exact (Chg.refl _ _).drewN q
            clear hq y2 yc
            go_wp2
            go_roundw
            case rel => exact ⟨k + 1, HKK.out, rfl, HGQ.out.trans cd, HTA.out.grow cd, by rw [HSK.out (c1_yes HB.out)]; exact HTB.out.grow cd⟩
            case measure => have := HKK.out; simp [Go.RowKit.intOf]; omega
          | false =>
            have HB := hide hb
            clear hb
            go_wp2_with fail
            refine HC1.out.mono ?_
            rintro e w3 ⟨rfl, hq⟩
            rw [HB.out]
            have cd : Grow wr w3 := by obtain ⟨q, rfl⟩ := hq; exact (Chg.refl _ _).drewN q
            clear hq y2 yc
            have y2 := (HTB.out.grow cd).cells.2.2.1
            obtain ⟨g', hbe, hlo, hhi, yc, yf, tn⟩ := (HTB.out.grow cd).setR HKK.out 0
            injection hbe with hbe
            injection hbe with hbe
            subst hbe
            rw [clK_get] at yc
            have cS : Chg (· = g) w3 (w3.setCell ⟨g, k, none⟩ (.int .i64 0)) := (Chg.refl _ _).set1 _ _
            have hA := (HTA.out.grow cd).chg cS (fun i h1 h2 e => by have := HORD.out; omega)
            have hg2 : Grow w10 (w3.setCell ⟨g, k, none⟩ (.int .i64 0)) := Fresh.put (show w10.heap.size ≤ g by have := HG0.out; have := HORD.out; omega) (HGQ.out.trans cd) k _
            rw [show (clK (fz zs) xr k).set k 0 = clK (fz zs) xr (k + 1) by rw [HST.out, c1_no HB.out]] at tn
            have HE := hide (And.intro hg2 (And.intro hA tn))
            clear tn hA hg2 cS hlo hhi cd
            go_wp2
            go_roundw
            case rel => exact ⟨k + 1, HKK.out, rfl, HE.out⟩
            case measure => have := HKK.out; simp [Go.RowKit.intOf]; omega
theorem walk (a : Option Addr) (len cap : Nat) (cs : List Cl) (a1 : Option Addr) (len1 cap1 : Nat) (l : List Oq) (a2 : Option Addr) (len2 cap2 : Nat) (zs : List Int) (w : World) (hc : IsCls w a len cap cs) (ho : IsOps w a1 len1 cap1 l) (hr : IsRow .i64 w a2 len2 cap2 zs) :
    Calls Try.prog 4 #[.slice a len cap, .slice a1 len1 cap1, .slice a2 len2 cap2] w fun e w' => e = .returned (.bool true) ∧ Below w.heap.size w w' := by
  by_cases h : fewB l = true ∧ len2 ≤ 100 ∧ len ≤ 100 ∧ newX cs = 0
  · exact walk_main hc ho hr h.1 h.2.1 h.2.2.1 h.2.2.2
  · exact walk_no hc ho hr h
end

theorem own : ownKnob Try.prog.godebug = none := by kernel_rfl
theorem laidOut : laidOutB Try.prog = true := by kernel_rfl

set_option maxRecDepth 100000 in
theorem lifted (os : Os) (started : os.Started) (H : Type) (enc : TypeId × Value → H) :
    ReturnsInHanded {} Try.checked os 4 .any (Rows.graphKeepsSpec.pre6 enc Try.prog Try.f4 Rows.graphKeepsRow.domain false) (Rows.graphKeepsSpec.post enc Try.prog Try.f4 false true false false) := by
  refine returnsInHanded_of_change (C := Try.checked) own started (by kernel_rfl) Try.func4
    (ChangeSpec.witness6 (enc := enc) (C := Try.checked) false ⟨#[], #[.slice none 0 0, .slice none 0 0, .slice none 0 0], []⟩ 8 (by kernel_rfl) (by kernel_rfl) (by kernel_rfl) (by kernel_rfl)) ?_
  intro W base args ds gs before hval0 hW hcnd _
  have hval : ∀ (j : Nat) t v, Try.f4.params[j]? = some t → args[j]? = some v → Value.okWide Try.prog W .any base t v := hval0
  have hW' := hW
  obtain ⟨p, q, hA0, hV, rfl, hfz, hnd⟩ := hW
  have hA : DataW.TrodAll enc Try.prog W 0 (fun _ => true) true Try.f4.params.toList args.toList ds p := hA0
  rw [Try.params4] at hA hval
  obtain ⟨v0, vs0, d0, ds0, p0, q0, hargs, rfl, rfl, h0, r0⟩ := trodAll_cons hA
  obtain ⟨v1, vs1, d1, ds1, p1, q1, rfl, rfl, rfl, h1, r1⟩ := trodAll_cons r0
  obtain ⟨v2, vs2, d2, ds2, p2, q2, rfl, rfl, rfl, h2, r2⟩ := trodAll_cons r1
  obtain ⟨rfl, rfl, rfl⟩ := trodAll_nil r2
  obtain rfl : args = #[v0, v1, v2] := by cases args; simp_all
  obtain ⟨rfl, rfl⟩ := trodVars_none hV
  have k0 := h0
  have lt0 : ∀ x ∈ p0, x.block < W.heap.size := by obtain ⟨m, hm⟩ := k0; exact DataW.trod_lt m _ _ _ hm
  obtain ⟨a0, len0, cap0, cs0, rfl, w0⟩ := L5.open_cls (hval 0 22 v0 rfl rfl) h0
  have k1 := h1
  have lt1 : ∀ x ∈ p1, x.block < W.heap.size := by obtain ⟨m, hm⟩ := k1; exact DataW.trod_lt m _ _ _ hm
  obtain ⟨a1, len1, cap1, l1, rfl, w1⟩ := open_ops (hval 1 23 v1 rfl rfl) h1
  obtain ⟨a2, len2, cap2, rfl⟩ := okWide_slice Try.underlying37 (hval 2 37 v2 rfl rfl)
  have k2 := h2
  have lt2 : ∀ x ∈ p2, x.block < W.heap.size := by obtain ⟨m, hm⟩ := k2; exact DataW.trod_lt m _ _ _ hm
  obtain ⟨z2, w2⟩ : ∃ zs, IsRow .i64 W a2 len2 cap2 zs := open_row Try.underlying37 Try.underlying3 (by kernel_rfl) h2
  clear hA0 hval0
  refine (walk a0 len0 cap0 cs0 a1 len1 cap1 l1 a2 len2 cap2 z2 W w0 w1 w2).mono fun e W' ⟨he, bel⟩ => ?_
  subst he
  exact ⟨_, rfl, _, _, _, [], _, [], hW', trodAll_mk1 (shut_bool Try.underlying4 _), (trodAll_cons_mk (Below.trod laidOut (by kernel_rfl) (of_decide_eq_true (by kernel_rfl)) k0 bel lt0) (trodAll_cons_mk (Below.trod laidOut (by kernel_rfl) (of_decide_eq_true (by kernel_rfl)) k1 bel lt1) (trodAll_cons_mk (Below.trod laidOut (by kernel_rfl) (of_decide_eq_true (by kernel_rfl)) k2 bel lt2) trodAll_mk0))), rfl, bel.frame _, fun h => by cases h⟩

theorem over : Rows.graphKeepsRow.holds Try.pinned (OpenSpec.ofChange Rows.graphKeepsSpec) :=
  OpenClaim.holds_of_wide 4 Try.f4 rfl rfl rfl rfl rfl rfl rfl ⟨rfl, rfl, rfl, rfl, rfl⟩ rfl rfl rfl rfl rfl (by kernel_rfl) Try.func4 (by kernel_rfl)
    (of_decide_eq_true (by kernel_rfl)) (by unfold Func.isWrapper; first | (rw [if_pos (by decide +kernel)]; kernel_rfl) | (rw [if_neg (by decide +kernel)]; exact ⟨rfl, rfl⟩))
    (fun os started H enc _ => lifted os started H enc)

/-- The statement. -/
theorem proved : Rows.GraphKeepsSaid := over
#print axioms proved
end Go.Proofs.Ytcinielgigdhmaa.graphKeeps


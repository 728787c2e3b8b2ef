/- For all classes and numbers ObjectWalks answers true: objects and gaps that are laid side by side are walked through, in order; each is as it was laid. Conditions: none. -/
import Derived.Test.YtgknndbahdjghaaL6Seg
import Derived.LoopTactic
namespace Go.Proofs.Ytgknndbahdjghaa.objectWalks
open Go.ChangeShapes Go.WideShapes Go.ChangeAt Go.RowKit Go.Proofs.Ytgknndbahdjghaa.L6
open Go.Proofs.Ytgknndbahdjghaa.L4 (hdV)
open Go.Proofs.Ytgknndbahdjghaa.L5 (Cl IsCls newX clAt shX shR shD open_cls)
set_option linter.unusedVariables false

set_option maxHeartbeats 1000000 in
set_option maxRecDepth 100000 in
theorem walk_many (a a1 a2 : Option Addr) (len cap len1 cap1 len2 cap2 : Nat) (w : World) (h : 60 < len1 ∨ 200 < len2) :
    Calls Try.prog 3 #[.slice a len cap, .slice a1 len1 cap1, .slice a2 len2 cap2] w fun e w' => e = .returned (.bool true) ∧ Below w.heap.size w w' := by
  by_cases h1 : 60 < len1
  · have q1 : decide ((len1 : Int) > 60) = true := by simp; omega
    clear h
    go_enter Try.func3, Try.ntmps3
    go_wp2_with fail
    refine (awake_any _).mono ?_
    rintro e wa ⟨rfl, ca⟩
    go_wp2_with fail
    refine (awake_any _).mono ?_
    rintro e wb ⟨rfl, cb⟩
    go_wp2
    go_ret
    exact ⟨rfl, (ca.trans cb).below (fun _ _ h => h) (Nat.le_refl _)⟩
  · have q1 : decide ((len1 : Int) > 60) = false := by simp; omega
    have q2 : decide ((len2 : Int) > 200) = true := by simp; omega
    clear h h1
    go_enter Try.func3, Try.ntmps3
    go_wp2_with fail
    refine (awake_any _).mono ?_
    rintro e wa ⟨rfl, ca⟩
    go_wp2_with fail
    refine (awake_any _).mono ?_
    rintro e wb ⟨rfl, cb⟩
    go_wp2
    go_ret
    exact ⟨rfl, (ca.trans cb).below (fun _ _ h => h) (Nat.le_refl _)⟩
set_option maxHeartbeats 1000000 in
set_option maxRecDepth 100000 in
theorem walk_long (a a1 a2 : Option Addr) (len cap len1 cap1 len2 cap2 : Nat) (w : World) (h1 : len1 ≤ 60) (h2 : len2 ≤ 200) (hl : 100 < len) :
    Calls Try.prog 3 #[.slice a len cap, .slice a1 len1 cap1, .slice a2 len2 cap2] w fun e w' => e = .returned (.bool true) ∧ Below w.heap.size w w' := by
  have q1 : decide ((len1 : Int) > 60) = false := by simp; omega
  have q2 : decide ((len2 : Int) > 200) = false := by simp; omega
  go_enter Try.func3, Try.ntmps3
  go_wp2_with fail
  refine (awake_any _).mono ?_
  rintro e wa ⟨rfl, ca⟩
  go_wp2_with fail
  refine (both_long 4096 wa hl).mono ?_
  rintro e w1 ⟨rfl, c1⟩
  replace ca := ca.trans c1
  clear c1
  have cz := (ca.alloc (.cells [.pointer none, .pointer none].toArray 28)).alloc (.cells [.pointer none, .slice none 0 0].toArray 31)
  go_wp2
  go_ret
  exact ⟨rfl, cz.below (fun _ _ h => h) (Nat.le_refl _)⟩
set_option maxHeartbeats 1000000 in
set_option maxRecDepth 100000 in
theorem walk_bad (a a1 a2 : Option Addr) (len cap len1 cap1 len2 cap2 : Nat) (cs : List Cl) (w : World) (h1 : len1 ≤ 60) (h2 : len2 ≤ 200) (h : IsCls w a len cap cs) (hl : len ≤ 100) (hX : ¬ newX cs = 0) :
    Calls Try.prog 3 #[.slice a len cap, .slice a1 len1 cap1, .slice a2 len2 cap2] w fun e w' => e = .returned (.bool true) ∧ Below w.heap.size w w' := by
  have q1 : decide ((len1 : Int) > 60) = false := by simp; omega
  have q2 : decide ((len2 : Int) > 200) = false := by simp; omega
  have H := hide h
  have HX := hide hX
  clear h hX
  go_enter Try.func3, Try.ntmps3
  go_wp2_with fail
  refine (awake_any _).mono ?_
  rintro e wa ⟨rfl, ca⟩
  go_wp2_with fail
  refine (both_no 4096 wa (H.out.chg ca (fun _ _ => id)) hl HX.out).mono ?_
  rintro e w1 ⟨rfl, c1⟩
  replace ca := ca.trans c1
  clear c1
  have cz := (ca.alloc (.cells [.pointer none, .pointer none].toArray 28)).alloc (.cells [.pointer none, .slice none 0 0].toArray 31)
  go_wp2
  go_ret
  exact ⟨rfl, cz.below (fun _ _ h => h) (Nat.le_refl _)⟩
theorem again {w w' : World} {b g : Nat} {tp : Option Addr} {xs ys : List Int} {cs : List Cl} (h : St w (some ⟨b, 0, none⟩) tp g xs cs) (c : Chg (· = g) w w') (hb : Blk w' g 3 (ints ys)) (hl : ys.length = xs.length) : St w' (some ⟨b, 0, none⟩) tp g ys cs :=
  h.put ⟨by rw [hl]; exact h.open_.1.chg c h.open_.ne, hb⟩ hl c
theorem rd_own {w : World} {base n cap : Nat} {a : Option Addr} {xs : List Int} (h : w.ownsRow base 3 1 (.slice a n cap) n (ints xs)) : L1.Rd w a n xs := by
  have hl : xs.length = n := by have := h.1; rw [ints_length] at this; omega
  refine ⟨hl, fun hn => ?_⟩
  obtain ⟨g, c, e, _, _, _, _, hc⟩ := own_ints h hn
  injection e with e
  exact ⟨_, e, fun i hi => by rw [addr_add, Nat.zero_add]; exact hc i hi⟩
set_option maxHeartbeats 60000000 in
set_option maxRecDepth 100000 in
theorem walk_main (a a1 a2 : Option Addr) (len cap len1 cap1 len2 cap2 : Nat) (cs : List Cl) (zs1 zs2 : List Int) (w : World) (h1 : len1 ≤ 60) (h2 : len2 ≤ 200) (h : IsCls w a len cap cs) (hr1 : IsRow .u8 w a1 len1 cap1 zs1) (hr2 : IsRow .u8 w a2 len2 cap2 zs2) (hl : len ≤ 100) (hX : newX cs = 0) :
    Calls Try.prog 3 #[.slice a len cap, .slice a1 len1 cap1, .slice a2 len2 cap2] w fun e w' => e = .returned (.bool true) ∧ Below w.heap.size w w' := by
  obtain ⟨i0, hi0, hz0, hz1, hz2⟩ := info_parts Try.infoInt
  have HI := hide hi0
  have HZ0 := hide hz0
  have HZ1 := hide hz1
  have HZ2 := hide hz2
  clear hi0 hz0 hz1 hz2
  have q1 : decide ((len1 : Int) > 60) = false := by simp; omega
  have q2 : decide ((len2 : Int) > 200) = false := by simp; omega
  have hll := (L5.new_zero hX).2
  rw [h.len] at hll
  have H := hide h
  have HX := hide hX
  have HR1 := hide hr1
  have HR2 := hide hr2
  clear h hX hr1 hr2
  go_enter Try.func3, Try.ntmps3
  go_wp2_with fail
  refine (awake_any _).mono ?_
  rintro e wa ⟨rfl, ca⟩
  go_wp2_with fail
  refine (both_yes 4096 wa (H.out.chg ca (fun _ _ => id)) hl HX.out).mono ?_
  rintro e w1 ⟨b, tg, g, q, rfl, hs1, hg, c1⟩
  have HG : Fresh w g := Nat.le_trans ca.size hg
  replace ca := ca.trans c1
  rw [show L1.clamp 4096 = 4096 by decide] at hs1
  obtain ⟨xs0, hx0⟩ : ∃ xs0, zeros 4096 = xs0 := ⟨_, rfl⟩
  have hlen0 : xs0.length = 4096 := by rw [← hx0, zeros_length]
  rw [hx0] at hs1
  have HS := hide hs1
  clear hs1 hg c1 hx0 q1 q2
  have ngs0 := hide HS.out.lt
  obtain ⟨hs, hr, cc, fs, fr, n_sr⟩ := boxes2 w1 28 [.pointer (some ⟨b, 0, none⟩), .pointer (some ⟨tg, 0, none⟩)] 31 [.pointer (some ⟨q, 0, none⟩), .slice a len cap]
  obtain ⟨b0, hb0⟩ : ∃ b0, b0 = w1.heap.size + 1 + 1 := ⟨_, rfl⟩
  have HB := hide (show g < b0 ∧ w1.heap.size < b0 ∧ w1.heap.size + 1 < b0 by have := ngs0.out; omega)
  have HB0 : Fresh w b0 := by have := ca.size; show w.heap.size ≤ b0; omega
  have HB3 := hide (show ((w1.alloc (.cells [.pointer (some ⟨b, 0, none⟩), .pointer (some ⟨tg, 0, none⟩)].toArray 28)).alloc (.cells [.pointer (some ⟨q, 0, none⟩), .slice a len cap].toArray 31)).heap.size ≤ b0 by rw [World.size_alloc, World.size_alloc]; omega)
  have hb1 := hide (show b0 ≤ ((w1.alloc (.cells [.pointer (some ⟨b, 0, none⟩), .pointer (some ⟨tg, 0, none⟩)].toArray 28)).alloc (.cells [.pointer (some ⟨q, 0, none⟩), .slice a len cap].toArray 31)).heap.size by rw [World.size_alloc, World.size_alloc]; omega)
  clear hb0
  go_wp2_with fail
  have ngs : ¬ w1.heap.size = g := by have := ngs0.out; omega
  have ngr : ¬ w1.heap.size + 1 = g := by have := ngs0.out; omega
  clear ngs0
  replace HS := hide (HS.out.grow cc)
  replace ca := ca.trans cc
  clear cc
  generalize (w1.alloc (.cells #[.pointer (some ⟨b, 0, none⟩), .pointer (some ⟨tg, 0, none⟩)] 28)).alloc (.cells #[.pointer (some ⟨q, 0, none⟩), .slice a len cap] 31) = w3 at *
  generalize w1.heap.size + 1 = r at *
  generalize w1.heap.size = s at *
  go_loopw [11, 12, 13, 53] (fun want at_ size i wr => ∃ (k A sz : Nat) (l xs : List Int), k ≤ len1 ∧ i = .int .i64 k ∧ at_ = .int .i64 A ∧ size = .int .i64 sz ∧ Chg (· = g) w3 wr ∧ Blk wr g 3 (ints xs) ∧ xs.length = 4096 ∧ Sg xs cs A l sz ∧ A ≤ 1 + 32 * k ∧ l.length ≤ k ∧ wr.ownsRow b0 3 1 want l.length (ints l) ∧ b0 ≤ wr.heap.size ∧ Blk wr s 28 [.pointer (some ⟨b, 0, none⟩), .pointer (some ⟨tg, 0, none⟩)] ∧ Blk wr r 31 [.pointer (some ⟨q, 0, none⟩), .slice a len cap] ∧ Grow w wr) (fun _ _ _ i _ => len1 - (intOf i).toNat)
  case atStart => exact ⟨0, 1, 0, [], xs0, Nat.zero_le _, rfl, rfl, rfl, Chg.refl _ _, HS.out.open_.2, hlen0, .nil, by omega, Nat.le_refl _, World.ownsRow_nil _ _ _ _, hb1.out, hs, hr, ca⟩
  case round =>
    clear hs hr ca hb1
    obtain ⟨k, A, sz, l, xs, hk, rfl, rfl, rfl, cg, hbg, hxl, hsg, hA, hll2, hown, hsz, hs, hr, cw⟩ := hrel
    have HSR := hide (again HS.out cg hbg (by rw [hxl, hlen0]))
    have HO := hide hown
    have HSZ := hide hsz
    have hpos := hsg.pos
    clear hbg hown hsz
    by_cases hlt : k < len1
    · obtain ⟨x1, rfl, hx1, hwf1⟩ := (HR1.out.chg cw (fun _ _ => id)).at_ hlt
      generalize zs1.getD k 0 = Z at *
      have hZ : 0 ≤ Z ∧ Z ≤ 255 := bounds_u8 hwf1
      have u1 : IntKind.i64.wrap Z = Z := IntWalk.i64_in _ (by omega)
      have hz : ((len : Int) + 1) ≠ 0 := by omega
      have hz' : ((len : Int) + 1 == 0) = false := by simp; omega
      have hN0 : 0 ≤ Z % ((len : Int) + 1) := Int.emod_nonneg _ hz
      have hN1 : Z % ((len : Int) + 1) < (len : Int) + 1 := Int.emod_lt_of_pos _ (by omega)
      obtain ⟨s0, s1⟩ := hs.cell2
      by_cases hN : Z % ((len : Int) + 1) = 0
      · have u3 : wrap64 (Z % ((len : Int) + 1)) = 0 := by rw [hN]; exact wrap64_id _ (by omega)
        have hz0 : (Z % ((len : Int) + 1) == 0) = true := by simpa using hN
        clear hwf1 hN0 hN1
        by_cases hlt2 : k < len2
        · obtain ⟨x2, rfl, hx2, hwf2⟩ := (HR2.out.chg cw (fun _ _ => id)).at_ hlt2
          generalize zs2.getD k 0 = Y at *
          have hY : 0 ≤ Y ∧ Y ≤ 255 := bounds_u8 hwf2
          have u4 : IntKind.i64.wrap Y = Y := IntWalk.i64_in _ (by omega)
          obtain ⟨L, hL⟩ := Int.eq_ofNat_of_zero_le (show 0 ≤ Y % 31 by omega)
          have hL30 : L ≤ 30 := by omega
          as_aux_lemma =>
          go_wp2_with fail
          try rw [hL]
          refine (gap_is (a := A) (n := 1 + L) HSR.out rfl (by simp) hpos (by omega) (by rw [hxl]; omega)).mono ?_
          rintro e w5 ⟨rfl, hs5, c5⟩
          replace hs := hs.chg c5 ngs
          replace hr := hr.chg c5 ngr
          replace cw := L6.chg_new cw c5 HG
          have HO5 := hide (own_chg HO.out c5 (fun j hj => by have := (HO.out.lt j hj).1; have := HB.out; omega))
          have HZ5 := hide (Nat.le_trans HSZ.out c5.size)
          have HSG := hide (hsg.addGap (n := 1 + L) HSR.out.rt (by omega) (by rw [hxl]; omega))
          have HBG := hide hs5.open_.2
          replace cg := cg.trans c5
          have HXL := hide (show (gapL xs A (1 + L)).length = 4096 by rw [gapL_length]; exact hxl)
          clear hs5 c5 hsg s0 s1
          go_wp2
          go_roundw
          case rel => exact ⟨k + 1, A + (1 + L), 1 + L, l, _, by omega, by go_num, by go_num, by go_num, cg, HBG.out, HXL.out, HSG.out, by omega, by omega, HO5.out, HZ5.out, hs, hr, cw⟩
          case measure => simp [intOf]; omega
        · as_aux_lemma =>
          go_wp2_with fail
          try rw [hL]
          refine (gap_is (a := A) (n := 1 + 0) HSR.out rfl (by simp) hpos (by omega) (by rw [hxl]; omega)).mono ?_
          rintro e w5 ⟨rfl, hs5, c5⟩
          replace hs := hs.chg c5 ngs
          replace hr := hr.chg c5 ngr
          replace cw := L6.chg_new cw c5 HG
          have HO5 := hide (own_chg HO.out c5 (fun j hj => by have := (HO.out.lt j hj).1; have := HB.out; omega))
          have HZ5 := hide (Nat.le_trans HSZ.out c5.size)
          have HSG := hide (hsg.addGap (n := 1 + 0) HSR.out.rt (by omega) (by rw [hxl]; omega))
          have HBG := hide hs5.open_.2
          replace cg := cg.trans c5
          have HXL := hide (show (gapL xs A (1 + 0)).length = 4096 by rw [gapL_length]; exact hxl)
          clear hs5 c5 hsg s0 s1
          go_wp2
          go_roundw
          case rel => exact ⟨k + 1, A + (1 + 0), 1 + 0, l, _, by omega, by go_num, by go_num, by go_num, cg, HBG.out, HXL.out, HSG.out, by omega, by omega, HO5.out, HZ5.out, hs, hr, cw⟩
          case measure => simp [intOf]; omega
      · obtain ⟨i, hi⟩ := Int.eq_ofNat_of_zero_le (show 0 ≤ Z % ((len : Int) + 1) - 1 by omega)
        have u3 : wrap64 (Z % ((len : Int) + 1)) = (i : Int) + 1 := by rw [wrap64_id _ (by omega)]; omega
        have hi0 : (((i : Int) + 1) == 0) = false := by simp; omega
        have hil : i < len := by omega
        have hlm := H.out.2.2.1
        unfold maxLen at hlm
        have hlc := H.out.2.1
        obtain ⟨bb, off, ⟨K, R, D, f⟩, rfl, hc, hat, -⟩ := (H.out.chg cw (fun _ _ => id)).at_ hil
        have HBW := hide (show bb < w.heap.size by
          obtain ⟨b', o', c', e', _, h', _⟩ := H.out.at_ hil
          injection e' with e'
          injection e' with e1
          subst e1
          exact h'.lt)
        have HCC := hide hc
        have HAT := hide hat
        have hN' : Z % ((len : Int) + 1) = (i : Int) + 1 := by omega
        have hz0 : (Z % ((len : Int) + 1) == 0) = false := by rw [hN']; exact hi0
        clear hwf1 hN0 hN1 hN hi hc hat
        by_cases hK : K = 2
        · subst hK
          by_cases hlt2 : k < len2
          · obtain ⟨x2, rfl, hx2, hwf2⟩ := (HR2.out.chg cw (fun _ _ => id)).at_ hlt2
            generalize zs2.getD k 0 = Y at *
            have hY : 0 ≤ Y ∧ Y ≤ 255 := bounds_u8 hwf2
            have u4 : IntKind.i64.wrap Y = Y := IntWalk.i64_in _ (by omega)
            have HX0 := hide (show shX (some ⟨2, R, D, f⟩) (Y % 31) = 0 by
              simp only [shX]
              rw [if_neg (by rintro (h | h); omega; exact h.2 rfl), if_neg (by omega)])
            as_aux_lemma =>
            obtain ⟨rr, hrr⟩ := Int.eq_ofNat_of_zero_le (L5.sh_bd (o := some (⟨2, R, D, f⟩ : Cl)) (fun c' e => by injection e with e; subst e; exact L5.all_rt HSR.out.rt HCC.out) (Y % 31)).1
            obtain ⟨dd, hdd⟩ := Int.eq_ofNat_of_zero_le (L5.sh_bd (o := some (⟨2, R, D, f⟩ : Cl)) (fun c' e => by injection e with e; subst e; exact L5.all_rt HSR.out.rt HCC.out) (Y % 31)).2.2.1
            have hn32 := obN_bd HSR.out.rt HCC.out (Y % 31)
            have HNN := hide (show (obN ⟨2, R, D, f⟩ (Y % 31)) = 2 + rr + dd by have := hn32.2.2; rw [hrr, hdd] at this; omega)
            have hn2 : 2 + rr + dd ≤ 32 := by have := hn32.2.1; rw [HNN.out] at this; exact this
            have HRR := hide hrr
            have HDD := hide hdd
            have HCL := hide (L5.clAt_at HCC.out)
            have HWO := hide (show L5.woV (clAt cs ((i : Int) + 1)) (Y % 31) = ((2 + rr + dd : Nat) : Int) by rw [HCL.out, L5.woV, if_pos HX0.out, hrr, hdd]; simp)
            have HADD := hide (hsg.addObj (L := Y % 31) HSR.out.rt HCC.out (L5.new_zero HX.out).2 HX0.out (by rw [hxl, HNN.out]; omega))
            rw [HNN.out] at HADD
            have HXL := hide (show (layL xs A (2 + rr + dd) ((i : Int) + 1) (Y % 31) f).length = 4096 by rw [layL_length]; exact hxl)
            have kR := sameH ((i : Int) + 1) 0 0 false f false
            clear hrr hdd hn32 hsg
            obtain ⟨e0, e1, e2, e3⟩ := HAT.out
            obtain ⟨r0, r1⟩ := hr.cell2
            dsimp only at e0 e1 e2 e3
            go_wp2_with fail
            clear e0 e1 e2 e3 r0 r1 s0 s1
            refine (rshape_is (R := (rr : Int)) (D := (dd : Int)) (X := 0) (H.out.chg cw (fun _ _ => id)) HSR.out.rt (by rw [HCL.out]; exact HRR.out) (by rw [HCL.out]; exact HDD.out) (by rw [HCL.out]; exact HX0.out)).mono ?_
            rintro e w4 ⟨rfl, c4⟩
            replace HSR := hide (HSR.out.grow c4)
            replace hs := hs.chg c4 id
            replace hr := hr.chg c4 id
            replace cw := cw.trans c4
            replace cg := cg.step c4 (fun _ _ h => h.elim)
            replace HAT := hide (HAT.out.chg c4 id)
            replace HO := hide (own_grow HO.out c4)
            replace HSZ := hide (Nat.le_trans HSZ.out c4.size)
            clear c4
            obtain ⟨s0, s1⟩ := hs.cell2
            go_wp2_with fail
            refine (lay_ok (a := A) (n := 2 + rr + dd) HSR.out HCC.out rfl (by rw [HCL.out]; exact HX0.out) HWO.out (L5.new_zero HX.out).2 hpos (by rw [hxl]; omega)).mono ?_
            rintro e w5 ⟨rfl, hs5, c5⟩
            replace hs := hs.chg c5 ngs
            replace hr := hr.chg c5 ngr
            replace HAT := hide (HAT.out.chg c5 (by have := HBW.out; have hg : w.heap.size ≤ g := HG; omega))
            replace cw := L6.chg_new cw c5 HG
            replace cg := cg.trans c5
            replace HO := hide (own_chg HO.out c5 (fun j hj => by have := (HO.out.lt j hj).1; have := HB.out; omega))
            replace HSZ := hide (Nat.le_trans HSZ.out c5.size)
            have HS5 := hide hs5
            have HOB := hide (HADD.out.2.ob HS5.out.rt)
            clear hs5 c5 s0 s1
            obtain ⟨s0, s1⟩ := hs.cell2
            go_wp2_with fail
            refine (oshape_is (R := (rr : Int)) (D := (dd : Int)) (X := 0) HS5.out (by omega) (by rw [HOB.out.1]; exact HRR.out) (by rw [HOB.out.1]; exact HDD.out) HOB.out.2).mono ?_
            rintro e w6 ⟨rfl, c6⟩
            replace HS5 := hide (HS5.out.grow c6)
            replace hs := hs.chg c6 id
            replace hr := hr.chg c6 id
            replace cw := cw.trans c6
            replace cg := cg.step c6 (fun _ _ h => h.elim)
            replace HAT := hide (HAT.out.chg c6 id)
            replace HO := hide (own_grow HO.out c6)
            replace HSZ := hide (Nat.le_trans HSZ.out c6.size)
            clear c6 s0 s1
            obtain ⟨s0, s1⟩ := hs.cell2
            go_wp2_with fail
            refine (head_is (C := (i : Int) + 1) (A := 0) (F := 0) (m := false) (f := f) (d := false) (X := 0) HS5.out (by omega) (by rw [HOB.out.1]; rfl) HOB.out.2).mono ?_
            rintro e w7 ⟨rfl, c7⟩
            replace HS5 := hide (HS5.out.grow c7)
            replace hs := hs.chg c7 id
            replace hr := hr.chg c7 id
            replace cw := cw.trans c7
            replace cg := cg.step c7 (fun _ _ h => h.elim)
            replace HAT := hide (HAT.out.chg c7 id)
            replace HO := hide (own_grow HO.out c7)
            replace HSZ := hide (Nat.le_trans HSZ.out c7.size)
            clear c7 s0 s1
            have hh := Blk.new w7 45 [.int .i64 ((i : Int) + 1), .int .i64 0, .int .i64 0, .bool false, .bool f, .bool false]
            replace hs := hs.alloc (.cells [.int .i64 ((i : Int) + 1), .int .i64 0, .int .i64 0, .bool false, .bool f, .bool false].toArray 45)
            replace hr := hr.alloc (.cells [.int .i64 ((i : Int) + 1), .int .i64 0, .int .i64 0, .bool false, .bool f, .bool false].toArray 45)
            replace cw := cw.alloc (.cells [.int .i64 ((i : Int) + 1), .int .i64 0, .int .i64 0, .bool false, .bool f, .bool false].toArray 45)
            have cb := Grow.box w7 (.cells [.int .i64 ((i : Int) + 1), .int .i64 0, .int .i64 0, .bool false, .bool f, .bool false].toArray 45)
            replace HS5 := hide (HS5.out.grow cb)
            replace cg := cg.step cb (fun _ _ h => h.elim)
            replace HAT := hide (HAT.out.chg cb id)
            replace HO := hide (own_grow HO.out cb)
            replace HSZ := hide (Nat.le_trans HSZ.out cb.size)
            clear cb
            obtain ⟨y0, y1, y2, y3, y4, y5⟩ := hh.cell6
            obtain ⟨e0, e1, e2, e3⟩ := HAT.out
            dsimp only at e0 e1 e2 e3
            go_wp2_with fail
            have wi : IntKind.i64.wrap (i : Int) = i := IntWalk.i64_in _ (by omega)
            have wi2 : IntKind.i64.wrap ((i : Int) + 1 - 1) = i := by rw [Int.add_sub_cancel]; exact wi
            have wi3 : (0 : Int) ≤ i := by omega
            have wi4 : (i : Int) < len := by omega
            have wi5 : (i : Int).toNat = i := by omega
            refine wp_region_grow (by kernel_rfl) (by kernel_rfl) ?_
            repeat (
              with_reducible refine wpQuiet_step ?_
              intro K hK
              first
                | ((with_reducible refine quiet_offT rfl ?_ (hK _ ?_)); focus (refine ⟨_, rfl, ?_⟩; with_reducible rfl))
                | ((with_reducible refine quiet_offF rfl ?_ (hK _ ?_)); focus (refine ⟨_, rfl, ?_⟩; with_reducible rfl))
                | ((with_reducible refine quiet_offN rfl ?_ (hK _ ?_)); focus (exact rfl))
                | ((first | with_reducible refine quiet_free rfl ?_ | ((with_reducible refine quiet_on rfl ?_ ?_); focus (refine ⟨_, rfl, ?_⟩; with_reducible rfl)))
                   apply Exists.intro
                   refine ⟨fun Wq hW => ?_, hK _ ?_⟩
                   focus (have q0 := Grow.cell hW y0; have q1 := Grow.cell hW y1; have q2 := Grow.cell hW y2; have q3 := Grow.cell hW y3; have q4 := Grow.cell hW y4; have q5 := Grow.cell hW y5; have q6 := Grow.cell hW e0; have q7 := Grow.cell hW e1; have q8 := Grow.cell hW e2; have q9 := Grow.cell hW e3; go_simp; first | done | with_reducible rfl))
              clear hK K
              simp only [Act.put, List.setIfInBounds_toArray, List.set_cons_zero, List.set_cons_succ])
            with_reducible refine wpQuiet_nil ?_
            intro w8 c8
            replace HS5 := hide (HS5.out.grow c8)
            replace cg := cg.step c8 (fun _ _ h => h.elim)
            replace hs := hs.chg c8 id
            replace hr := hr.chg c8 id
            replace cw := cw.trans c8
            replace HO := hide (own_grow HO.out c8)
            replace HSZ := hide (Nat.le_trans HSZ.out c8.size)
            clear c8 y0 y1 y2 y3 y4 y5 e0 e1 e2 e3 HAT kR hh wi wi2 wi3 wi4 wi5
            have HBK := hide (Blk.new w8 3 [.int .i64 A])
            have cb := Grow.box w8 (.cells [.int .i64 A].toArray 3)
            replace HS5 := hide (HS5.out.grow cb)
            replace cg := cg.step cb (fun _ _ h => h.elim)
            replace hs := hs.chg cb id
            replace hr := hr.chg cb id
            have HC := hide (cw.trans cb)
            replace HO := hide (own_grow HO.out cb)
            replace HSZ := hide (Nat.le_trans HSZ.out cb.size)
            clear cb cw
            go_wp2_with (at_builtin; refine wpList_append_own _ rfl _ _ 34 rfl b0 3 i0 (.int .i64 0) 1 8 Try.underlying34 HI.out HZ0.out HZ1.out HZ2.out rfl (by decide) _ _ _ rfl HO.out ⟨w8.heap.size, 0, none⟩ 1 1 [.int .i64 A] rfl rfl ?c1 ?c2 ?c3 ?c4 ?c5 ?_)
            case c1 => intro j u hj; rw [addr_add, Nat.zero_add, HBK.out.cell]; exact hj
            case c2 => intro u hu; simp at hu; subst hu; rfl
            case c3 => unfold maxLen; omega
            case c4 => omega
            case c5 => exact HSZ.out
            intro v' w9 hown3 hgrow _
            have cw := Chg.grownOwn HC.out HO.out HB0 hgrow
            replace hs := hs.grownOwn hgrow (by intro e; have := (HO.out.lt s e.symm).1; have := HB.out; omega)
            replace hr := hr.grownOwn hgrow (by intro e; have := (HO.out.lt r e.symm).1; have := HB.out; omega)
            have HBG := hide (HS5.out.open_.2.grownOwn hgrow (by intro e; have := (HO.out.lt g e.symm).1; have := HB.out; omega))
            have HCG := hide (Chg.grown (S := (· = g)) cg hgrow (fun j hj e => by have := (HO.out.lt j e).1; have := HB3.out; omega))
            have HO3 := hide hown3
            have HSZ3 := hide (Nat.le_trans HSZ.out hgrow.size)
            clear hgrow hown3 HC HO HBK cg HSZ
            go_wp2
            go_roundw
            case rel => exact ⟨k + 1, A + (2 + rr + dd), 2 + rr + dd, l ++ [(A : Int)], _, by omega, by go_num, by go_num, by go_num, HCG.out, HBG.out, HXL.out, HADD.out.1, by omega, by rw [List.length_append, List.length_singleton]; omega, by have := HO3.out; simpa [ints] using this, HSZ3.out, hs, hr, cw⟩
            case measure => simp [intOf]; omega
          · have HX0 := hide (show shX (some ⟨2, R, D, f⟩) 0 = 0 by simp [shX])
            as_aux_lemma =>
            obtain ⟨rr, hrr⟩ := Int.eq_ofNat_of_zero_le (L5.sh_bd (o := some (⟨2, R, D, f⟩ : Cl)) (fun c' e => by injection e with e; subst e; exact L5.all_rt HSR.out.rt HCC.out) (0)).1
            obtain ⟨dd, hdd⟩ := Int.eq_ofNat_of_zero_le (L5.sh_bd (o := some (⟨2, R, D, f⟩ : Cl)) (fun c' e => by injection e with e; subst e; exact L5.all_rt HSR.out.rt HCC.out) (0)).2.2.1
            have hn32 := obN_bd HSR.out.rt HCC.out (0)
            have HNN := hide (show (obN ⟨2, R, D, f⟩ (0)) = 2 + rr + dd by have := hn32.2.2; rw [hrr, hdd] at this; omega)
            have hn2 : 2 + rr + dd ≤ 32 := by have := hn32.2.1; rw [HNN.out] at this; exact this
            have HRR := hide hrr
            have HDD := hide hdd
            have HCL := hide (L5.clAt_at HCC.out)
            have HWO := hide (show L5.woV (clAt cs ((i : Int) + 1)) (0) = ((2 + rr + dd : Nat) : Int) by rw [HCL.out, L5.woV, if_pos HX0.out, hrr, hdd]; simp)
            have HADD := hide (hsg.addObj (L := 0) HSR.out.rt HCC.out (L5.new_zero HX.out).2 HX0.out (by rw [hxl, HNN.out]; omega))
            rw [HNN.out] at HADD
            have HXL := hide (show (layL xs A (2 + rr + dd) ((i : Int) + 1) (0) f).length = 4096 by rw [layL_length]; exact hxl)
            have kR := sameH ((i : Int) + 1) 0 0 false f false
            clear hrr hdd hn32 hsg
            obtain ⟨e0, e1, e2, e3⟩ := HAT.out
            obtain ⟨r0, r1⟩ := hr.cell2
            dsimp only at e0 e1 e2 e3
            go_wp2_with fail
            clear e0 e1 e2 e3 r0 r1 s0 s1
            refine (rshape_is (R := (rr : Int)) (D := (dd : Int)) (X := 0) (H.out.chg cw (fun _ _ => id)) HSR.out.rt (by rw [HCL.out]; exact HRR.out) (by rw [HCL.out]; exact HDD.out) (by rw [HCL.out]; exact HX0.out)).mono ?_
            rintro e w4 ⟨rfl, c4⟩
            replace HSR := hide (HSR.out.grow c4)
            replace hs := hs.chg c4 id
            replace hr := hr.chg c4 id
            replace cw := cw.trans c4
            replace cg := cg.step c4 (fun _ _ h => h.elim)
            replace HAT := hide (HAT.out.chg c4 id)
            replace HO := hide (own_grow HO.out c4)
            replace HSZ := hide (Nat.le_trans HSZ.out c4.size)
            clear c4
            obtain ⟨s0, s1⟩ := hs.cell2
            go_wp2_with fail
            refine (lay_ok (a := A) (n := 2 + rr + dd) HSR.out HCC.out rfl (by rw [HCL.out]; exact HX0.out) HWO.out (L5.new_zero HX.out).2 hpos (by rw [hxl]; omega)).mono ?_
            rintro e w5 ⟨rfl, hs5, c5⟩
            replace hs := hs.chg c5 ngs
            replace hr := hr.chg c5 ngr
            replace HAT := hide (HAT.out.chg c5 (by have := HBW.out; have hg : w.heap.size ≤ g := HG; omega))
            replace cw := L6.chg_new cw c5 HG
            replace cg := cg.trans c5
            replace HO := hide (own_chg HO.out c5 (fun j hj => by have := (HO.out.lt j hj).1; have := HB.out; omega))
            replace HSZ := hide (Nat.le_trans HSZ.out c5.size)
            have HS5 := hide hs5
            have HOB := hide (HADD.out.2.ob HS5.out.rt)
            clear hs5 c5 s0 s1
            obtain ⟨s0, s1⟩ := hs.cell2
            go_wp2_with fail
            refine (oshape_is (R := (rr : Int)) (D := (dd : Int)) (X := 0) HS5.out (by omega) (by rw [HOB.out.1]; exact HRR.out) (by rw [HOB.out.1]; exact HDD.out) HOB.out.2).mono ?_
            rintro e w6 ⟨rfl, c6⟩
            replace HS5 := hide (HS5.out.grow c6)
            replace hs := hs.chg c6 id
            replace hr := hr.chg c6 id
            replace cw := cw.trans c6
            replace cg := cg.step c6 (fun _ _ h => h.elim)
            replace HAT := hide (HAT.out.chg c6 id)
            replace HO := hide (own_grow HO.out c6)
            replace HSZ := hide (Nat.le_trans HSZ.out c6.size)
            clear c6 s0 s1
            obtain ⟨s0, s1⟩ := hs.cell2
            go_wp2_with fail
            refine (head_is (C := (i : Int) + 1) (A := 0) (F := 0) (m := false) (f := f) (d := false) (X := 0) HS5.out (by omega) (by rw [HOB.out.1]; rfl) HOB.out.2).mono ?_
            rintro e w7 ⟨rfl, c7⟩
            replace HS5 := hide (HS5.out.grow c7)
            replace hs := hs.chg c7 id
            replace hr := hr.chg c7 id
            replace cw := cw.trans c7
            replace cg := cg.step c7 (fun _ _ h => h.elim)
            replace HAT := hide (HAT.out.chg c7 id)
            replace HO := hide (own_grow HO.out c7)
            replace HSZ := hide (Nat.le_trans HSZ.out c7.size)
            clear c7 s0 s1
            have hh := Blk.new w7 45 [.int .i64 ((i : Int) + 1), .int .i64 0, .int .i64 0, .bool false, .bool f, .bool false]
            replace hs := hs.alloc (.cells [.int .i64 ((i : Int) + 1), .int .i64 0, .int .i64 0, .bool false, .bool f, .bool false].toArray 45)
            replace hr := hr.alloc (.cells [.int .i64 ((i : Int) + 1), .int .i64 0, .int .i64 0, .bool false, .bool f, .bool false].toArray 45)
            replace cw := cw.alloc (.cells [.int .i64 ((i : Int) + 1), .int .i64 0, .int .i64 0, .bool false, .bool f, .bool false].toArray 45)
            have cb := Grow.box w7 (.cells [.int .i64 ((i : Int) + 1), .int .i64 0, .int .i64 0, .bool false, .bool f, .bool false].toArray 45)
            replace HS5 := hide (HS5.out.grow cb)
            replace cg := cg.step cb (fun _ _ h => h.elim)
            replace HAT := hide (HAT.out.chg cb id)
            replace HO := hide (own_grow HO.out cb)
            replace HSZ := hide (Nat.le_trans HSZ.out cb.size)
            clear cb
            obtain ⟨y0, y1, y2, y3, y4, y5⟩ := hh.cell6
            obtain ⟨e0, e1, e2, e3⟩ := HAT.out
            dsimp only at e0 e1 e2 e3
            go_wp2_with fail
            have wi : IntKind.i64.wrap (i : Int) = i := IntWalk.i64_in _ (by omega)
            have wi2 : IntKind.i64.wrap ((i : Int) + 1 - 1) = i := by rw [Int.add_sub_cancel]; exact wi
            have wi3 : (0 : Int) ≤ i := by omega
            have wi4 : (i : Int) < len := by omega
            have wi5 : (i : Int).toNat = i := by omega
            refine wp_region_grow (by kernel_rfl) (by kernel_rfl) ?_
            repeat (
              with_reducible refine wpQuiet_step ?_
              intro K hK
              first
                | ((with_reducible refine quiet_offT rfl ?_ (hK _ ?_)); focus (refine ⟨_, rfl, ?_⟩; with_reducible rfl))
                | ((with_reducible refine quiet_offF rfl ?_ (hK _ ?_)); focus (refine ⟨_, rfl, ?_⟩; with_reducible rfl))
                | ((with_reducible refine quiet_offN rfl ?_ (hK _ ?_)); focus (exact rfl))
                | ((first | with_reducible refine quiet_free rfl ?_ | ((with_reducible refine quiet_on rfl ?_ ?_); focus (refine ⟨_, rfl, ?_⟩; with_reducible rfl)))
                   apply Exists.intro
                   refine ⟨fun Wq hW => ?_, hK _ ?_⟩
                   focus (have q0 := Grow.cell hW y0; have q1 := Grow.cell hW y1; have q2 := Grow.cell hW y2; have q3 := Grow.cell hW y3; have q4 := Grow.cell hW y4; have q5 := Grow.cell hW y5; have q6 := Grow.cell hW e0; have q7 := Grow.cell hW e1; have q8 := Grow.cell hW e2; have q9 := Grow.cell hW e3; go_simp; first | done | with_reducible rfl))
              clear hK K
              simp only [Act.put, List.setIfInBounds_toArray, List.set_cons_zero, List.set_cons_succ])
            with_reducible refine wpQuiet_nil ?_
            intro w8 c8
            replace HS5 := hide (HS5.out.grow c8)
            replace cg := cg.step c8 (fun _ _ h => h.elim)
            replace hs := hs.chg c8 id
            replace hr := hr.chg c8 id
            replace cw := cw.trans c8
            replace HO := hide (own_grow HO.out c8)
            replace HSZ := hide (Nat.le_trans HSZ.out c8.size)
            clear c8 y0 y1 y2 y3 y4 y5 e0 e1 e2 e3 HAT kR hh wi wi2 wi3 wi4 wi5
            have HBK := hide (Blk.new w8 3 [.int .i64 A])
            have cb := Grow.box w8 (.cells [.int .i64 A].toArray 3)
            replace HS5 := hide (HS5.out.grow cb)
            replace cg := cg.step cb (fun _ _ h => h.elim)
            replace hs := hs.chg cb id
            replace hr := hr.chg cb id
            have HC := hide (cw.trans cb)
            replace HO := hide (own_grow HO.out cb)
            replace HSZ := hide (Nat.le_trans HSZ.out cb.size)
            clear cb cw
            go_wp2_with (at_builtin; refine wpList_append_own _ rfl _ _ 34 rfl b0 3 i0 (.int .i64 0) 1 8 Try.underlying34 HI.out HZ0.out HZ1.out HZ2.out rfl (by decide) _ _ _ rfl HO.out ⟨w8.heap.size, 0, none⟩ 1 1 [.int .i64 A] rfl rfl ?c1 ?c2 ?c3 ?c4 ?c5 ?_)
            case c1 => intro j u hj; rw [addr_add, Nat.zero_add, HBK.out.cell]; exact hj
            case c2 => intro u hu; simp at hu; subst hu; rfl
            case c3 => unfold maxLen; omega
            case c4 => omega
            case c5 => exact HSZ.out
            intro v' w9 hown3 hgrow _
            have cw := Chg.grownOwn HC.out HO.out HB0 hgrow
            replace hs := hs.grownOwn hgrow (by intro e; have := (HO.out.lt s e.symm).1; have := HB.out; omega)
            replace hr := hr.grownOwn hgrow (by intro e; have := (HO.out.lt r e.symm).1; have := HB.out; omega)
            have HBG := hide (HS5.out.open_.2.grownOwn hgrow (by intro e; have := (HO.out.lt g e.symm).1; have := HB.out; omega))
            have HCG := hide (Chg.grown (S := (· = g)) cg hgrow (fun j hj e => by have := (HO.out.lt j e).1; have := HB3.out; omega))
            have HO3 := hide hown3
            have HSZ3 := hide (Nat.le_trans HSZ.out hgrow.size)
            clear hgrow hown3 HC HO HBK cg HSZ
            go_wp2
            go_roundw
            case rel => exact ⟨k + 1, A + (2 + rr + dd), 2 + rr + dd, l ++ [(A : Int)], _, by omega, by go_num, by go_num, by go_num, HCG.out, HBG.out, HXL.out, HADD.out.1, by omega, by rw [List.length_append, List.length_singleton]; omega, by have := HO3.out; simpa [ints] using this, HSZ3.out, hs, hr, cw⟩
            case measure => simp [intOf]; omega
        · have hK2 : (K != 2) = true := by simpa using hK
          have HX0 := hide (show shX (some ⟨K, R, D, f⟩) 0 = 0 by simp [shX])
          by_cases hlt2 : k < len2
          · obtain ⟨x2, rfl, hx2, hwf2⟩ := (HR2.out.chg cw (fun _ _ => id)).at_ hlt2
            generalize zs2.getD k 0 = Y at *
            have hY : 0 ≤ Y ∧ Y ≤ 255 := bounds_u8 hwf2
            have u4 : IntKind.i64.wrap Y = Y := IntWalk.i64_in _ (by omega)
            as_aux_lemma =>
            obtain ⟨rr, hrr⟩ := Int.eq_ofNat_of_zero_le (L5.sh_bd (o := some (⟨K, R, D, f⟩ : Cl)) (fun c' e => by injection e with e; subst e; exact L5.all_rt HSR.out.rt HCC.out) (0)).1
            obtain ⟨dd, hdd⟩ := Int.eq_ofNat_of_zero_le (L5.sh_bd (o := some (⟨K, R, D, f⟩ : Cl)) (fun c' e => by injection e with e; subst e; exact L5.all_rt HSR.out.rt HCC.out) (0)).2.2.1
            have hn32 := obN_bd HSR.out.rt HCC.out (0)
            have HNN := hide (show (obN ⟨K, R, D, f⟩ (0)) = 2 + rr + dd by have := hn32.2.2; rw [hrr, hdd] at this; omega)
            have hn2 : 2 + rr + dd ≤ 32 := by have := hn32.2.1; rw [HNN.out] at this; exact this
            have HRR := hide hrr
            have HDD := hide hdd
            have HCL := hide (L5.clAt_at HCC.out)
            have HWO := hide (show L5.woV (clAt cs ((i : Int) + 1)) (0) = ((2 + rr + dd : Nat) : Int) by rw [HCL.out, L5.woV, if_pos HX0.out, hrr, hdd]; simp)
            have HADD := hide (hsg.addObj (L := 0) HSR.out.rt HCC.out (L5.new_zero HX.out).2 HX0.out (by rw [hxl, HNN.out]; omega))
            rw [HNN.out] at HADD
            have HXL := hide (show (layL xs A (2 + rr + dd) ((i : Int) + 1) (0) f).length = 4096 by rw [layL_length]; exact hxl)
            have kR := sameH ((i : Int) + 1) 0 0 false f false
            clear hrr hdd hn32 hsg
            obtain ⟨e0, e1, e2, e3⟩ := HAT.out
            obtain ⟨r0, r1⟩ := hr.cell2
            dsimp only at e0 e1 e2 e3
            go_wp2_with fail
            clear e0 e1 e2 e3 r0 r1 s0 s1
            refine (rshape_is (R := (rr : Int)) (D := (dd : Int)) (X := 0) (H.out.chg cw (fun _ _ => id)) HSR.out.rt (by rw [HCL.out]; exact HRR.out) (by rw [HCL.out]; exact HDD.out) (by rw [HCL.out]; exact HX0.out)).mono ?_
            rintro e w4 ⟨rfl, c4⟩
            replace HSR := hide (HSR.out.grow c4)
            replace hs := hs.chg c4 id
            replace hr := hr.chg c4 id
            replace cw := cw.trans c4
            replace cg := cg.step c4 (fun _ _ h => h.elim)
            replace HAT := hide (HAT.out.chg c4 id)
            replace HO := hide (own_grow HO.out c4)
            replace HSZ := hide (Nat.le_trans HSZ.out c4.size)
            clear c4
            obtain ⟨s0, s1⟩ := hs.cell2
            go_wp2_with fail
            refine (lay_ok (a := A) (n := 2 + rr + dd) HSR.out HCC.out rfl (by rw [HCL.out]; exact HX0.out) HWO.out (L5.new_zero HX.out).2 hpos (by rw [hxl]; omega)).mono ?_
            rintro e w5 ⟨rfl, hs5, c5⟩
            replace hs := hs.chg c5 ngs
            replace hr := hr.chg c5 ngr
            replace HAT := hide (HAT.out.chg c5 (by have := HBW.out; have hg : w.heap.size ≤ g := HG; omega))
            replace cw := L6.chg_new cw c5 HG
            replace cg := cg.trans c5
            replace HO := hide (own_chg HO.out c5 (fun j hj => by have := (HO.out.lt j hj).1; have := HB.out; omega))
            replace HSZ := hide (Nat.le_trans HSZ.out c5.size)
            have HS5 := hide hs5
            have HOB := hide (HADD.out.2.ob HS5.out.rt)
            clear hs5 c5 s0 s1
            obtain ⟨s0, s1⟩ := hs.cell2
            go_wp2_with fail
            refine (oshape_is (R := (rr : Int)) (D := (dd : Int)) (X := 0) HS5.out (by omega) (by rw [HOB.out.1]; exact HRR.out) (by rw [HOB.out.1]; exact HDD.out) HOB.out.2).mono ?_
            rintro e w6 ⟨rfl, c6⟩
            replace HS5 := hide (HS5.out.grow c6)
            replace hs := hs.chg c6 id
            replace hr := hr.chg c6 id
            replace cw := cw.trans c6
            replace cg := cg.step c6 (fun _ _ h => h.elim)
            replace HAT := hide (HAT.out.chg c6 id)
            replace HO := hide (own_grow HO.out c6)
            replace HSZ := hide (Nat.le_trans HSZ.out c6.size)
            clear c6 s0 s1
            obtain ⟨s0, s1⟩ := hs.cell2
            go_wp2_with fail
            refine (head_is (C := (i : Int) + 1) (A := 0) (F := 0) (m := false) (f := f) (d := false) (X := 0) HS5.out (by omega) (by rw [HOB.out.1]; rfl) HOB.out.2).mono ?_
            rintro e w7 ⟨rfl, c7⟩
            replace HS5 := hide (HS5.out.grow c7)
            replace hs := hs.chg c7 id
            replace hr := hr.chg c7 id
            replace cw := cw.trans c7
            replace cg := cg.step c7 (fun _ _ h => h.elim)
            replace HAT := hide (HAT.out.chg c7 id)
            replace HO := hide (own_grow HO.out c7)
            replace HSZ := hide (Nat.le_trans HSZ.out c7.size)
            clear c7 s0 s1
            have hh := Blk.new w7 45 [.int .i64 ((i : Int) + 1), .int .i64 0, .int .i64 0, .bool false, .bool f, .bool false]
            replace hs := hs.alloc (.cells [.int .i64 ((i : Int) + 1), .int .i64 0, .int .i64 0, .bool false, .bool f, .bool false].toArray 45)
            replace hr := hr.alloc (.cells [.int .i64 ((i : Int) + 1), .int .i64 0, .int .i64 0, .bool false, .bool f, .bool false].toArray 45)
            replace cw := cw.alloc (.cells [.int .i64 ((i : Int) + 1), .int .i64 0, .int .i64 0, .bool false, .bool f, .bool false].toArray 45)
            have cb := Grow.box w7 (.cells [.int .i64 ((i : Int) + 1), .int .i64 0, .int .i64 0, .bool false, .bool f, .bool false].toArray 45)
            replace HS5 := hide (HS5.out.grow cb)
            replace cg := cg.step cb (fun _ _ h => h.elim)
            replace HAT := hide (HAT.out.chg cb id)
            replace HO := hide (own_grow HO.out cb)
            replace HSZ := hide (Nat.le_trans HSZ.out cb.size)
            clear cb
            obtain ⟨y0, y1, y2, y3, y4, y5⟩ := hh.cell6
            obtain ⟨e0, e1, e2, e3⟩ := HAT.out
            dsimp only at e0 e1 e2 e3
            go_wp2_with fail
            have wi : IntKind.i64.wrap (i : Int) = i := IntWalk.i64_in _ (by omega)
            have wi2 : IntKind.i64.wrap ((i : Int) + 1 - 1) = i := by rw [Int.add_sub_cancel]; exact wi
            have wi3 : (0 : Int) ≤ i := by omega
            have wi4 : (i : Int) < len := by omega
            have wi5 : (i : Int).toNat = i := by omega
            refine wp_region_grow (by kernel_rfl) (by kernel_rfl) ?_
            repeat (
              with_reducible refine wpQuiet_step ?_
              intro K hK
              first
                | ((with_reducible refine quiet_offT rfl ?_ (hK _ ?_)); focus (refine ⟨_, rfl, ?_⟩; with_reducible rfl))
                | ((with_reducible refine quiet_offF rfl ?_ (hK _ ?_)); focus (refine ⟨_, rfl, ?_⟩; with_reducible rfl))
                | ((with_reducible refine quiet_offN rfl ?_ (hK _ ?_)); focus (exact rfl))
                | ((first | with_reducible refine quiet_free rfl ?_ | ((with_reducible refine quiet_on rfl ?_ ?_); focus (refine ⟨_, rfl, ?_⟩; with_reducible rfl)))
                   apply Exists.intro
                   refine ⟨fun Wq hW => ?_, hK _ ?_⟩
                   focus (have q0 := Grow.cell hW y0; have q1 := Grow.cell hW y1; have q2 := Grow.cell hW y2; have q3 := Grow.cell hW y3; have q4 := Grow.cell hW y4; have q5 := Grow.cell hW y5; have q6 := Grow.cell hW e0; have q7 := Grow.cell hW e1; have q8 := Grow.cell hW e2; have q9 := Grow.cell hW e3; go_simp; first | done | with_reducible rfl))
              clear hK K
              simp only [Act.put, List.setIfInBounds_toArray, List.set_cons_zero, List.set_cons_succ])
            with_reducible refine wpQuiet_nil ?_
            intro w8 c8
            replace HS5 := hide (HS5.out.grow c8)
            replace cg := cg.step c8 (fun _ _ h => h.elim)
            replace hs := hs.chg c8 id
            replace hr := hr.chg c8 id
            replace cw := cw.trans c8
            replace HO := hide (own_grow HO.out c8)
            replace HSZ := hide (Nat.le_trans HSZ.out c8.size)
            clear c8 y0 y1 y2 y3 y4 y5 e0 e1 e2 e3 HAT kR hh wi wi2 wi3 wi4 wi5
            have HBK := hide (Blk.new w8 3 [.int .i64 A])
            have cb := Grow.box w8 (.cells [.int .i64 A].toArray 3)
            replace HS5 := hide (HS5.out.grow cb)
            replace cg := cg.step cb (fun _ _ h => h.elim)
            replace hs := hs.chg cb id
            replace hr := hr.chg cb id
            have HC := hide (cw.trans cb)
            replace HO := hide (own_grow HO.out cb)
            replace HSZ := hide (Nat.le_trans HSZ.out cb.size)
            clear cb cw
            go_wp2_with (at_builtin; refine wpList_append_own _ rfl _ _ 34 rfl b0 3 i0 (.int .i64 0) 1 8 Try.underlying34 HI.out HZ0.out HZ1.out HZ2.out rfl (by decide) _ _ _ rfl HO.out ⟨w8.heap.size, 0, none⟩ 1 1 [.int .i64 A] rfl rfl ?c1 ?c2 ?c3 ?c4 ?c5 ?_)
            case c1 => intro j u hj; rw [addr_add, Nat.zero_add, HBK.out.cell]; exact hj
            case c2 => intro u hu; simp at hu; subst hu; rfl
            case c3 => unfold maxLen; omega
            case c4 => omega
            case c5 => exact HSZ.out
            intro v' w9 hown3 hgrow _
            have cw := Chg.grownOwn HC.out HO.out HB0 hgrow
            replace hs := hs.grownOwn hgrow (by intro e; have := (HO.out.lt s e.symm).1; have := HB.out; omega)
            replace hr := hr.grownOwn hgrow (by intro e; have := (HO.out.lt r e.symm).1; have := HB.out; omega)
            have HBG := hide (HS5.out.open_.2.grownOwn hgrow (by intro e; have := (HO.out.lt g e.symm).1; have := HB.out; omega))
            have HCG := hide (Chg.grown (S := (· = g)) cg hgrow (fun j hj e => by have := (HO.out.lt j e).1; have := HB3.out; omega))
            have HO3 := hide hown3
            have HSZ3 := hide (Nat.le_trans HSZ.out hgrow.size)
            clear hgrow hown3 HC HO HBK cg HSZ
            go_wp2
            go_roundw
            case rel => exact ⟨k + 1, A + (2 + rr + dd), 2 + rr + dd, l ++ [(A : Int)], _, by omega, by go_num, by go_num, by go_num, HCG.out, HBG.out, HXL.out, HADD.out.1, by omega, by rw [List.length_append, List.length_singleton]; omega, by have := HO3.out; simpa [ints] using this, HSZ3.out, hs, hr, cw⟩
            case measure => simp [intOf]; omega
          · as_aux_lemma =>
            obtain ⟨rr, hrr⟩ := Int.eq_ofNat_of_zero_le (L5.sh_bd (o := some (⟨K, R, D, f⟩ : Cl)) (fun c' e => by injection e with e; subst e; exact L5.all_rt HSR.out.rt HCC.out) (0)).1
            obtain ⟨dd, hdd⟩ := Int.eq_ofNat_of_zero_le (L5.sh_bd (o := some (⟨K, R, D, f⟩ : Cl)) (fun c' e => by injection e with e; subst e; exact L5.all_rt HSR.out.rt HCC.out) (0)).2.2.1
            have hn32 := obN_bd HSR.out.rt HCC.out (0)
            have HNN := hide (show (obN ⟨K, R, D, f⟩ (0)) = 2 + rr + dd by have := hn32.2.2; rw [hrr, hdd] at this; omega)
            have hn2 : 2 + rr + dd ≤ 32 := by have := hn32.2.1; rw [HNN.out] at this; exact this
            have HRR := hide hrr
            have HDD := hide hdd
            have HCL := hide (L5.clAt_at HCC.out)
            have HWO := hide (show L5.woV (clAt cs ((i : Int) + 1)) (0) = ((2 + rr + dd : Nat) : Int) by rw [HCL.out, L5.woV, if_pos HX0.out, hrr, hdd]; simp)
            have HADD := hide (hsg.addObj (L := 0) HSR.out.rt HCC.out (L5.new_zero HX.out).2 HX0.out (by rw [hxl, HNN.out]; omega))
            rw [HNN.out] at HADD
            have HXL := hide (show (layL xs A (2 + rr + dd) ((i : Int) + 1) (0) f).length = 4096 by rw [layL_length]; exact hxl)
            have kR := sameH ((i : Int) + 1) 0 0 false f false
            clear hrr hdd hn32 hsg
            obtain ⟨e0, e1, e2, e3⟩ := HAT.out
            obtain ⟨r0, r1⟩ := hr.cell2
            dsimp only at e0 e1 e2 e3
            go_wp2_with fail
            clear e0 e1 e2 e3 r0 r1 s0 s1
            refine (rshape_is (R := (rr : Int)) (D := (dd : Int)) (X := 0) (H.out.chg cw (fun _ _ => id)) HSR.out.rt (by rw [HCL.out]; exact HRR.out) (by rw [HCL.out]; exact HDD.out) (by rw [HCL.out]; exact HX0.out)).mono ?_
            rintro e w4 ⟨rfl, c4⟩
            replace HSR := hide (HSR.out.grow c4)
            replace hs := hs.chg c4 id
            replace hr := hr.chg c4 id
            replace cw := cw.trans c4
            replace cg := cg.step c4 (fun _ _ h => h.elim)
            replace HAT := hide (HAT.out.chg c4 id)
            replace HO := hide (own_grow HO.out c4)
            replace HSZ := hide (Nat.le_trans HSZ.out c4.size)
            clear c4
            obtain ⟨s0, s1⟩ := hs.cell2
            go_wp2_with fail
            refine (lay_ok (a := A) (n := 2 + rr + dd) HSR.out HCC.out rfl (by rw [HCL.out]; exact HX0.out) HWO.out (L5.new_zero HX.out).2 hpos (by rw [hxl]; omega)).mono ?_
            rintro e w5 ⟨rfl, hs5, c5⟩
            replace hs := hs.chg c5 ngs
            replace hr := hr.chg c5 ngr
            replace HAT := hide (HAT.out.chg c5 (by have := HBW.out; have hg : w.heap.size ≤ g := HG; omega))
            replace cw := L6.chg_new cw c5 HG
            replace cg := cg.trans c5
            replace HO := hide (own_chg HO.out c5 (fun j hj => by have := (HO.out.lt j hj).1; have := HB.out; omega))
            replace HSZ := hide (Nat.le_trans HSZ.out c5.size)
            have HS5 := hide hs5
            have HOB := hide (HADD.out.2.ob HS5.out.rt)
            clear hs5 c5 s0 s1
            obtain ⟨s0, s1⟩ := hs.cell2
            go_wp2_with fail
            refine (oshape_is (R := (rr : Int)) (D := (dd : Int)) (X := 0) HS5.out (by omega) (by rw [HOB.out.1]; exact HRR.out) (by rw [HOB.out.1]; exact HDD.out) HOB.out.2).mono ?_
            rintro e w6 ⟨rfl, c6⟩
            replace HS5 := hide (HS5.out.grow c6)
            replace hs := hs.chg c6 id
            replace hr := hr.chg c6 id
            replace cw := cw.trans c6
            replace cg := cg.step c6 (fun _ _ h => h.elim)
            replace HAT := hide (HAT.out.chg c6 id)
            replace HO := hide (own_grow HO.out c6)
            replace HSZ := hide (Nat.le_trans HSZ.out c6.size)
            clear c6 s0 s1
            obtain ⟨s0, s1⟩ := hs.cell2
            go_wp2_with fail
            refine (head_is (C := (i : Int) + 1) (A := 0) (F := 0) (m := false) (f := f) (d := false) (X := 0) HS5.out (by omega) (by rw [HOB.out.1]; rfl) HOB.out.2).mono ?_
            rintro e w7 ⟨rfl, c7⟩
            replace HS5 := hide (HS5.out.grow c7)
            replace hs := hs.chg c7 id
            replace hr := hr.chg c7 id
            replace cw := cw.trans c7
            replace cg := cg.step c7 (fun _ _ h => h.elim)
            replace HAT := hide (HAT.out.chg c7 id)
            replace HO := hide (own_grow HO.out c7)
            replace HSZ := hide (Nat.le_trans HSZ.out c7.size)
            clear c7 s0 s1
            have hh := Blk.new w7 45 [.int .i64 ((i : Int) + 1), .int .i64 0, .int .i64 0, .bool false, .bool f, .bool false]
            replace hs := hs.alloc (.cells [.int .i64 ((i : Int) + 1), .int .i64 0, .int .i64 0, .bool false, .bool f, .bool false].toArray 45)
            replace hr := hr.alloc (.cells [.int .i64 ((i : Int) + 1), .int .i64 0, .int .i64 0, .bool false, .bool f, .bool false].toArray 45)
            replace cw := cw.alloc (.cells [.int .i64 ((i : Int) + 1), .int .i64 0, .int .i64 0, .bool false, .bool f, .bool false].toArray 45)
            have cb := Grow.box w7 (.cells [.int .i64 ((i : Int) + 1), .int .i64 0, .int .i64 0, .bool false, .bool f, .bool false].toArray 45)
            replace HS5 := hide (HS5.out.grow cb)
            replace cg := cg.step cb (fun _ _ h => h.elim)
            replace HAT := hide (HAT.out.chg cb id)
            replace HO := hide (own_grow HO.out cb)
            replace HSZ := hide (Nat.le_trans HSZ.out cb.size)
            clear cb
            obtain ⟨y0, y1, y2, y3, y4, y5⟩ := hh.cell6
            obtain ⟨e0, e1, e2, e3⟩ := HAT.out
            dsimp only at e0 e1 e2 e3
            go_wp2_with fail
            have wi : IntKind.i64.wrap (i : Int) = i := IntWalk.i64_in _ (by omega)
            have wi2 : IntKind.i64.wrap ((i : Int) + 1 - 1) = i := by rw [Int.add_sub_cancel]; exact wi
            have wi3 : (0 : Int) ≤ i := by omega
            have wi4 : (i : Int) < len := by omega
            have wi5 : (i : Int).toNat = i := by omega
            refine wp_region_grow (by kernel_rfl) (by kernel_rfl) ?_
            repeat (
              with_reducible refine wpQuiet_step ?_
              intro K hK
              first
                | ((with_reducible refine quiet_offT rfl ?_ (hK _ ?_)); focus (refine ⟨_, rfl, ?_⟩; with_reducible rfl))
                | ((with_reducible refine quiet_offF rfl ?_ (hK _ ?_)); focus (refine ⟨_, rfl, ?_⟩; with_reducible rfl))
                | ((with_reducible refine quiet_offN rfl ?_ (hK _ ?_)); focus (exact rfl))
                | ((first | with_reducible refine quiet_free rfl ?_ | ((with_reducible refine quiet_on rfl ?_ ?_); focus (refine ⟨_, rfl, ?_⟩; with_reducible rfl)))
                   apply Exists.intro
                   refine ⟨fun Wq hW => ?_, hK _ ?_⟩
                   focus (have q0 := Grow.cell hW y0; have q1 := Grow.cell hW y1; have q2 := Grow.cell hW y2; have q3 := Grow.cell hW y3; have q4 := Grow.cell hW y4; have q5 := Grow.cell hW y5; have q6 := Grow.cell hW e0; have q7 := Grow.cell hW e1; have q8 := Grow.cell hW e2; have q9 := Grow.cell hW e3; go_simp; first | done | with_reducible rfl))
              clear hK K
              simp only [Act.put, List.setIfInBounds_toArray, List.set_cons_zero, List.set_cons_succ])
            with_reducible refine wpQuiet_nil ?_
            intro w8 c8
            replace HS5 := hide (HS5.out.grow c8)
            replace cg := cg.step c8 (fun _ _ h => h.elim)
            replace hs := hs.chg c8 id
            replace hr := hr.chg c8 id
            replace cw := cw.trans c8
            replace HO := hide (own_grow HO.out c8)
            replace HSZ := hide (Nat.le_trans HSZ.out c8.size)
            clear c8 y0 y1 y2 y3 y4 y5 e0 e1 e2 e3 HAT kR hh wi wi2 wi3 wi4 wi5
            have HBK := hide (Blk.new w8 3 [.int .i64 A])
            have cb := Grow.box w8 (.cells [.int .i64 A].toArray 3)
            replace HS5 := hide (HS5.out.grow cb)
            replace cg := cg.step cb (fun _ _ h => h.elim)
            replace hs := hs.chg cb id
            replace hr := hr.chg cb id
            have HC := hide (cw.trans cb)
            replace HO := hide (own_grow HO.out cb)
            replace HSZ := hide (Nat.le_trans HSZ.out cb.size)
            clear cb cw
            go_wp2_with (at_builtin; refine wpList_append_own _ rfl _ _ 34 rfl b0 3 i0 (.int .i64 0) 1 8 Try.underlying34 HI.out HZ0.out HZ1.out HZ2.out rfl (by decide) _ _ _ rfl HO.out ⟨w8.heap.size, 0, none⟩ 1 1 [.int .i64 A] rfl rfl ?c1 ?c2 ?c3 ?c4 ?c5 ?_)
            case c1 => intro j u hj; rw [addr_add, Nat.zero_add, HBK.out.cell]; exact hj
            case c2 => intro u hu; simp at hu; subst hu; rfl
            case c3 => unfold maxLen; omega
            case c4 => omega
            case c5 => exact HSZ.out
            intro v' w9 hown3 hgrow _
            have cw := Chg.grownOwn HC.out HO.out HB0 hgrow
            replace hs := hs.grownOwn hgrow (by intro e; have := (HO.out.lt s e.symm).1; have := HB.out; omega)
            replace hr := hr.grownOwn hgrow (by intro e; have := (HO.out.lt r e.symm).1; have := HB.out; omega)
            have HBG := hide (HS5.out.open_.2.grownOwn hgrow (by intro e; have := (HO.out.lt g e.symm).1; have := HB.out; omega))
            have HCG := hide (Chg.grown (S := (· = g)) cg hgrow (fun j hj e => by have := (HO.out.lt j e).1; have := HB3.out; omega))
            have HO3 := hide hown3
            have HSZ3 := hide (Nat.le_trans HSZ.out hgrow.size)
            clear hgrow hown3 HC HO HBK cg HSZ
            go_wp2
            go_roundw
            case rel => exact ⟨k + 1, A + (2 + rr + dd), 2 + rr + dd, l ++ [(A : Int)], _, by omega, by go_num, by go_num, by go_num, HCG.out, HBG.out, HXL.out, HADD.out.1, by omega, by rw [List.length_append, List.length_singleton]; omega, by have := HO3.out; simpa [ints] using this, HSZ3.out, hs, hr, cw⟩
            case measure => simp [intOf]; omega
    · obtain rfl : k = len1 := by omega
      obtain ⟨l', hw'⟩ := hsg.short HSR.out.rt
      have hwk := hsg.whole HSR.out.rt
      obtain ⟨oa, oc, rfl⟩ := own_len HO.out
      obtain ⟨s0, s1⟩ := hs.cell2
      have HC := hide cw
      clear hr cg cw HSZ hsg HR1
      as_aux_lemma =>
      go_wp2_with fail
      refine (walk_ok HSR.out (by decide) (by omega) hwk).mono ?_
      rintro e w5 ⟨la, lc, rfl, ho5, c5⟩
      replace HSR := hide (HSR.out.grow c5)
      replace hs := hs.chg c5 id
      replace HC := hide (HC.out.trans c5)
      replace HO := hide (own_grow HO.out c5)
      clear c5 s0 s1 hwk
      obtain ⟨s0, s1⟩ := hs.cell2
      by_cases hsz1 : 1 < sz
      · rw [shortX, if_pos hsz1] at hw'
        have q5 : decide ((sz : Int) > 1) = true := by simp; omega
        go_wp2_with fail
        refine (walk_no HSR.out (by decide) (by omega) hw' (by decide)).mono ?_
        rintro e w6 ⟨rfl, c6⟩
        replace HC := hide (HC.out.trans c6)
        replace HO := hide (own_grow HO.out c6)
        replace ho5 := own_grow ho5 c6
        clear c6 s0 s1 hw'
        go_wp2_with fail
        refine (L1.same_yes _ _ _ _ _ _ _ (rd_own ho5) (rd_own HO.out) (by omega)).mono ?_
        rintro e w7 ⟨rfl, c7⟩
        replace HC := hide (HC.out.trans c7)
        go_wp2
        go_ret
        exact ⟨rfl, HC.out.below (fun _ _ h => h) (Nat.le_refl _)⟩
      · rw [shortX, if_neg hsz1] at hw'
        have q5 : decide ((sz : Int) > 1) = false := by simp; omega
        go_wp2_with fail
        refine (walk_ok HSR.out (by decide) (by omega) hw').mono ?_
        rintro e w6 ⟨la2, lc2, rfl, -, c6⟩
        replace HC := hide (HC.out.trans c6)
        replace HO := hide (own_grow HO.out c6)
        replace ho5 := own_grow ho5 c6
        clear c6 s0 s1 hw'
        go_wp2_with fail
        refine (L1.same_yes _ _ _ _ _ _ _ (rd_own ho5) (rd_own HO.out) (by omega)).mono ?_
        rintro e w7 ⟨rfl, c7⟩
        replace HC := hide (HC.out.trans c7)
        go_wp2
        go_ret
        exact ⟨rfl, HC.out.below (fun _ _ h => h) (Nat.le_refl _)⟩
theorem walk (a : Option Addr) (len cap : Nat) (cs : List Cl) (a1 : Option Addr) (len1 cap1 : Nat) (zs1 : List Int) (a2 : Option Addr) (len2 cap2 : Nat) (zs2 : List Int) (w : World) (h : IsCls w a len cap cs) (hr1 : IsRow .u8 w a1 len1 cap1 zs1) (hr2 : IsRow .u8 w a2 len2 cap2 zs2) :
    Calls Try.prog 3 #[.slice a len cap, .slice a1 len1 cap1, .slice a2 len2 cap2] w fun e w' => e = .returned (.bool true) ∧ Below w.heap.size w w' := by
  by_cases h1 : len1 ≤ 60
  rotate_left
  · exact walk_many a a1 a2 len cap len1 cap1 len2 cap2 w (.inl (by omega))
  by_cases h2 : len2 ≤ 200
  rotate_left
  · exact walk_many a a1 a2 len cap len1 cap1 len2 cap2 w (.inr (by omega))
  by_cases hl : len ≤ 100
  rotate_left
  · exact walk_long a a1 a2 len cap len1 cap1 len2 cap2 w h1 h2 (by omega)
  by_cases hX : newX cs = 0
  · exact walk_main a a1 a2 len cap len1 cap1 len2 cap2 cs zs1 zs2 w h1 h2 h hr1 hr2 hl hX
  · exact walk_bad a a1 a2 len cap len1 cap1 len2 cap2 cs w h1 h2 h hl hX


theorem own : ownKnob Try.prog.godebug = none := by kernel_rfl
theorem laidOut : laidOutB Try.prog = true := by kernel_rfl

set_option maxRecDepth 100000 in
theorem lifted (os : Os) (started : os.Started) (H : Type) (enc : TypeId × Value → H) :
    ReturnsInHanded {} Try.checked os 3 .any (Rows.objectWalksSpec.pre6 enc Try.prog Try.f3 Rows.objectWalksRow.domain false) (Rows.objectWalksSpec.post enc Try.prog Try.f3 false true false false) := by
  refine returnsInHanded_of_change (C := Try.checked) own started (by kernel_rfl) Try.func3
    (ChangeSpec.witness6 (enc := enc) (C := Try.checked) false ⟨#[], #[.slice none 0 0, .slice none 0 0, .slice none 0 0], []⟩ 8 (by kernel_rfl) (by kernel_rfl) (by kernel_rfl) (by kernel_rfl)) ?_
  intro W base args ds gs before hval0 hW hcnd _
  have hval : ∀ (j : Nat) t v, Try.f3.params[j]? = some t → args[j]? = some v → Value.okWide Try.prog W .any base t v := hval0
  have hW' := hW
  obtain ⟨p, q, hA0, hV, rfl, hfz, hnd⟩ := hW
  have hA : DataW.TrodAll enc Try.prog W 0 (fun _ => true) true Try.f3.params.toList args.toList ds p := hA0
  rw [Try.params3] at hA hval
  obtain ⟨v0, vs0, d0, ds0, p0, q0, hargs, rfl, rfl, h0, r0⟩ := trodAll_cons hA
  obtain ⟨v1, vs1, d1, ds1, p1, q1, rfl, rfl, rfl, h1, r1⟩ := trodAll_cons r0
  obtain ⟨v2, vs2, d2, ds2, p2, q2, rfl, rfl, rfl, h2, r2⟩ := trodAll_cons r1
  obtain ⟨rfl, rfl, rfl⟩ := trodAll_nil r2
  obtain rfl : args = #[v0, v1, v2] := by cases args; simp_all
  obtain ⟨rfl, rfl⟩ := trodVars_none hV
  have k0 := h0
  have lt0 : ∀ x ∈ p0, x.block < W.heap.size := by obtain ⟨m, hm⟩ := k0; exact DataW.trod_lt m _ _ _ hm
  obtain ⟨a0, len0, cap0, cs0, rfl, w0⟩ := open_cls (hval 0 22 v0 rfl rfl) h0
  obtain ⟨a1, len1, cap1, rfl⟩ := okWide_slice Try.underlying23 (hval 1 23 v1 rfl rfl)
  have k1 := h1
  have lt1 : ∀ x ∈ p1, x.block < W.heap.size := by obtain ⟨m, hm⟩ := k1; exact DataW.trod_lt m _ _ _ hm
  obtain ⟨z1, w1⟩ : ∃ zs, IsRow .u8 W a1 len1 cap1 zs := open_row Try.underlying23 Try.underlying5 (by kernel_rfl) h1
  obtain ⟨a2, len2, cap2, rfl⟩ := okWide_slice Try.underlying23 (hval 2 23 v2 rfl rfl)
  have k2 := h2
  have lt2 : ∀ x ∈ p2, x.block < W.heap.size := by obtain ⟨m, hm⟩ := k2; exact DataW.trod_lt m _ _ _ hm
  obtain ⟨z2, w2⟩ : ∃ zs, IsRow .u8 W a2 len2 cap2 zs := open_row Try.underlying23 Try.underlying5 (by kernel_rfl) h2
  clear hA0 hval0
  refine (walk a0 len0 cap0 cs0 a1 len1 cap1 z1 a2 len2 cap2 z2 W w0 w1 w2).mono fun e W' ⟨he, bel⟩ => ?_
  subst he
  exact ⟨_, rfl, _, _, _, [], _, [], hW', trodAll_mk1 (shut_bool Try.underlying4 _), (trodAll_cons_mk (Below.trod laidOut (by kernel_rfl) (of_decide_eq_true (by kernel_rfl)) k0 bel lt0) (trodAll_cons_mk (Below.trod laidOut (by kernel_rfl) (of_decide_eq_true (by kernel_rfl)) k1 bel lt1) (trodAll_cons_mk (Below.trod laidOut (by kernel_rfl) (of_decide_eq_true (by kernel_rfl)) k2 bel lt2) trodAll_mk0))), rfl, bel.frame _, fun h => by cases h⟩

theorem over : Rows.objectWalksRow.holds Try.pinned (OpenSpec.ofChange Rows.objectWalksSpec) :=
  OpenClaim.holds_of_wide 3 Try.f3 rfl rfl rfl rfl rfl rfl rfl ⟨rfl, rfl, rfl, rfl, rfl⟩ rfl rfl rfl rfl rfl (by kernel_rfl) Try.func3 (by kernel_rfl)
    (of_decide_eq_true (by kernel_rfl)) (by unfold Func.isWrapper; first | (rw [if_pos (by decide +kernel)]; kernel_rfl) | (rw [if_neg (by decide +kernel)]; exact ⟨rfl, rfl⟩))
    (fun os started H enc _ => lifted os started H enc)

/-- The statement. -/
theorem proved : Rows.ObjectWalksSaid := over
#print axioms proved
end Go.Proofs.Ytgknndbahdjghaa.objectWalks


/- For all classes and numbers ObjectLays answers true: an object that is laid has its class, its length's references and numbers, all 0; laid at another place it is the same there. Conditions: none. -/
import Derived.Test.YtgknndbahdjghaaL6Awake
import Derived.LoopTactic
namespace Go.Proofs.Ytgknndbahdjghaa.objectLays
open Go.ChangeShapes Go.WideShapes Go.ChangeAt Go.RowKit Go.Proofs.Ytgknndbahdjghaa.L6
open Go.Proofs.Ytgknndbahdjghaa.L4 (hdV)
open Go.Proofs.Ytgknndbahdjghaa.L5 (Cl IsCls newX clAt shX shR shD open_cls)
set_option linter.unusedVariables false

set_option maxHeartbeats 1000000 in
set_option maxRecDepth 100000 in
theorem walk_long (a : Option Addr) (len cap : Nat) (n l at_ : Int) (w : World) (hl : 100 < len) :
    Calls Try.prog 7 #[.slice a len cap, .int .u8 n, .int .u8 l, .int .u8 at_] w fun e w' => e = .returned (.bool true) ∧ Below w.heap.size w w' := by
  go_enter Try.func7, Try.ntmps7
  go_wp2_with fail
  refine (awake_any _).mono ?_
  rintro e wa ⟨rfl, ca⟩
  go_wp2_with fail
  refine (both_long 400 wa hl).mono ?_
  rintro e w1 ⟨rfl, c1⟩
  replace ca := ca.trans c1
  clear c1
  have cz := (ca.alloc (.cells [.pointer none, .pointer none].toArray 28)).alloc (.cells [.pointer none, .slice none 0 0].toArray 31)
  go_wp2
  go_ret
  exact ⟨rfl, cz.below (fun _ _ h => h) (Nat.le_refl _)⟩
set_option maxHeartbeats 1000000 in
set_option maxRecDepth 100000 in
theorem walk_bad (a : Option Addr) (len cap : Nat) (cs : List Cl) (n l at_ : Int) (w : World) (h : IsCls w a len cap cs) (hl : len ≤ 100) (hX : ¬ newX cs = 0) :
    Calls Try.prog 7 #[.slice a len cap, .int .u8 n, .int .u8 l, .int .u8 at_] w fun e w' => e = .returned (.bool true) ∧ Below w.heap.size w w' := by
  have H := hide h
  have HX := hide hX
  clear h hX
  go_enter Try.func7, Try.ntmps7
  go_wp2_with fail
  refine (awake_any _).mono ?_
  rintro e wa ⟨rfl, ca⟩
  go_wp2_with fail
  refine (both_no 400 wa (H.out.chg ca (fun _ _ => id)) hl HX.out).mono ?_
  rintro e w1 ⟨rfl, c1⟩
  replace ca := ca.trans c1
  clear c1
  have cz := (ca.alloc (.cells [.pointer none, .pointer none].toArray 28)).alloc (.cells [.pointer none, .slice none 0 0].toArray 31)
  go_wp2
  go_ret
  exact ⟨rfl, cz.below (fun _ _ h => h) (Nat.le_refl _)⟩
set_option maxHeartbeats 1000000 in
set_option maxRecDepth 100000 in
theorem walk_none (a : Option Addr) (cap : Nat) (n l at_ : Int) (w : World) (h : IsCls w a 0 cap []) :
    Calls Try.prog 7 #[.slice a 0 cap, .int .u8 n, .int .u8 l, .int .u8 at_] w fun e w' => e = .returned (.bool true) ∧ Below w.heap.size w w' := by
  have H := hide h
  have hl : 0 ≤ 100 := by omega
  have HX := hide (show newX [] = 0 by decide)
  clear h
  go_enter Try.func7, Try.ntmps7
  go_wp2_with fail
  refine (awake_any _).mono ?_
  rintro e wa ⟨rfl, ca⟩
  go_wp2_with fail
  refine (both_yes 400 wa (H.out.chg ca (fun _ _ => id)) hl HX.out).mono ?_
  rintro e w1 ⟨b, tg, g, q, rfl, hs1, hg, c1⟩
  have HS := hide hs1
  have HG : Fresh w g := Nat.le_trans ca.size hg
  replace ca := ca.trans c1
  clear hs1 hg c1
  have cz := (ca.alloc (.cells [.pointer (some ⟨b, 0, none⟩), .pointer (some ⟨tg, 0, none⟩)].toArray 28)).alloc (.cells [.pointer (some ⟨q, 0, none⟩), .slice a 0 cap].toArray 31)
  go_wp2
  go_ret
  exact ⟨rfl, cz.below (fun _ _ h => h) (Nat.le_refl _)⟩
theorem facts {cs : List Cl} {i p r d : Nat} {c : Cl} {L : Int} (hc : cs[i]? = some c) (hX : newX cs = 0) (hX0 : shX (some c) L = 0) (hr : shR (some c) L = r) (hd : shD (some c) L = d) (hp1 : 1 ≤ p ∧ p ≤ 256) :
    ∀ xs, layL (layL (L1.fillTo (zeros 400) 0 (-7) 400) p (2 + r + d) ((i : Int) + 1) L c.f) 300 (2 + r + d) ((i : Int) + 1) L c.f = xs →
      xs.length = 400 ∧ IsOb xs cs p i c L ∧ (∀ j, j < r + d → xs.getD (p + 2 + j) 0 = 0) ∧ xs.getD (p - 1) 0 = -7 ∧ xs.getD (p + (2 + r + d)) 0 = -7 ∧ (xs.drop p).take (2 + r + d) = (xs.drop 300).take (2 + r + d) := by
  obtain ⟨hrt, hl⟩ := L5.new_zero hX
  have hbd := L5.sh_bd (o := some c) (fun c' e => by injection e with e; subst e; exact L5.all_rt hrt hc) L
  rw [hr, hd] at hbd
  have hm : 2 + r + d ≤ 32 := by omega
  rintro xs rfl
  have h0 : (L1.fillTo (zeros 400) 0 (-7) 400).length = 400 := by rw [L1.fillTo_length, zeros_length]
  have g0 : ∀ j, j < 400 → (L1.fillTo (zeros 400) 0 (-7) 400).getD j 0 = -7 := fun j hj => by rw [fill_get _ _ _ _ _ (by rw [zeros_length]; omega), if_pos (by omega)]
  generalize L1.fillTo (zeros 400) 0 (-7) 400 = xs0 at *
  have h1 : (layL xs0 p (2 + r + d) ((i : Int) + 1) L c.f).length = 400 := by rw [layL_length]; exact h0
  have g1 := fun j => layL_get xs0 p (2 + r + d) ((i : Int) + 1) L c.f j (by omega) (by omega)
  have o1 := layL_ob (xs := xs0) (n := 2 + r + d) hc hl hrt hX0 (by rw [hr, hd]; omega) hp1.1 (by omega)
  generalize layL xs0 p (2 + r + d) ((i : Int) + 1) L c.f = xs1 at *
  have g2 := fun j => layL_get xs1 300 (2 + r + d) ((i : Int) + 1) L c.f j (by omega) (by omega)
  refine ⟨by rw [layL_length]; exact h1, ?_, ?_, ?_, ?_, ?_⟩
  · refine o1.same (layL_length _ _ _ _ _ _) ?_ ?_
    · rw [g2, if_neg (by omega), if_neg (by omega), if_neg (by omega)]
    · rw [g2, if_neg (by omega), if_neg (by omega), if_neg (by omega)]
  · intro j hj
    rw [g2, if_neg (by omega), if_neg (by omega), if_neg (by omega), g1, if_neg (by omega), if_neg (by omega), if_pos (by omega)]
  · rw [g2, if_neg (by omega), if_neg (by omega), if_neg (by omega), g1, if_neg (by omega), if_neg (by omega), if_neg (by omega)]
    exact g0 _ (by omega)
  · rw [g2, if_neg (by omega), if_neg (by omega), if_neg (by omega), g1, if_neg (by omega), if_neg (by omega), if_neg (by omega)]
    exact g0 _ (by omega)
  · refine cut_same (fun j hj => ?_) (by rw [layL_length]; omega) (by rw [layL_length]; omega)
    rw [g2 (p + j), if_neg (by omega), if_neg (by omega), if_neg (by omega), g1 (p + j), g2 (300 + j)]
    by_cases e1 : j = 1
    · rw [if_pos (show p + j = p + 1 by omega), if_pos (show 300 + j = 300 + 1 by omega)]
    · rw [if_neg (show ¬ p + j = p + 1 by omega), if_neg (show ¬ 300 + j = 300 + 1 by omega)]
      by_cases e0 : j = 0
      · rw [if_pos (show p + j = p by omega), if_pos (show 300 + j = 300 by omega)]
      · rw [if_neg (show ¬ p + j = p by omega), if_neg (show ¬ 300 + j = 300 by omega), if_pos (show p ≤ p + j ∧ p + j < p + (2 + r + d) by omega), if_pos (show 300 ≤ 300 + j ∧ 300 + j < 300 + (2 + r + d) by omega)]
theorem cut_length (a m : Nat) (xs : List Int) (h : a + m ≤ xs.length) : ((xs.drop a).take m).length = m := by simp; omega
set_option maxHeartbeats 4000000 in
set_option maxRecDepth 100000 in
theorem main_arr (bb off len cap i p r d : Nat) (cs : List Cl) (K R D : Int) (f : Bool) (n l at_ : Int) (w : World) (h : IsCls w (some ⟨bb, off, none⟩) len cap cs) (hl : len ≤ 100) (hX : newX cs = 0) (h0 : 0 < len)
    (hn : 0 ≤ n ∧ n ≤ 255) (hi : n % (len : Int) = i) (hc : cs[i]? = some ⟨K, R, D, f⟩) (hlb : 0 ≤ l ∧ l ≤ 255) (hp : 1 + at_ = p) (hp1 : 1 ≤ p ∧ p ≤ 256) (hk : K = 2) (hX0 : shX (some ⟨K, R, D, f⟩) (l % 31) = 0) (hr : shR (some ⟨K, R, D, f⟩) (l % 31) = r) (hd : shD (some ⟨K, R, D, f⟩) (l % 31) = d) :
    Calls Try.prog 7 #[.slice (some ⟨bb, off, none⟩) len cap, .int .u8 n, .int .u8 l, .int .u8 at_] w fun e w' => e = .returned (.bool true) ∧ Below w.heap.size w w' := by
  have hcl : clAt cs (1 + (i : Int)) = some ⟨K, R, D, f⟩ := by rw [show (1 + (i : Int)) = (i : Int) + 1 by omega]; exact L5.clAt_at hc
  have hwo : L5.woV (clAt cs (1 + (i : Int))) (l % 31) = ((2 + r + d : Nat) : Int) := by rw [hcl, L5.woV, if_pos hX0, hr, hd]; simp
  have HCL := hide hcl
  have HWO := hide hwo
  have HBD := hide (show 2 + r + d ≤ 32 by
    have := L5.sh_bd (o := some (⟨K, R, D, f⟩ : Cl)) (fun c' e => by injection e with e; subst e; exact L5.all_rt (L5.new_zero hX).1 hc) (l % 31)
    rw [hr, hd] at this
    omega)
  clear hcl hwo
  subst hk
  have hil : i < len := by have := (List.getElem?_eq_some_iff.1 hc).1; rw [h.len] at this; exact this
  have hFA := hide (facts hc hX hX0 hr hd hp1)
  have hlm := h.2.2.1
  unfold maxLen at hlm
  have hlc := h.2.1
  have hz : (len : Int) ≠ 0 := by omega
  have hz' : ((len : Int) == 0) = false := by simp; omega
  have H := hide h
  have HX := hide hX
  have HCC := hide hc
  have u1 : IntKind.i64.wrap n = n := IntWalk.i64_in _ (by omega)
  have u2 : IntKind.i64.wrap at_ = at_ := IntWalk.i64_in _ (by omega)
  have u3 : IntKind.i64.wrap l = l := IntWalk.i64_in _ (by omega)
  have u4 : wrap64 (n % (len : Int)) = i := by rw [hi]; exact wrap64_id _ (by omega)
  have u5 : wrap64 (1 + at_) = p := by rw [hp]; exact wrap64_id _ (by omega)
  have HX0 := hide hX0
  have HR := hide hr
  have HD := hide hd
  clear h hX hc hX0 hr hd
  go_enter Try.func7, Try.ntmps7
  go_wp2_with fail
  refine (awake_any _).mono ?_
  rintro e wa ⟨rfl, ca⟩
  go_wp2_with fail
  refine (both_yes 400 wa (H.out.chg ca (fun _ _ => id)) hl HX.out).mono ?_
  rintro e w1 ⟨b, tg, g, q, rfl, hs1, hg, c1⟩
  have HS := hide hs1
  have HG : Fresh w g := Nat.le_trans ca.size hg
  replace ca := ca.trans c1
  clear hs1 hg c1
  rw [show L1.clamp 400 = 400 by decide] at HS
  have ngs0 := hide HS.out.lt
  obtain ⟨hs, hr_, cc, fs, fr_, n_sr_⟩ := boxes2 w1 28 [.pointer (some ⟨b, 0, none⟩), .pointer (some ⟨tg, 0, none⟩)] 31 [.pointer (some ⟨q, 0, none⟩), .slice (some ⟨bb, off, none⟩) len cap]
  obtain ⟨b', off', c', e', hc', hat, -⟩ := (H.out.chg ca (fun _ _ => id)).at_ hil
  rw [HCC.out] at hc'
  injection hc' with hc'
  subst hc'
  injection e' with e'
  injection e' with e1' e2'
  subst e1' e2'
  obtain ⟨e0, e1, e2, e3⟩ := hat.chg cc id
  dsimp only at e0 e1 e2 e3
  have r0 := hr_.cell 1
  clear hat
  go_wp2_with fail
  have ngs : ¬ w1.heap.size = g := by have := ngs0.out; omega
  have ngr : ¬ w1.heap.size + 1 = g := by have := ngs0.out; omega
  clear ngs0 e0 e1 e2 e3 r0
  replace HS := hide (HS.out.grow cc)
  replace ca := ca.trans cc
  clear cc
  generalize (w1.alloc (.cells #[.pointer (some ⟨b, 0, none⟩), .pointer (some ⟨tg, 0, none⟩)] 28)).alloc (.cells #[.pointer (some ⟨q, 0, none⟩), .slice (some ⟨bb, off, none⟩) len cap] 31) = w3 at *
  generalize w1.heap.size + 1 = r_ at *
  generalize w1.heap.size = s at *
  have hr := hr_
  clear hr_
  refine (rshape_is (R := (r : Int)) (D := (d : Int)) (X := 0) (H.out.chg ca (fun _ _ => id)) HS.out.rt (by rw [HCL.out]; exact HR.out) (by rw [HCL.out]; exact HD.out) (by rw [HCL.out]; exact HX0.out)).mono ?_
  rintro e w4 ⟨rfl, c4⟩
  replace HS := hide (HS.out.grow c4)
  replace hs := hs.chg c4 id
  replace hr := hr.chg c4 id
  replace ca := ca.trans c4
  clear c4
  obtain ⟨s0, s1⟩ := hs.cell2
  go_wp2_with fail
  refine (fill_is (a := 0) (m := 400) HS.out rfl rfl (by rw [zeros_length]; omega)).mono ?_
  rintro e w5 ⟨rfl, hs', c'⟩
  replace HS := hide hs'
  replace hs := hs.chg c' ngs
  replace hr := hr.chg c' ngr
  replace ca := L6.chg_new ca c' HG
  clear hs' c' s0 s1
  obtain ⟨s0, s1⟩ := hs.cell2
  have hl64 := HX.out
  have hl63 := (L5.new_zero HX.out).2
  clear hl64
  go_wp2_with fail
  refine (lay_ok (a := p) (n := 2 + r + d) HS.out HCC.out (Int.add_comm _ _) (by rw [HCL.out]; exact HX0.out) HWO.out hl63 hp1.1 (by have := HBD.out; rw [L1.fillTo_length, zeros_length]; omega)).mono ?_
  rintro e w6 ⟨rfl, hs', c'⟩
  replace HS := hide hs'
  replace hs := hs.chg c' ngs
  replace hr := hr.chg c' ngr
  replace ca := L6.chg_new ca c' HG
  clear hs' c' s0 s1
  obtain ⟨s0, s1⟩ := hs.cell2
  go_wp2_with fail
  refine (lay_ok (a := 300) (n := 2 + r + d) HS.out HCC.out (Int.add_comm _ _) (by rw [HCL.out]; exact HX0.out) HWO.out hl63 (by omega) (by have := HBD.out; rw [layL_length, L1.fillTo_length, zeros_length]; omega)).mono ?_
  rintro e w7 ⟨rfl, hs', c'⟩
  replace HS := hide hs'
  replace hs := hs.chg c' ngs
  replace hr := hr.chg c' ngr
  replace ca := L6.chg_new ca c' HG
  clear hs' c' s0 s1
  obtain ⟨s0, s1⟩ := hs.cell2
  rw [Int.add_comm 1 (i : Int)] at HS
  obtain ⟨xs, hxs⟩ : ∃ xs, layL (layL (L1.fillTo (zeros 400) 0 (-7) 400) p (2 + r + d) ((i : Int) + 1) (l % 31) f) 300 (2 + r + d) ((i : Int) + 1) (l % 31) f = xs := ⟨_, rfl⟩
  obtain ⟨f1, f2, f3, f4, f5, f6⟩ := hFA.out xs hxs
  rw [hxs] at HS
  have HV1 := hide (show ∀ j : Nat, j < r → slV xs cs p j false = 0 ∧ slX xs cs p j false = 0 from fun j hj => by
    obtain ⟨v1, v2⟩ := f2.rd HS.out.rt j false (by rw [if_neg (by decide), HR.out]; omega)
    exact ⟨by rw [v2, if_neg (by decide)]; exact f3 j (by omega), v1⟩)
  have HV2 := hide (show ∀ j : Nat, j < d → slV xs cs p j true = 0 ∧ slX xs cs p j true = 0 from fun j hj => by
    obtain ⟨v1, v2⟩ := f2.rd HS.out.rt j true (by rw [if_pos rfl, HD.out]; omega)
    exact ⟨by rw [v2, if_pos rfl, HR.out, Int.toNat_natCast, show p + 2 + r + j = p + 2 + (r + j) by omega]; exact f3 (r + j) (by omega), v1⟩)
  have HL1 := hide (show ldV xs ((p : Int) - 1) = -7 ∧ ldX xs ((p : Int) - 1) = 0 by
    have e : ldB xs ((p : Int) - 1) = true := by simp [ldB]; omega
    refine ⟨?_, by rw [ldX, e]; rfl⟩
    rw [ldV, e, if_pos rfl, gw, show ((p : Int) - 1).toNat = p - 1 by omega]
    exact f4)
  have HL2 := hide (show ldV xs ((p : Int) + 2 + r + d) = -7 ∧ ldX xs ((p : Int) + 2 + r + d) = 0 by
    have := HBD.out
    have e : ldB xs ((p : Int) + 2 + r + d) = true := by simp [ldB]; omega
    refine ⟨?_, by rw [ldX, e]; rfl⟩
    rw [ldV, e, if_pos rfl, gw, show ((p : Int) + 2 + r + d).toNat = p + (2 + r + d) by omega]
    exact f5)
  have HCUT := hide f6
  have HLEN := hide f1
  have HBD2 := hide HBD.out
  clear hxs f1 f2 f3 f4 f5 f6 hFA hr s0 s1
  go_wp2
  go_loopw [96] (fun x wr => ∃ k : Nat, k ≤ r ∧ x = .int .i64 k ∧ Grow w7 wr) (fun x _ => r - (intOf x).toNat)
  case atStart => exact ⟨0, Nat.zero_le _, rfl, Chg.refl _ _⟩
  case round =>
    obtain ⟨k, hkr, rfl, cr⟩ := hrel
    have hb := HBD2.out
    by_cases hlt : k < r
    · obtain ⟨s0, s1⟩ := (hs.chg cr id).cell2
      have HV := hide (HV1.out k hlt)
      go_wp2_with fail
      refine (ref_is (HS.out.grow cr) (by omega) HV.out.1 HV.out.2).mono ?_
      rintro e w8 ⟨rfl, c8⟩
      replace cr := cr.trans c8
      clear c8 s0 s1
      go_wp2
      go_roundw
      case rel => exact ⟨k + 1, by omega, by go_num, cr⟩
      case measure => simp [intOf]; omega
    · obtain rfl : k = r := by omega
      replace HS := hide (HS.out.grow cr)
      replace hs := hs.chg cr id
      replace ca := ca.trans cr
      clear cr hlt hkr HV1
      as_aux_lemma =>
      go_wp2
      go_loopw [114] (fun x wq => ∃ m : Nat, m ≤ d ∧ x = .int .i64 m ∧ Grow wr wq) (fun x _ => d - (intOf x).toNat)
      case atStart => exact ⟨0, Nat.zero_le _, rfl, Chg.refl _ _⟩
      case round =>
        obtain ⟨m, hmd, rfl, cq⟩ := hrel
        have hb := HBD2.out
        by_cases hlt : m < d
        · obtain ⟨s0, s1⟩ := (hs.chg cq id).cell2
          have HV := hide (HV2.out m hlt)
          go_wp2_with fail
          refine (num_is (HS.out.grow cq) (by omega) HV.out.1 HV.out.2).mono ?_
          rintro e w8 ⟨rfl, c8⟩
          replace cq := cq.trans c8
          clear c8 s0 s1
          go_wp2
          go_roundw
          case rel => exact ⟨m + 1, by omega, by go_num, cq⟩
          case measure => simp [intOf]; omega
        · obtain rfl : m = d := by omega
          replace HS := hide (HS.out.grow cq)
          replace ca := ca.trans cq
          clear cq hlt hmd HV2 hs
          as_aux_lemma =>
          go_wp2_with fail
          refine (awords_is (a := p) (m := 2 + k + m) HS.out rfl (by simp) (by rw [HLEN.out]; omega)).mono ?_
          rintro e w8 ⟨z1, rfl, hb1, c8⟩
          replace HS := hide (HS.out.grow c8)
          replace ca := ca.trans c8
          clear c8
          go_wp2_with fail
          refine (awords_is (a := 300) (m := 2 + k + m) HS.out rfl (by simp) (by rw [HLEN.out]; omega)).mono ?_
          rintro e w9 ⟨z2, rfl, hb2, c9⟩
          replace HS := hide (HS.out.grow c9)
          replace ca := ca.trans c9
          replace hb1 := hb1.chg c9 id
          clear c9
          go_wp2_with fail
          refine (load_is HS.out.ar HS.out.n (by omega) HL1.out.1 HL1.out.2).mono ?_
          rintro e w' ⟨rfl, rfl⟩
          go_wp2_with fail
          refine (load_is HS.out.ar HS.out.n (by omega) HL2.out.1 HL2.out.2).mono ?_
          rintro e w' ⟨rfl, rfl⟩
          rw [← HCUT.out] at hb2
          have hcl := cut_length p (2 + k + m) xs (by rw [HLEN.out]; omega)
          go_wp2_with fail
          refine (L1.same_yes _ _ _ _ _ _ _ (L1.Rd.of_blk hb1 hcl) (L1.Rd.of_blk hb2 hcl) (by omega)).mono ?_
          rintro e wx ⟨rfl, cx⟩
          replace ca := ca.trans cx
          go_wp2
          go_ret
          exact ⟨rfl, ca.below (fun _ _ h => h) (Nat.le_refl _)⟩
set_option maxHeartbeats 4000000 in
set_option maxRecDepth 100000 in
theorem main_oth (bb off len cap i p r d : Nat) (cs : List Cl) (K R D : Int) (f : Bool) (n l at_ : Int) (w : World) (h : IsCls w (some ⟨bb, off, none⟩) len cap cs) (hl : len ≤ 100) (hX : newX cs = 0) (h0 : 0 < len)
    (hn : 0 ≤ n ∧ n ≤ 255) (hi : n % (len : Int) = i) (hc : cs[i]? = some ⟨K, R, D, f⟩) (hlb : 0 ≤ l ∧ l ≤ 255) (hp : 1 + at_ = p) (hp1 : 1 ≤ p ∧ p ≤ 256) (hk : (K == 2) = false) (hX0 : shX (some ⟨K, R, D, f⟩) (0) = 0) (hr : shR (some ⟨K, R, D, f⟩) (0) = r) (hd : shD (some ⟨K, R, D, f⟩) (0) = d) :
    Calls Try.prog 7 #[.slice (some ⟨bb, off, none⟩) len cap, .int .u8 n, .int .u8 l, .int .u8 at_] w fun e w' => e = .returned (.bool true) ∧ Below w.heap.size w w' := by
  have hcl : clAt cs (1 + (i : Int)) = some ⟨K, R, D, f⟩ := by rw [show (1 + (i : Int)) = (i : Int) + 1 by omega]; exact L5.clAt_at hc
  have hwo : L5.woV (clAt cs (1 + (i : Int))) (0) = ((2 + r + d : Nat) : Int) := by rw [hcl, L5.woV, if_pos hX0, hr, hd]; simp
  have HCL := hide hcl
  have HWO := hide hwo
  have HBD := hide (show 2 + r + d ≤ 32 by
    have := L5.sh_bd (o := some (⟨K, R, D, f⟩ : Cl)) (fun c' e => by injection e with e; subst e; exact L5.all_rt (L5.new_zero hX).1 hc) (0)
    rw [hr, hd] at this
    omega)
  clear hcl hwo
  skip
  have hil : i < len := by have := (List.getElem?_eq_some_iff.1 hc).1; rw [h.len] at this; exact this
  have hFA := hide (facts hc hX hX0 hr hd hp1)
  have hlm := h.2.2.1
  unfold maxLen at hlm
  have hlc := h.2.1
  have hz : (len : Int) ≠ 0 := by omega
  have hz' : ((len : Int) == 0) = false := by simp; omega
  have H := hide h
  have HX := hide hX
  have HCC := hide hc
  have u1 : IntKind.i64.wrap n = n := IntWalk.i64_in _ (by omega)
  have u2 : IntKind.i64.wrap at_ = at_ := IntWalk.i64_in _ (by omega)
  have u3 : IntKind.i64.wrap l = l := IntWalk.i64_in _ (by omega)
  have u4 : wrap64 (n % (len : Int)) = i := by rw [hi]; exact wrap64_id _ (by omega)
  have u5 : wrap64 (1 + at_) = p := by rw [hp]; exact wrap64_id _ (by omega)
  have HX0 := hide hX0
  have HR := hide hr
  have HD := hide hd
  clear h hX hc hX0 hr hd
  go_enter Try.func7, Try.ntmps7
  go_wp2_with fail
  refine (awake_any _).mono ?_
  rintro e wa ⟨rfl, ca⟩
  go_wp2_with fail
  refine (both_yes 400 wa (H.out.chg ca (fun _ _ => id)) hl HX.out).mono ?_
  rintro e w1 ⟨b, tg, g, q, rfl, hs1, hg, c1⟩
  have HS := hide hs1
  have HG : Fresh w g := Nat.le_trans ca.size hg
  replace ca := ca.trans c1
  clear hs1 hg c1
  rw [show L1.clamp 400 = 400 by decide] at HS
  have ngs0 := hide HS.out.lt
  obtain ⟨hs, hr_, cc, fs, fr_, n_sr_⟩ := boxes2 w1 28 [.pointer (some ⟨b, 0, none⟩), .pointer (some ⟨tg, 0, none⟩)] 31 [.pointer (some ⟨q, 0, none⟩), .slice (some ⟨bb, off, none⟩) len cap]
  obtain ⟨b', off', c', e', hc', hat, -⟩ := (H.out.chg ca (fun _ _ => id)).at_ hil
  rw [HCC.out] at hc'
  injection hc' with hc'
  subst hc'
  injection e' with e'
  injection e' with e1' e2'
  subst e1' e2'
  obtain ⟨e0, e1, e2, e3⟩ := hat.chg cc id
  dsimp only at e0 e1 e2 e3
  have r0 := hr_.cell 1
  clear hat
  go_wp2_with fail
  have ngs : ¬ w1.heap.size = g := by have := ngs0.out; omega
  have ngr : ¬ w1.heap.size + 1 = g := by have := ngs0.out; omega
  clear ngs0 e0 e1 e2 e3 r0
  replace HS := hide (HS.out.grow cc)
  replace ca := ca.trans cc
  clear cc
  generalize (w1.alloc (.cells #[.pointer (some ⟨b, 0, none⟩), .pointer (some ⟨tg, 0, none⟩)] 28)).alloc (.cells #[.pointer (some ⟨q, 0, none⟩), .slice (some ⟨bb, off, none⟩) len cap] 31) = w3 at *
  generalize w1.heap.size + 1 = r_ at *
  generalize w1.heap.size = s at *
  have hr := hr_
  clear hr_
  refine (rshape_is (R := (r : Int)) (D := (d : Int)) (X := 0) (H.out.chg ca (fun _ _ => id)) HS.out.rt (by rw [HCL.out]; exact HR.out) (by rw [HCL.out]; exact HD.out) (by rw [HCL.out]; exact HX0.out)).mono ?_
  rintro e w4 ⟨rfl, c4⟩
  replace HS := hide (HS.out.grow c4)
  replace hs := hs.chg c4 id
  replace hr := hr.chg c4 id
  replace ca := ca.trans c4
  clear c4
  obtain ⟨s0, s1⟩ := hs.cell2
  go_wp2_with fail
  refine (fill_is (a := 0) (m := 400) HS.out rfl rfl (by rw [zeros_length]; omega)).mono ?_
  rintro e w5 ⟨rfl, hs', c'⟩
  replace HS := hide hs'
  replace hs := hs.chg c' ngs
  replace hr := hr.chg c' ngr
  replace ca := L6.chg_new ca c' HG
  clear hs' c' s0 s1
  obtain ⟨s0, s1⟩ := hs.cell2
  have hl64 := HX.out
  have hl63 := (L5.new_zero HX.out).2
  clear hl64
  go_wp2_with fail
  refine (lay_ok (a := p) (n := 2 + r + d) HS.out HCC.out (Int.add_comm _ _) (by rw [HCL.out]; exact HX0.out) HWO.out hl63 hp1.1 (by have := HBD.out; rw [L1.fillTo_length, zeros_length]; omega)).mono ?_
  rintro e w6 ⟨rfl, hs', c'⟩
  replace HS := hide hs'
  replace hs := hs.chg c' ngs
  replace hr := hr.chg c' ngr
  replace ca := L6.chg_new ca c' HG
  clear hs' c' s0 s1
  obtain ⟨s0, s1⟩ := hs.cell2
  go_wp2_with fail
  refine (lay_ok (a := 300) (n := 2 + r + d) HS.out HCC.out (Int.add_comm _ _) (by rw [HCL.out]; exact HX0.out) HWO.out hl63 (by omega) (by have := HBD.out; rw [layL_length, L1.fillTo_length, zeros_length]; omega)).mono ?_
  rintro e w7 ⟨rfl, hs', c'⟩
  replace HS := hide hs'
  replace hs := hs.chg c' ngs
  replace hr := hr.chg c' ngr
  replace ca := L6.chg_new ca c' HG
  clear hs' c' s0 s1
  obtain ⟨s0, s1⟩ := hs.cell2
  rw [Int.add_comm 1 (i : Int)] at HS
  obtain ⟨xs, hxs⟩ : ∃ xs, layL (layL (L1.fillTo (zeros 400) 0 (-7) 400) p (2 + r + d) ((i : Int) + 1) (0) f) 300 (2 + r + d) ((i : Int) + 1) (0) f = xs := ⟨_, rfl⟩
  obtain ⟨f1, f2, f3, f4, f5, f6⟩ := hFA.out xs hxs
  rw [hxs] at HS
  have HV1 := hide (show ∀ j : Nat, j < r → slV xs cs p j false = 0 ∧ slX xs cs p j false = 0 from fun j hj => by
    obtain ⟨v1, v2⟩ := f2.rd HS.out.rt j false (by rw [if_neg (by decide), HR.out]; omega)
    exact ⟨by rw [v2, if_neg (by decide)]; exact f3 j (by omega), v1⟩)
  have HV2 := hide (show ∀ j : Nat, j < d → slV xs cs p j true = 0 ∧ slX xs cs p j true = 0 from fun j hj => by
    obtain ⟨v1, v2⟩ := f2.rd HS.out.rt j true (by rw [if_pos rfl, HD.out]; omega)
    exact ⟨by rw [v2, if_pos rfl, HR.out, Int.toNat_natCast, show p + 2 + r + j = p + 2 + (r + j) by omega]; exact f3 (r + j) (by omega), v1⟩)
  have HL1 := hide (show ldV xs ((p : Int) - 1) = -7 ∧ ldX xs ((p : Int) - 1) = 0 by
    have e : ldB xs ((p : Int) - 1) = true := by simp [ldB]; omega
    refine ⟨?_, by rw [ldX, e]; rfl⟩
    rw [ldV, e, if_pos rfl, gw, show ((p : Int) - 1).toNat = p - 1 by omega]
    exact f4)
  have HL2 := hide (show ldV xs ((p : Int) + 2 + r + d) = -7 ∧ ldX xs ((p : Int) + 2 + r + d) = 0 by
    have := HBD.out
    have e : ldB xs ((p : Int) + 2 + r + d) = true := by simp [ldB]; omega
    refine ⟨?_, by rw [ldX, e]; rfl⟩
    rw [ldV, e, if_pos rfl, gw, show ((p : Int) + 2 + r + d).toNat = p + (2 + r + d) by omega]
    exact f5)
  have HCUT := hide f6
  have HLEN := hide f1
  have HBD2 := hide HBD.out
  clear hxs f1 f2 f3 f4 f5 f6 hFA hr s0 s1
  go_wp2
  go_loopw [96] (fun x wr => ∃ k : Nat, k ≤ r ∧ x = .int .i64 k ∧ Grow w7 wr) (fun x _ => r - (intOf x).toNat)
  case atStart => exact ⟨0, Nat.zero_le _, rfl, Chg.refl _ _⟩
  case round =>
    obtain ⟨k, hkr, rfl, cr⟩ := hrel
    have hb := HBD2.out
    by_cases hlt : k < r
    · obtain ⟨s0, s1⟩ := (hs.chg cr id).cell2
      have HV := hide (HV1.out k hlt)
      go_wp2_with fail
      refine (ref_is (HS.out.grow cr) (by omega) HV.out.1 HV.out.2).mono ?_
      rintro e w8 ⟨rfl, c8⟩
      replace cr := cr.trans c8
      clear c8 s0 s1
      go_wp2
      go_roundw
      case rel => exact ⟨k + 1, by omega, by go_num, cr⟩
      case measure => simp [intOf]; omega
    · obtain rfl : k = r := by omega
      replace HS := hide (HS.out.grow cr)
      replace hs := hs.chg cr id
      replace ca := ca.trans cr
      clear cr hlt hkr HV1
      as_aux_lemma =>
      go_wp2
      go_loopw [114] (fun x wq => ∃ m : Nat, m ≤ d ∧ x = .int .i64 m ∧ Grow wr wq) (fun x _ => d - (intOf x).toNat)
      case atStart => exact ⟨0, Nat.zero_le _, rfl, Chg.refl _ _⟩
      case round =>
        obtain ⟨m, hmd, rfl, cq⟩ := hrel
        have hb := HBD2.out
        by_cases hlt : m < d
        · obtain ⟨s0, s1⟩ := (hs.chg cq id).cell2
          have HV := hide (HV2.out m hlt)
          go_wp2_with fail
          refine (num_is (HS.out.grow cq) (by omega) HV.out.1 HV.out.2).mono ?_
          rintro e w8 ⟨rfl, c8⟩
          replace cq := cq.trans c8
          clear c8 s0 s1
          go_wp2
          go_roundw
          case rel => exact ⟨m + 1, by omega, by go_num, cq⟩
          case measure => simp [intOf]; omega
        · obtain rfl : m = d := by omega
          replace HS := hide (HS.out.grow cq)
          replace ca := ca.trans cq
          clear cq hlt hmd HV2 hs
          as_aux_lemma =>
          go_wp2_with fail
          refine (awords_is (a := p) (m := 2 + k + m) HS.out rfl (by simp) (by rw [HLEN.out]; omega)).mono ?_
          rintro e w8 ⟨z1, rfl, hb1, c8⟩
          replace HS := hide (HS.out.grow c8)
          replace ca := ca.trans c8
          clear c8
          go_wp2_with fail
          refine (awords_is (a := 300) (m := 2 + k + m) HS.out rfl (by simp) (by rw [HLEN.out]; omega)).mono ?_
          rintro e w9 ⟨z2, rfl, hb2, c9⟩
          replace HS := hide (HS.out.grow c9)
          replace ca := ca.trans c9
          replace hb1 := hb1.chg c9 id
          clear c9
          go_wp2_with fail
          refine (load_is HS.out.ar HS.out.n (by omega) HL1.out.1 HL1.out.2).mono ?_
          rintro e w' ⟨rfl, rfl⟩
          go_wp2_with fail
          refine (load_is HS.out.ar HS.out.n (by omega) HL2.out.1 HL2.out.2).mono ?_
          rintro e w' ⟨rfl, rfl⟩
          rw [← HCUT.out] at hb2
          have hcl := cut_length p (2 + k + m) xs (by rw [HLEN.out]; omega)
          go_wp2_with fail
          refine (L1.same_yes _ _ _ _ _ _ _ (L1.Rd.of_blk hb1 hcl) (L1.Rd.of_blk hb2 hcl) (by omega)).mono ?_
          rintro e wx ⟨rfl, cx⟩
          replace ca := ca.trans cx
          go_wp2
          go_ret
          exact ⟨rfl, ca.below (fun _ _ h => h) (Nat.le_refl _)⟩
theorem walk (a : Option Addr) (len cap : Nat) (cs : List Cl) (n l at_ : Int) (w : World) (h : IsCls w a len cap cs) (wn : (Lit.int .u8 n).wf = true) (wl : (Lit.int .u8 l).wf = true) (wa : (Lit.int .u8 at_).wf = true) :
    Calls Try.prog 7 #[.slice a len cap, .int .u8 n, .int .u8 l, .int .u8 at_] w fun e w' => e = .returned (.bool true) ∧ Below w.heap.size w w' := by
  by_cases hl : len ≤ 100
  rotate_left
  · exact walk_long a len cap n l at_ w (by omega)
  by_cases hX : newX cs = 0
  rotate_left
  · exact walk_bad a len cap cs n l at_ w h hl hX
  by_cases h0 : len = 0
  · subst h0
    obtain rfl : cs = [] := List.eq_nil_of_length_eq_zero h.len
    exact walk_none a cap n l at_ w h
  have hn : 0 ≤ n ∧ n ≤ 255 := bounds_u8 wn
  have hlb : 0 ≤ l ∧ l ≤ 255 := bounds_u8 wl
  have hab : 0 ≤ at_ ∧ at_ ≤ 255 := bounds_u8 wa
  have hi0 : 0 ≤ n % (len : Int) := Int.emod_nonneg _ (by omega)
  have hi1 : n % (len : Int) < len := Int.emod_lt_of_pos _ (by omega)
  obtain ⟨i, hi⟩ := Int.eq_ofNat_of_zero_le hi0
  obtain ⟨p, hp⟩ := Int.eq_ofNat_of_zero_le (show 0 ≤ 1 + at_ by omega)
  obtain ⟨bb, off, ⟨K, R, D, f⟩, rfl, hc, -, -⟩ := h.at_ (i := i) (by omega)
  obtain ⟨hrt, hl64⟩ := L5.new_zero hX
  have hrb := L5.rt_bd (L5.all_rt hrt hc)
  have hbd := fun l => L5.sh_bd (o := some (⟨K, R, D, f⟩ : Cl)) (fun c' e => by injection e with e; subst e; exact L5.all_rt hrt hc) l
  by_cases hk : K = 2
  · have hx : shX (some ⟨K, R, D, f⟩) (l % 31) = 0 := by
      simp only [shX]
      rw [if_neg (by rintro (h | h); omega; exact h.2 hk), if_neg (by omega)]
    obtain ⟨r, hr⟩ := Int.eq_ofNat_of_zero_le (hbd (l % 31)).1
    obtain ⟨d, hd⟩ := Int.eq_ofNat_of_zero_le (hbd (l % 31)).2.2.1
    exact main_arr bb off len cap i p r d cs K R D f n l at_ w h hl hX (by omega) hn hi hc hlb hp (by omega) hk hx hr hd
  · have hx : shX (some ⟨K, R, D, f⟩) 0 = 0 := by
      simp only [shX]
      rw [if_neg (by omega), if_neg (by omega)]
    obtain ⟨r, hr⟩ := Int.eq_ofNat_of_zero_le (hbd 0).1
    obtain ⟨d, hd⟩ := Int.eq_ofNat_of_zero_le (hbd 0).2.2.1
    exact main_oth bb off len cap i p r d cs K R D f n l at_ w h hl hX (by omega) hn hi hc hlb hp (by omega) (by simpa using hk) hx hr hd


theorem own : ownKnob Try.prog.godebug = none := by kernel_rfl
theorem laidOut : laidOutB Try.prog = true := by kernel_rfl

set_option maxRecDepth 100000 in
theorem lifted (os : Os) (started : os.Started) (H : Type) (enc : TypeId × Value → H) :
    ReturnsInHanded {} Try.checked os 7 .any (Rows.objectLaysSpec.pre6 enc Try.prog Try.f7 Rows.objectLaysRow.domain false) (Rows.objectLaysSpec.post enc Try.prog Try.f7 false true false false) := by
  refine returnsInHanded_of_change (C := Try.checked) own started (by kernel_rfl) Try.func7
    (ChangeSpec.witness6 (enc := enc) (C := Try.checked) false ⟨#[], #[.slice none 0 0, .int .u8 0, .int .u8 0, .int .u8 0], []⟩ 8 (by kernel_rfl) (by kernel_rfl) (by kernel_rfl) (by kernel_rfl)) ?_
  intro W base args ds gs before hval0 hW hcnd _
  have hval : ∀ (j : Nat) t v, Try.f7.params[j]? = some t → args[j]? = some v → Value.okWide Try.prog W .any base t v := hval0
  have hW' := hW
  obtain ⟨p, q, hA0, hV, rfl, hfz, hnd⟩ := hW
  have hA : DataW.TrodAll enc Try.prog W 0 (fun _ => true) true Try.f7.params.toList args.toList ds p := hA0
  rw [Try.params7] at hA hval
  obtain ⟨v0, vs0, d0, ds0, p0, q0, hargs, rfl, rfl, h0, r0⟩ := trodAll_cons hA
  obtain ⟨v1, vs1, d1, ds1, p1, q1, rfl, rfl, rfl, h1, r1⟩ := trodAll_cons r0
  obtain ⟨v2, vs2, d2, ds2, p2, q2, rfl, rfl, rfl, h2, r2⟩ := trodAll_cons r1
  obtain ⟨v3, vs3, d3, ds3, p3, q3, rfl, rfl, rfl, h3, r3⟩ := trodAll_cons r2
  obtain ⟨rfl, rfl, rfl⟩ := trodAll_nil r3
  obtain rfl : args = #[v0, v1, v2, v3] := by cases args; simp_all
  obtain ⟨rfl, rfl⟩ := trodVars_none hV
  have k0 := h0
  have lt0 : ∀ x ∈ p0, x.block < W.heap.size := by obtain ⟨m, hm⟩ := k0; exact DataW.trod_lt m _ _ _ hm
  obtain ⟨a0, len0, cap0, cs0, rfl, w0⟩ := open_cls (hval 0 22 v0 rfl rfl) h0
  obtain ⟨a1, rfl, rfl, rfl, w1⟩ := open_int Try.underlying5 (hval 1 5 v1 rfl rfl) h1
  obtain ⟨a2, rfl, rfl, rfl, w2⟩ := open_int Try.underlying5 (hval 2 5 v2 rfl rfl) h2
  obtain ⟨a3, rfl, rfl, rfl, w3⟩ := open_int Try.underlying5 (hval 3 5 v3 rfl rfl) h3
  clear hA0 hval0
  refine (walk a0 len0 cap0 cs0 a1 a2 a3 W w0 w1 w2 w3).mono fun e W' ⟨he, bel⟩ => ?_
  subst he
  exact ⟨_, rfl, _, _, _, [], _, [], hW', trodAll_mk1 (shut_bool Try.underlying4 _), (trodAll_cons_mk (Below.trod laidOut (by kernel_rfl) (of_decide_eq_true (by kernel_rfl)) k0 bel lt0) (trodAll_cons_mk (shut_int Try.underlying5 w1) (trodAll_cons_mk (shut_int Try.underlying5 w2) (trodAll_cons_mk (shut_int Try.underlying5 w3) trodAll_mk0)))), rfl, bel.frame _, fun h => by cases h⟩

theorem over : Rows.objectLaysRow.holds Try.pinned (OpenSpec.ofChange Rows.objectLaysSpec) :=
  OpenClaim.holds_of_wide 7 Try.f7 rfl rfl rfl rfl rfl rfl rfl ⟨rfl, rfl, rfl, rfl, rfl⟩ rfl rfl rfl rfl rfl (by kernel_rfl) Try.func7 (by kernel_rfl)
    (of_decide_eq_true (by kernel_rfl)) (by unfold Func.isWrapper; first | (rw [if_pos (by decide +kernel)]; kernel_rfl) | (rw [if_neg (by decide +kernel)]; exact ⟨rfl, rfl⟩))
    (fun os started H enc _ => lifted os started H enc)

/-- The statement. -/
theorem proved : Rows.ObjectLaysSaid := over
#print axioms proved
end Go.Proofs.Ytgknndbahdjghaa.objectLays


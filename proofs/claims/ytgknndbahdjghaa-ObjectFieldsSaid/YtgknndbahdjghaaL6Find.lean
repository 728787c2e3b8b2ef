/- What exists, measure, find and object answer; they change nothing but make new memory. Conditions: the numbers given fit their kinds. -/
import Derived.Test.YtgknndbahdjghaaL6St
namespace Go.Proofs.Ytgknndbahdjghaa.L6
open Go.ChangeShapes Go.WideShapes Go.ChangeAt Go.RowKit
open Go.Proofs.Ytgknndbahdjghaa.L1 (Sl Ar ptr exB)
open Go.Proofs.Ytgknndbahdjghaa.L4 (hdV riB wd wdV wdX ofB ofC ofA ofF ofM ofN ofD ofV ofX set6)
open Go.Proofs.Ytgknndbahdjghaa.L5 (Cl clV rtB Tb clAt shX shR shD woV c0 IsCls newX)
set_option linter.unusedVariables false

section
variable {w w' : World} {p tp : Option Addr} {g : Nat} {xs ys : List Int} {cs : List Cl}
theorem len_any (h : Am w p g xs) : Calls Try.prog 45 #[.pointer p] w fun e w' => e = .returned (.int .i64 xs.length) ∧ w = w' := by
  obtain ⟨A, hA⟩ := h.sl
  exact L1.len_any _ A _ _ hA
theorem load_any (h : Am w p g xs) (hn : xs.length ≤ 4096) (i : Int) (h1 : i ≤ 9223372036854775807) :
    Calls Try.prog 27 #[.pointer p, .int .i64 i] w fun e w' => e = .returned (.tuple #[.int .i64 (ldV xs i), .int .i64 (ldX xs i)]) ∧ w = w' := by
  by_cases hi : 0 ≤ i ∧ i < xs.length
  · have e : ldB xs i = true := by simpa [ldB] using hi
    rcases h with ⟨rfl, rfl⟩ | ⟨b, rfl, h⟩
    · simp at hi; omega
    · obtain ⟨k, rfl⟩ := Int.eq_ofNat_of_zero_le hi.1
      have := L1.load_ok b g xs k w h hn (by omega)
      simpa [ldV, ldX, e, gw] using this
  · have e : ldB xs i = false := by simpa [ldB] using hi
    obtain ⟨A, hA⟩ := h.sl
    have := L1.load_no _ A _ i w hA hn h1 (by simp [exB]; omega)
    simpa [ldV, ldX, e] using this
set_option maxHeartbeats 400000 in
theorem exists_any (h : St w p tp g xs cs) (i m : Int) (h1 : i ≤ 9223372036854775807) :
    Calls Try.prog 30 #[stV p tp, .int .i64 i, .int .i64 m] w fun e w' => e = .returned (.bool (oxB xs.length i m)) ∧ Grow w w' := by
  have hn := h.n
  have H := hide (h.grow (Grow.box w (.cells [.pointer p, .pointer tp].toArray 28))).ar
  clear h
  by_cases ha : 1 ≤ i
  · have HE := hide (show oxB xs.length i m = decide (m ≤ (xs.length : Int) - i) by simp [oxB, ha])
    go_enter Try.func30, Try.ntmps30
    go_wp2_with (go_at_call 45; refine (len_any H.out).mono ?_; rintro e w' ⟨rfl, rfl⟩)
    go_ret
    exact ⟨ret_bool HE.out.symm, Grow.box _ _⟩
  · have ha' : decide (1 ≤ i) = false := by simpa using ha
    have HE := hide (show oxB xs.length i m = false by simp [oxB, ha])
    go_enter Try.func30, Try.ntmps30
    go_wp2
    go_ret
    exact ⟨ret_bool HE.out.symm, Grow.box _ _⟩
theorem exists_is {i m : Int} {b : Bool} (h : St w p tp g xs cs) (h1 : i ≤ 9223372036854775807) (hb : oxB xs.length i m = b) :
    Calls Try.prog 30 #[stV p tp, .int .i64 i, .int .i64 m] w fun e w' => e = .returned (.bool b) ∧ Grow w w' := by
  have h' := exists_any h i m h1
  rwa [hb] at h'
theorem load_is {i V X : Int} (h : Am w p g xs) (hn : xs.length ≤ 4096) (h1 : i ≤ 9223372036854775807) (hV : ldV xs i = V) (hX : ldX xs i = X) :
    Calls Try.prog 27 #[.pointer p, .int .i64 i] w fun e w' => e = .returned (.tuple #[.int .i64 V, .int .i64 X]) ∧ w = w' := by
  have h' := load_any h hn i h1
  rwa [hV, hX] at h'

set_option maxHeartbeats 1000000 in
theorem measure_single (h : St w p tp g xs cs) (i A F : Int) (f d : Bool) :
    Calls Try.prog 53 #[stV p tp, .int .i64 i, hdV 0 A F true f d] w fun e w' => e = .returned (.tuple #[(⟨0, A, F, true, f, d, 1, 0, 0⟩ : Th).v, .bool true]) ∧ Grow w w' := by
  have H := hide h
  clear h
  go_enter Try.func53, Try.ntmps53
  go_wp2
  refine bodyPost_ret (v := .tuple #[(⟨0, A, F, true, f, d, 1, 0, 0⟩ : Th).v, .bool true]) (by simp [results, Try.results53, go_sem]) rfl ?_
  exact ⟨rfl, ((Grow.box _ _).alloc _).alloc _⟩
set_option maxHeartbeats 1000000 in
theorem measure_off (h : St w p tp g xs cs) (i C A F : Int) (m f d : Bool) (h0 : 1 ≤ i) (h1 : i < xs.length) (hc : ¬ C = 0 ∨ m = false) (h2 : (xs.length : Int) ≤ i + 1) :
    Calls Try.prog 53 #[stV p tp, .int .i64 i, hdV C A F m f d] w fun e w' => e = .returned (.tuple #[th0.v, .bool false]) ∧ Grow w w' := by
  have hn := h.n
  have e : ldB xs (i + 1) = false := by simp [ldB]; omega
  have HV := hide (show ldV xs (i + 1) = 0 ∧ ldX xs (i + 1) = 2 by simp [ldV, ldX, e])
  clear e
  by_cases hz : C = 0
  · obtain rfl : m = false := by simpa [hz] using hc
    subst hz
    clear hc
    have H := hide h
    clear h
    go_enter Try.func53, Try.ntmps53
    have HW := hide (show wrap64 (i + 1) = i + 1 from wrap64_id _ (by omega))
    have A1 := hide (H.out.grow (((Grow.box w (.cells [.pointer p, .pointer tp].toArray 28)).alloc (.cells [.int .i64 0, .int .i64 A, .int .i64 F, .bool false, .bool f, .bool d].toArray 45)).alloc (.cells [.int .i64 0, .int .i64 0, .int .i64 0, .bool false, .bool false, .bool false, .int .i64 0, .int .i64 0, .int .i64 0].toArray 71))).ar
    go_wp2_with fail
    refine (load_is A1.out hn (by omega) HV.out.1 HV.out.2).mono ?_
    rintro e w' ⟨rfl, rfl⟩
    go_wp2
    refine bodyPost_ret (v := .tuple #[(⟨0, 0, 0, false, false, false, 0, 0, 0⟩ : Th).v, .bool false]) (by simp [results, Try.results53, go_sem]) rfl ?_
    exact ⟨rfl, ((Grow.box _ _).alloc _).alloc _⟩
  · clear hc
    have H := hide h
    clear h
    go_enter Try.func53, Try.ntmps53
    have HW := hide (show wrap64 (i + 1) = i + 1 from wrap64_id _ (by omega))
    have A1 := hide (H.out.grow (((Grow.box w (.cells [.pointer p, .pointer tp].toArray 28)).alloc (.cells [.int .i64 C, .int .i64 A, .int .i64 F, .bool m, .bool f, .bool d].toArray 45)).alloc (.cells [.int .i64 0, .int .i64 0, .int .i64 0, .bool false, .bool false, .bool false, .int .i64 0, .int .i64 0, .int .i64 0].toArray 71))).ar
    go_wp2_with fail
    refine (load_is A1.out hn (by omega) HV.out.1 HV.out.2).mono ?_
    rintro e w' ⟨rfl, rfl⟩
    go_wp2
    refine bodyPost_ret (v := .tuple #[(⟨0, 0, 0, false, false, false, 0, 0, 0⟩ : Th).v, .bool false]) (by simp [results, Try.results53, go_sem]) rfl ?_
    exact ⟨rfl, ((Grow.box _ _).alloc _).alloc _⟩
set_option maxHeartbeats 1000000 in
theorem measure_gap (h : St w p tp g xs cs) (i A F s : Int) (f d : Bool) (h0 : 1 ≤ i) (h2 : i + 1 < xs.length) (hs : gw xs (i + 1) = s) :
    Calls Try.prog 53 #[stV p tp, .int .i64 i, hdV 0 A F false f d] w fun e w' => e = .returned (.tuple #[(⟨0, A, F, false, f, d, s, 0, 0⟩ : Th).v, .bool (decide (2 ≤ s))]) ∧ Grow w w' := by
  have hn := h.n
  have e : ldB xs (i + 1) = true := by simp [ldB]; omega
  have HV := hide (show ldV xs (i + 1) = s ∧ ldX xs (i + 1) = 0 by simp [ldV, ldX, e, hs])
  clear e hs
  have H := hide h
  clear h
  go_enter Try.func53, Try.ntmps53
  have HW := hide (show wrap64 (i + 1) = i + 1 from wrap64_id _ (by omega))
  have A1 := hide (H.out.grow (((Grow.box w (.cells [.pointer p, .pointer tp].toArray 28)).alloc (.cells [.int .i64 0, .int .i64 A, .int .i64 F, .bool false, .bool f, .bool d].toArray 45)).alloc (.cells [.int .i64 0, .int .i64 0, .int .i64 0, .bool false, .bool false, .bool false, .int .i64 0, .int .i64 0, .int .i64 0].toArray 71))).ar
  go_wp2_with fail
  refine (load_is A1.out hn (by omega) HV.out.1 HV.out.2).mono ?_
  rintro e w' ⟨rfl, rfl⟩
  go_wp2
  refine bodyPost_ret (v := .tuple #[(⟨0, A, F, false, f, d, s, 0, 0⟩ : Th).v, .bool (decide (2 ≤ s))]) (by simp [results, Try.results53, go_sem]) rfl ?_
  exact ⟨rfl, ((Grow.box _ _).alloc _).alloc _⟩
theorem shape_is {n l R D X : Int} {base : Nat} {v : Value} (h : Tb w base tp v cs) (hl : cs.length ≤ 100) (hall : cs.all Cl.rt = true) (hR : shR (clAt cs n) l = R) (hD : shD (clAt cs n) l = D) (hX : shX (clAt cs n) l = X) :
    Calls Try.prog 48 #[.pointer tp, .int .i64 n, .int .i64 l] w fun e w' => e = .returned (.tuple #[.int .i64 R, .int .i64 D, .int .i64 X]) ∧ Grow w w' := by
  have h' := L5.shape_any h hl hall l n
  rwa [hR, hD, hX] at h'
set_option maxHeartbeats 1000000 in
theorem measure_obj (h : St w p tp g xs cs) (i C A F L R D X : Int) (m f d : Bool) (h0 : 1 ≤ i) (h2 : i + 1 < xs.length) (hC : ¬ C = 0) (hs : gw xs (i + 1) = L) (hR : shR (clAt cs C) L = R) (hD : shD (clAt cs C) L = D) (hX : shX (clAt cs C) L = X) :
    Calls Try.prog 53 #[stV p tp, .int .i64 i, hdV C A F m f d] w fun e w' => e = .returned (.tuple #[(⟨C, A, F, m, f, d, 2 + R + D, R, D⟩ : Th).v, .bool (X == 0)]) ∧ Grow w w' := by
  have hn := h.n
  have e : ldB xs (i + 1) = true := by simp [ldB]; omega
  have HV := hide (show ldV xs (i + 1) = L ∧ ldX xs (i + 1) = 0 by simp [ldV, ldX, e, hs])
  have HR := hide hR
  have HD := hide hD
  have HX := hide hX
  have hbd : 0 ≤ R ∧ R ≤ 30 ∧ 0 ≤ D ∧ D ≤ 30 ∧ R + D ≤ 30 := by
    have := L5.sh_bd (o := clAt cs C) (fun c hc => L5.clAt_rt h.rt hc) L
    rwa [hR, hD] at this
  clear e hs hR hD hX
  have HW := hide (show wrap64 (i + 1) = i + 1 from wrap64_id _ (by omega))
  obtain ⟨hs, hb, hr, cc, fs, fb, fr, n_sb, n_sr, n_br⟩ := boxes3 w 28 [.pointer p, .pointer tp] 45 [.int .i64 C, .int .i64 A, .int .i64 F, .bool m, .bool f, .bool d] 71 [.int .i64 0, .int .i64 0, .int .i64 0, .bool false, .bool false, .bool false, .int .i64 0, .int .i64 0, .int .i64 0]
  have H := hide h
  clear h
  go_enter Try.func53, Try.ntmps53
  go_wp2_with fail
  generalize ((w.alloc (.cells #[.pointer p, .pointer tp] 28)).alloc (.cells #[.int .i64 C, .int .i64 A, .int .i64 F, .bool m, .bool f, .bool d] 45)).alloc (.cells #[.int .i64 0, .int .i64 0, .int .i64 0, .bool false, .bool false, .bool false, .int .i64 0, .int .i64 0, .int .i64 0] 71) = w3 at *
  generalize w.heap.size + 1 + 1 = r at *
  generalize w.heap.size + 1 = b at *
  generalize w.heap.size = s at *
  refine (load_is (H.out.grow cc).ar hn (by omega) HV.out.1 HV.out.2).mono ?_
  rintro e w' ⟨rfl, rfl⟩
  obtain ⟨s0, s1⟩ := hs.cell2
  obtain ⟨b0, b1, b2, b3, b4, b5⟩ := hb.cell6
  go_wp2_with fail
  obtain ⟨base, v, ht⟩ := (H.out.grow cc).tab
  refine (shape_is ht H.out.cl H.out.rt HR.out HD.out HX.out).mono ?_
  rintro e w4 ⟨rfl, c4⟩
  clear ht s0 s1 b0 b1 b2 b3 b4 b5 hs
  replace hb := hb.chg c4 id
  replace hr := hr.chg c4 id
  replace cc := cc.trans c4
  clear c4
  obtain ⟨b0, b1, b2, b3, b4, b5⟩ := hb.cell6
  obtain ⟨r0, r1, r2, r3, r4, r5, r6, r7, r8⟩ := hr.cell9
  obtain ⟨k0, k1, k2, k3, k4, k5, k6, k7, k8⟩ := hr.frozen9
  go_wp2
  clear b0 b1 b2 b3 b4 b5 r0 r1 r2 r3 r4 r5 r6 r7 r8 k0 k1 k2 k3 k4 k5 k6 k7 k8
  have hr' : Blk (((((((((w4.setCell ⟨r, 0, none⟩ (.int .i64 C)).setCell ⟨r, 1, none⟩ (.int .i64 A)).setCell ⟨r, 2, none⟩ (.int .i64 F)).setCell ⟨r, 3, none⟩ (.bool m)).setCell ⟨r, 4, none⟩ (.bool f)).setCell ⟨r, 5, none⟩ (.bool d)).setCell ⟨r, 6, none⟩ (.int .i64 (2 + R + D))).setCell ⟨r, 7, none⟩ (.int .i64 R)).setCell ⟨r, 8, none⟩ (.int .i64 D)) r 71 [.int .i64 C, .int .i64 A, .int .i64 F, .bool m, .bool f, .bool d, .int .i64 (2 + R + D), .int .i64 R, .int .i64 D] := hr.put9 (.int .i64 C) (.int .i64 A) (.int .i64 F) (.bool m) (.bool f) (.bool d) (.int .i64 (2 + R + D)) (.int .i64 R) (.int .i64 D)
  have cc' := fr.put9 cc (.int .i64 C) (.int .i64 A) (.int .i64 F) (.bool m) (.bool f) (.bool d) (.int .i64 (2 + R + D)) (.int .i64 R) (.int .i64 D)
  change Grow _ (((((((((w4.setCell ⟨r, 0, none⟩ (.int .i64 C)).setCell ⟨r, 1, none⟩ (.int .i64 A)).setCell ⟨r, 2, none⟩ (.int .i64 F)).setCell ⟨r, 3, none⟩ (.bool m)).setCell ⟨r, 4, none⟩ (.bool f)).setCell ⟨r, 5, none⟩ (.bool d)).setCell ⟨r, 6, none⟩ (.int .i64 (2 + R + D))).setCell ⟨r, 7, none⟩ (.int .i64 R)).setCell ⟨r, 8, none⟩ (.int .i64 D)) at cc'
  clear hr cc
  generalize (((((((((w4.setCell ⟨r, 0, none⟩ (.int .i64 C)).setCell ⟨r, 1, none⟩ (.int .i64 A)).setCell ⟨r, 2, none⟩ (.int .i64 F)).setCell ⟨r, 3, none⟩ (.bool m)).setCell ⟨r, 4, none⟩ (.bool f)).setCell ⟨r, 5, none⟩ (.bool d)).setCell ⟨r, 6, none⟩ (.int .i64 (2 + R + D))).setCell ⟨r, 7, none⟩ (.int .i64 R)).setCell ⟨r, 8, none⟩ (.int .i64 D)) = w5 at *
  have hr := hr'
  have cc := cc'
  clear hr' cc'
  obtain ⟨r0, r1, r2, r3, r4, r5, r6, r7, r8⟩ := hr.cell9
  refine bodyPost_ret (v := .tuple #[(⟨C, A, F, m, f, d, 2 + R + D, R, D⟩ : Th).v, .bool (X == 0)]) (by simp [results, Try.results53, go_sem, r0, r1, r2, r3, r4, r5, r6, r7, r8]) rfl ?_
  exact ⟨rfl, cc⟩
theorem me_single {i C A F : Int} {m f d : Bool} (h : C = 0 ∧ m = true) : meT xs cs i C A F m f d = ⟨C, A, F, m, f, d, 1, 0, 0⟩ ∧ meB xs cs i C m = true := by simp [meT, meB, h]
theorem me_off {i C A F : Int} {m f d : Bool} (h : ¬ (C = 0 ∧ m = true)) (h2 : ¬ i + 1 < xs.length) : meT xs cs i C A F m f d = th0 ∧ meB xs cs i C m = false := by simp only [meT, meB, if_neg h, if_neg h2, and_self]
theorem me_gap {i C A F : Int} {m f d : Bool} (h : ¬ (C = 0 ∧ m = true)) (h2 : i + 1 < xs.length) (hC : C = 0) : meT xs cs i C A F m f d = ⟨C, A, F, m, f, d, gw xs (i + 1), 0, 0⟩ ∧ meB xs cs i C m = decide (2 ≤ gw xs (i + 1)) := by simp only [meT, meB, if_neg h, if_pos h2, if_pos hC, and_self]
theorem me_obj {i C A F : Int} {m f d : Bool} (h2 : i + 1 < xs.length) (hC : ¬ C = 0) : meT xs cs i C A F m f d = ⟨C, A, F, m, f, d, 2 + shR (clAt cs C) (gw xs (i + 1)) + shD (clAt cs C) (gw xs (i + 1)), shR (clAt cs C) (gw xs (i + 1)), shD (clAt cs C) (gw xs (i + 1))⟩ ∧ meB xs cs i C m = decide (shX (clAt cs C) (gw xs (i + 1)) = 0) := by
  have h : ¬ (C = 0 ∧ m = true) := fun h => hC h.1
  simp only [meT, meB, if_neg h, if_pos h2, if_neg hC, and_self]
theorem measure_any (h : St w p tp g xs cs) (i C A F : Int) (m f d : Bool) (h0 : 1 ≤ i) (h1 : i < xs.length) :
    Calls Try.prog 53 #[stV p tp, .int .i64 i, hdV C A F m f d] w fun e w' => e = .returned (.tuple #[(meT xs cs i C A F m f d).v, .bool (meB xs cs i C m)]) ∧ Grow w w' := by
  by_cases hs : C = 0 ∧ m = true
  · obtain ⟨e1, e2⟩ := me_single (xs := xs) (cs := cs) (i := i) (A := A) (F := F) (f := f) (d := d) hs
    rw [e1, e2]
    obtain ⟨rfl, rfl⟩ := hs
    exact measure_single h i A F f d
  · by_cases h2 : i + 1 < xs.length
    · by_cases hC : C = 0
      · obtain ⟨e1, e2⟩ := me_gap (cs := cs) (A := A) (F := F) (f := f) (d := d) hs h2 hC
        rw [e1, e2]
        subst hC
        obtain rfl : m = false := by simpa using hs
        exact measure_gap h i A F _ f d h0 h2 rfl
      · obtain ⟨e1, e2⟩ := me_obj (cs := cs) (A := A) (F := F) (m := m) (f := f) (d := d) h2 hC
        rw [e1, e2]
        have := measure_obj h i C A F _ _ _ _ m f d h0 h2 hC rfl rfl rfl rfl
        exact this
    · obtain ⟨e1, e2⟩ := me_off (cs := cs) (A := A) (F := F) (f := f) (d := d) hs h2
      rw [e1, e2]
      refine measure_off h i C A F m f d h0 h1 ?_ (by omega)
      by_cases hC : C = 0
      · exact .inr (by simpa [hC] using hs)
      · exact .inl hC
theorem measure_is {i C A F : Int} {m f d b : Bool} {t : Th} (h : St w p tp g xs cs) (h0 : 1 ≤ i) (h1 : i < xs.length) (ht : meT xs cs i C A F m f d = t) (hb : meB xs cs i C m = b) :
    Calls Try.prog 53 #[stV p tp, .int .i64 i, hdV C A F m f d] w fun e w' => e = .returned (.tuple #[t.v, .bool b]) ∧ Grow w w' := by
  have h' := measure_any h i C A F m f d h0 h1
  rwa [ht, hb] at h'
end
end Go.Proofs.Ytgknndbahdjghaa.L6

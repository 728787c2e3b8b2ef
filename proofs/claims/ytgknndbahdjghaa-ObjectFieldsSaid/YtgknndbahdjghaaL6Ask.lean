/- What object, Size, Shape and Head answer; they change nothing but make new memory. Conditions: the address is a number of 64 bits. -/
import Derived.Test.YtgknndbahdjghaaL6Thing
namespace Go.Proofs.Ytgknndbahdjghaa.L6
open Go.ChangeShapes Go.WideShapes Go.ChangeAt Go.RowKit
open Go.Proofs.Ytgknndbahdjghaa.L1 (Sl Ar ptr exB)
open Go.Proofs.Ytgknndbahdjghaa.L4 (hdV riB wd wdV wdX ofB ofC ofA ofF ofM ofN ofD ofV ofX set6)
open Go.Proofs.Ytgknndbahdjghaa.L5 (Cl clV rtB Tb clAt shX shR shD woV c0 IsCls newX)
set_option linter.unusedVariables false

section
variable {w w' : World} {p tp : Option Addr} {g : Nat} {xs ys : List Int} {cs : List Cl}
set_option maxHeartbeats 400000 in
theorem isobj_any (t : Th) (w : World) :
    Calls Try.prog 41 #[t.v] w fun e w' => e = .returned (.bool (t.C != 0)) ∧ Grow w w' := by
  obtain ⟨C, A, F, m, f, d, W, R, D⟩ := t
  go_enter Try.func41, Try.ntmps41
  go_wp2
  go_ret
  exact ⟨rfl, Grow.box _ _⟩
theorem isobj_at (C A F : Int) (m f d : Bool) (W R D : Int) (w : World) :
    Calls Try.prog 41 #[.agg #[.int .i64 C, .int .i64 A, .int .i64 F, .bool m, .bool f, .bool d, .int .i64 W, .int .i64 R, .int .i64 D]] w fun e w' => e = .returned (.bool (C != 0)) ∧ Grow w w' :=
  isobj_any ⟨C, A, F, m, f, d, W, R, D⟩ w
theorem isobj_is {t : Th} {b : Bool} (w : World) (h : (t.C != 0) = b) :
    Calls Try.prog 41 #[t.v] w fun e w' => e = .returned (.bool b) ∧ Grow w w' := by
  have h' := isobj_any t w
  rwa [h] at h'
theorem fd_th0 {i : Int} (h : ¬ fdX xs cs i = 0) : fdT xs cs i = th0 := by
  unfold fdX at h
  split at h
  · split at h
    · exact absurd rfl h
    · rename_i hb
      simp [fdT, hb]
  · rename_i hb
    simp [fdT, fdB, hb]
theorem ob_no {i : Int} (h : ¬ fdX xs cs i = 0) : obT xs cs i = th0 ∧ obX xs cs i = fdX xs cs i := by
  have e : obX xs cs i = fdX xs cs i := by simp [obX, h]
  exact ⟨by simp [obT, e, h], e⟩
theorem ob_gap {i : Int} (h : fdX xs cs i = 0) (hc : (fdT xs cs i).C = 0) : obT xs cs i = th0 ∧ obX xs cs i = 5 := by
  have e : obX xs cs i = 5 := by simp [obX, h, hc]
  exact ⟨by simp [obT, e], e⟩
theorem ob_yes {i : Int} (h : fdX xs cs i = 0) (hc : ¬ (fdT xs cs i).C = 0) : obT xs cs i = fdT xs cs i ∧ obX xs cs i = 0 := by
  have e : obX xs cs i = 0 := by simp [obX, h, hc]
  exact ⟨by simp [obT, e], e⟩

set_option maxHeartbeats 1000000 in
theorem object_any (h : St w p tp g xs cs) (i : Int) (h1 : i ≤ 9223372036854775807) :
    Calls Try.prog 35 #[stV p tp, .int .i64 i] w fun e w' => e = .returned (.tuple #[(obT xs cs i).v, .int .i64 (obX xs cs i)]) ∧ Grow w w' := by
  have H := hide h
  clear h
  by_cases hx : fdX xs cs i = 0
  rotate_left
  · have HE := hide (ob_no hx)
    obtain ⟨X, hX⟩ : ∃ X, fdX xs cs i = X := ⟨_, rfl⟩
    have HT : Hid (fdT xs cs i = ⟨0, 0, 0, false, false, false, 0, 0, 0⟩) := hide (fd_th0 hx)
    rw [hX] at hx HE
    have HX := hide hX
    have hx' : (X != 0) = true := by simpa using hx
    clear hX
    obtain ⟨hs, hr, cc, fs, fr, n_sr⟩ := boxes2 w 28 [.pointer p, .pointer tp] 71 [.int .i64 0, .int .i64 0, .int .i64 0, .bool false, .bool false, .bool false, .int .i64 0, .int .i64 0, .int .i64 0]
    go_enter Try.func35, Try.ntmps35
    go_wp2_with fail
    generalize (w.alloc (.cells #[.pointer p, .pointer tp] 28)).alloc (.cells #[.int .i64 0, .int .i64 0, .int .i64 0, .bool false, .bool false, .bool false, .int .i64 0, .int .i64 0, .int .i64 0] 71) = w3 at *
    generalize w.heap.size + 1 = r at *
    generalize w.heap.size = s at *
    refine (find_is (H.out.grow cc) h1 HT.out HX.out).mono ?_
    rintro e w4 ⟨rfl, c_w4⟩
    replace hs := hs.chg c_w4 id
    replace hr := hr.chg c_w4 id
    replace cc := cc.step c_w4 (fun _ _ h => h.elim)
    clear c_w4 
    have ht := Blk.new w4 71 [.int .i64 0, .int .i64 0, .int .i64 0, .bool false, .bool false, .bool false, .int .i64 0, .int .i64 0, .int .i64 0]
    replace hs := hs.alloc (.cells [.int .i64 0, .int .i64 0, .int .i64 0, .bool false, .bool false, .bool false, .int .i64 0, .int .i64 0, .int .i64 0].toArray 71)
    replace hr := hr.alloc (.cells [.int .i64 0, .int .i64 0, .int .i64 0, .bool false, .bool false, .bool false, .int .i64 0, .int .i64 0, .int .i64 0].toArray 71)
    replace cc := cc.alloc (.cells [.int .i64 0, .int .i64 0, .int .i64 0, .bool false, .bool false, .bool false, .int .i64 0, .int .i64 0, .int .i64 0].toArray 71)
    obtain ⟨x0, x1, x2, x3, x4, x5, x6, x7, x8⟩ := ht.cell9
    clear x0 x1 x2 x3 x4 x5 x6 x7 x8
    obtain ⟨r0, r1, r2, r3, r4, r5, r6, r7, r8⟩ := hr.cell9
    obtain ⟨k0, k1, k2, k3, k4, k5, k6, k7, k8⟩ := hr.frozen9
    go_wp2
    clear r0 r1 r2 r3 r4 r5 r6 r7 r8 k0 k1 k2 k3 k4 k5 k6 k7 k8
    have hr' : Blk ((((((((((w4.alloc (.cells #[.int .i64 0, .int .i64 0, .int .i64 0, .bool false, .bool false, .bool false, .int .i64 0, .int .i64 0, .int .i64 0] 71)).setCell ⟨r, 0, none⟩ (.int .i64 0)).setCell ⟨r, 1, none⟩ (.int .i64 0)).setCell ⟨r, 2, none⟩ (.int .i64 0)).setCell ⟨r, 3, none⟩ (.bool false)).setCell ⟨r, 4, none⟩ (.bool false)).setCell ⟨r, 5, none⟩ (.bool false)).setCell ⟨r, 6, none⟩ (.int .i64 0)).setCell ⟨r, 7, none⟩ (.int .i64 0)).setCell ⟨r, 8, none⟩ (.int .i64 0)) r 71 [.int .i64 0, .int .i64 0, .int .i64 0, .bool false, .bool false, .bool false, .int .i64 0, .int .i64 0, .int .i64 0] := hr.put9 (.int .i64 0) (.int .i64 0) (.int .i64 0) (.bool false) (.bool false) (.bool false) (.int .i64 0) (.int .i64 0) (.int .i64 0)
    have cc' := fr.put9 cc (.int .i64 0) (.int .i64 0) (.int .i64 0) (.bool false) (.bool false) (.bool false) (.int .i64 0) (.int .i64 0) (.int .i64 0)
    change Grow _ ((((((((((w4.alloc (.cells #[.int .i64 0, .int .i64 0, .int .i64 0, .bool false, .bool false, .bool false, .int .i64 0, .int .i64 0, .int .i64 0] 71)).setCell ⟨r, 0, none⟩ (.int .i64 0)).setCell ⟨r, 1, none⟩ (.int .i64 0)).setCell ⟨r, 2, none⟩ (.int .i64 0)).setCell ⟨r, 3, none⟩ (.bool false)).setCell ⟨r, 4, none⟩ (.bool false)).setCell ⟨r, 5, none⟩ (.bool false)).setCell ⟨r, 6, none⟩ (.int .i64 0)).setCell ⟨r, 7, none⟩ (.int .i64 0)).setCell ⟨r, 8, none⟩ (.int .i64 0)) at cc'
    clear hr cc
    generalize ((((((((((w4.alloc (.cells #[.int .i64 0, .int .i64 0, .int .i64 0, .bool false, .bool false, .bool false, .int .i64 0, .int .i64 0, .int .i64 0] 71)).setCell ⟨r, 0, none⟩ (.int .i64 0)).setCell ⟨r, 1, none⟩ (.int .i64 0)).setCell ⟨r, 2, none⟩ (.int .i64 0)).setCell ⟨r, 3, none⟩ (.bool false)).setCell ⟨r, 4, none⟩ (.bool false)).setCell ⟨r, 5, none⟩ (.bool false)).setCell ⟨r, 6, none⟩ (.int .i64 0)).setCell ⟨r, 7, none⟩ (.int .i64 0)).setCell ⟨r, 8, none⟩ (.int .i64 0)) = wz at *
    have hr := hr'
    have cc := cc'
    clear hr' cc'
    obtain ⟨r0, r1, r2, r3, r4, r5, r6, r7, r8⟩ := hr.cell9
    refine bodyPost_ret (v := .tuple #[(⟨0, 0, 0, false, false, false, 0, 0, 0⟩ : Th).v, .int .i64 X]) (by simp [results, Try.results35, go_sem, r0, r1, r2, r3, r4, r5, r6, r7, r8]) rfl ?_
    exact ⟨ret_any (by rw [HE.out.1, HE.out.2] <;> rfl), cc⟩
  obtain ⟨T, hT⟩ : ∃ T, fdT xs cs i = T := ⟨_, rfl⟩
  have HT := hide hT
  have HX := hide hx
  by_cases hc : T.C = 0
  · have HE := hide (ob_gap hx (by rw [hT]; exact hc))
    have HC := hide (show (T.C != 0) = false by simpa using hc)
    clear hx hc hT
    obtain ⟨C, A, F, m, f, d, W, R, D⟩ := T
    obtain ⟨hs, hr, cc, fs, fr, n_sr⟩ := boxes2 w 28 [.pointer p, .pointer tp] 71 [.int .i64 0, .int .i64 0, .int .i64 0, .bool false, .bool false, .bool false, .int .i64 0, .int .i64 0, .int .i64 0]
    go_enter Try.func35, Try.ntmps35
    go_wp2_with fail
    generalize (w.alloc (.cells #[.pointer p, .pointer tp] 28)).alloc (.cells #[.int .i64 0, .int .i64 0, .int .i64 0, .bool false, .bool false, .bool false, .int .i64 0, .int .i64 0, .int .i64 0] 71) = w3 at *
    generalize w.heap.size + 1 = r at *
    generalize w.heap.size = s at *
    refine (find_is (H.out.grow cc) h1 HT.out HX.out).mono ?_
    rintro e w4 ⟨rfl, c_w4⟩
    replace hs := hs.chg c_w4 id
    replace hr := hr.chg c_w4 id
    replace cc := cc.step c_w4 (fun _ _ h => h.elim)
    clear c_w4 
    have ht := Blk.new w4 71 [.int .i64 C, .int .i64 A, .int .i64 F, .bool m, .bool f, .bool d, .int .i64 W, .int .i64 R, .int .i64 D]
    replace hs := hs.alloc (.cells [.int .i64 C, .int .i64 A, .int .i64 F, .bool m, .bool f, .bool d, .int .i64 W, .int .i64 R, .int .i64 D].toArray 71)
    replace hr := hr.alloc (.cells [.int .i64 C, .int .i64 A, .int .i64 F, .bool m, .bool f, .bool d, .int .i64 W, .int .i64 R, .int .i64 D].toArray 71)
    replace cc := cc.alloc (.cells [.int .i64 C, .int .i64 A, .int .i64 F, .bool m, .bool f, .bool d, .int .i64 W, .int .i64 R, .int .i64 D].toArray 71)
    obtain ⟨x0, x1, x2, x3, x4, x5, x6, x7, x8⟩ := ht.cell9
    go_wp2_with fail
    clear x0 x1 x2 x3 x4 x5 x6 x7 x8
    refine (isobj_is (t := ⟨C, A, F, m, f, d, W, R, D⟩) _ HC.out).mono ?_
    rintro e w6 ⟨rfl, c_w6⟩
    replace hs := hs.chg c_w6 id
    replace hr := hr.chg c_w6 id
    replace ht := ht.chg c_w6 id
    replace cc := cc.step c_w6 (fun _ _ h => h.elim)
    clear c_w6 
    obtain ⟨r0, r1, r2, r3, r4, r5, r6, r7, r8⟩ := hr.cell9
    obtain ⟨k0, k1, k2, k3, k4, k5, k6, k7, k8⟩ := hr.frozen9
    go_wp2
    clear r0 r1 r2 r3 r4 r5 r6 r7 r8 k0 k1 k2 k3 k4 k5 k6 k7 k8
    have hr' : Blk (((((((((w6.setCell ⟨r, 0, none⟩ (.int .i64 0)).setCell ⟨r, 1, none⟩ (.int .i64 0)).setCell ⟨r, 2, none⟩ (.int .i64 0)).setCell ⟨r, 3, none⟩ (.bool false)).setCell ⟨r, 4, none⟩ (.bool false)).setCell ⟨r, 5, none⟩ (.bool false)).setCell ⟨r, 6, none⟩ (.int .i64 0)).setCell ⟨r, 7, none⟩ (.int .i64 0)).setCell ⟨r, 8, none⟩ (.int .i64 0)) r 71 [.int .i64 0, .int .i64 0, .int .i64 0, .bool false, .bool false, .bool false, .int .i64 0, .int .i64 0, .int .i64 0] := hr.put9 (.int .i64 0) (.int .i64 0) (.int .i64 0) (.bool false) (.bool false) (.bool false) (.int .i64 0) (.int .i64 0) (.int .i64 0)
    have cc' := fr.put9 cc (.int .i64 0) (.int .i64 0) (.int .i64 0) (.bool false) (.bool false) (.bool false) (.int .i64 0) (.int .i64 0) (.int .i64 0)
    change Grow _ (((((((((w6.setCell ⟨r, 0, none⟩ (.int .i64 0)).setCell ⟨r, 1, none⟩ (.int .i64 0)).setCell ⟨r, 2, none⟩ (.int .i64 0)).setCell ⟨r, 3, none⟩ (.bool false)).setCell ⟨r, 4, none⟩ (.bool false)).setCell ⟨r, 5, none⟩ (.bool false)).setCell ⟨r, 6, none⟩ (.int .i64 0)).setCell ⟨r, 7, none⟩ (.int .i64 0)).setCell ⟨r, 8, none⟩ (.int .i64 0)) at cc'
    clear hr cc
    generalize (((((((((w6.setCell ⟨r, 0, none⟩ (.int .i64 0)).setCell ⟨r, 1, none⟩ (.int .i64 0)).setCell ⟨r, 2, none⟩ (.int .i64 0)).setCell ⟨r, 3, none⟩ (.bool false)).setCell ⟨r, 4, none⟩ (.bool false)).setCell ⟨r, 5, none⟩ (.bool false)).setCell ⟨r, 6, none⟩ (.int .i64 0)).setCell ⟨r, 7, none⟩ (.int .i64 0)).setCell ⟨r, 8, none⟩ (.int .i64 0)) = wz at *
    have hr := hr'
    have cc := cc'
    clear hr' cc'
    obtain ⟨r0, r1, r2, r3, r4, r5, r6, r7, r8⟩ := hr.cell9
    refine bodyPost_ret (v := .tuple #[(⟨0, 0, 0, false, false, false, 0, 0, 0⟩ : Th).v, .int .i64 5]) (by simp [results, Try.results35, go_sem, r0, r1, r2, r3, r4, r5, r6, r7, r8]) rfl ?_
    exact ⟨ret_any (by rw [HE.out.1, HE.out.2] <;> rfl), cc⟩
  · have HE := hide (ob_yes hx (by rw [hT]; exact hc))
    have HC := hide (show (T.C != 0) = true by simpa using hc)
    rw [hT] at HE
    clear hx hc hT
    obtain ⟨C, A, F, m, f, d, W, R, D⟩ := T
    obtain ⟨hs, hr, cc, fs, fr, n_sr⟩ := boxes2 w 28 [.pointer p, .pointer tp] 71 [.int .i64 0, .int .i64 0, .int .i64 0, .bool false, .bool false, .bool false, .int .i64 0, .int .i64 0, .int .i64 0]
    go_enter Try.func35, Try.ntmps35
    go_wp2_with fail
    generalize (w.alloc (.cells #[.pointer p, .pointer tp] 28)).alloc (.cells #[.int .i64 0, .int .i64 0, .int .i64 0, .bool false, .bool false, .bool false, .int .i64 0, .int .i64 0, .int .i64 0] 71) = w3 at *
    generalize w.heap.size + 1 = r at *
    generalize w.heap.size = s at *
    refine (find_is (H.out.grow cc) h1 HT.out HX.out).mono ?_
    rintro e w4 ⟨rfl, c_w4⟩
    replace hs := hs.chg c_w4 id
    replace hr := hr.chg c_w4 id
    replace cc := cc.step c_w4 (fun _ _ h => h.elim)
    clear c_w4 
    have ht := Blk.new w4 71 [.int .i64 C, .int .i64 A, .int .i64 F, .bool m, .bool f, .bool d, .int .i64 W, .int .i64 R, .int .i64 D]
    replace hs := hs.alloc (.cells [.int .i64 C, .int .i64 A, .int .i64 F, .bool m, .bool f, .bool d, .int .i64 W, .int .i64 R, .int .i64 D].toArray 71)
    replace hr := hr.alloc (.cells [.int .i64 C, .int .i64 A, .int .i64 F, .bool m, .bool f, .bool d, .int .i64 W, .int .i64 R, .int .i64 D].toArray 71)
    replace cc := cc.alloc (.cells [.int .i64 C, .int .i64 A, .int .i64 F, .bool m, .bool f, .bool d, .int .i64 W, .int .i64 R, .int .i64 D].toArray 71)
    obtain ⟨x0, x1, x2, x3, x4, x5, x6, x7, x8⟩ := ht.cell9
    go_wp2_with fail
    clear x0 x1 x2 x3 x4 x5 x6 x7 x8
    refine (isobj_is (t := ⟨C, A, F, m, f, d, W, R, D⟩) _ HC.out).mono ?_
    rintro e w6 ⟨rfl, c_w6⟩
    replace hs := hs.chg c_w6 id
    replace hr := hr.chg c_w6 id
    replace ht := ht.chg c_w6 id
    replace cc := cc.step c_w6 (fun _ _ h => h.elim)
    clear c_w6 
    obtain ⟨x0, x1, x2, x3, x4, x5, x6, x7, x8⟩ := ht.cell9
    obtain ⟨r0, r1, r2, r3, r4, r5, r6, r7, r8⟩ := hr.cell9
    obtain ⟨k0, k1, k2, k3, k4, k5, k6, k7, k8⟩ := hr.frozen9
    go_wp2
    clear r0 r1 r2 r3 r4 r5 r6 r7 r8 k0 k1 k2 k3 k4 k5 k6 k7 k8
    have hr' : Blk (((((((((w6.setCell ⟨r, 0, none⟩ (.int .i64 C)).setCell ⟨r, 1, none⟩ (.int .i64 A)).setCell ⟨r, 2, none⟩ (.int .i64 F)).setCell ⟨r, 3, none⟩ (.bool m)).setCell ⟨r, 4, none⟩ (.bool f)).setCell ⟨r, 5, none⟩ (.bool d)).setCell ⟨r, 6, none⟩ (.int .i64 W)).setCell ⟨r, 7, none⟩ (.int .i64 R)).setCell ⟨r, 8, none⟩ (.int .i64 D)) r 71 [.int .i64 C, .int .i64 A, .int .i64 F, .bool m, .bool f, .bool d, .int .i64 W, .int .i64 R, .int .i64 D] := hr.put9 (.int .i64 C) (.int .i64 A) (.int .i64 F) (.bool m) (.bool f) (.bool d) (.int .i64 W) (.int .i64 R) (.int .i64 D)
    have cc' := fr.put9 cc (.int .i64 C) (.int .i64 A) (.int .i64 F) (.bool m) (.bool f) (.bool d) (.int .i64 W) (.int .i64 R) (.int .i64 D)
    change Grow _ (((((((((w6.setCell ⟨r, 0, none⟩ (.int .i64 C)).setCell ⟨r, 1, none⟩ (.int .i64 A)).setCell ⟨r, 2, none⟩ (.int .i64 F)).setCell ⟨r, 3, none⟩ (.bool m)).setCell ⟨r, 4, none⟩ (.bool f)).setCell ⟨r, 5, none⟩ (.bool d)).setCell ⟨r, 6, none⟩ (.int .i64 W)).setCell ⟨r, 7, none⟩ (.int .i64 R)).setCell ⟨r, 8, none⟩ (.int .i64 D)) at cc'
    clear hr cc
    generalize (((((((((w6.setCell ⟨r, 0, none⟩ (.int .i64 C)).setCell ⟨r, 1, none⟩ (.int .i64 A)).setCell ⟨r, 2, none⟩ (.int .i64 F)).setCell ⟨r, 3, none⟩ (.bool m)).setCell ⟨r, 4, none⟩ (.bool f)).setCell ⟨r, 5, none⟩ (.bool d)).setCell ⟨r, 6, none⟩ (.int .i64 W)).setCell ⟨r, 7, none⟩ (.int .i64 R)).setCell ⟨r, 8, none⟩ (.int .i64 D)) = wz at *
    have hr := hr'
    have cc := cc'
    clear hr' cc'
    obtain ⟨r0, r1, r2, r3, r4, r5, r6, r7, r8⟩ := hr.cell9
    refine bodyPost_ret (v := .tuple #[(⟨C, A, F, m, f, d, W, R, D⟩ : Th).v, .int .i64 0]) (by simp [results, Try.results35, go_sem, r0, r1, r2, r3, r4, r5, r6, r7, r8]) rfl ?_
    exact ⟨ret_any (by rw [HE.out.1, HE.out.2] <;> rfl), cc⟩
theorem object_is {i X : Int} {t : Th} (h : St w p tp g xs cs) (h1 : i ≤ 9223372036854775807) (hT : obT xs cs i = t) (hX : obX xs cs i = X) :
    Calls Try.prog 35 #[stV p tp, .int .i64 i] w fun e w' => e = .returned (.tuple #[t.v, .int .i64 X]) ∧ Grow w w' := by
  have h' := object_any h i h1
  rwa [hT, hX] at h'

set_option maxHeartbeats 1000000 in
theorem size_any (h : St w p tp g xs cs) (i : Int) (h1 : i ≤ 9223372036854775807) :
    Calls Try.prog 22 #[stV p tp, .int .i64 i] w fun e w' => e = .returned (.tuple #[.int .i64 (fdT xs cs i).w, .bool ((fdT xs cs i).C != 0), .int .i64 (fdX xs cs i)]) ∧ Grow w w' := by
  have H := hide h
  clear h
  by_cases hx : fdX xs cs i = 0
  rotate_left
  · obtain ⟨X, hX⟩ : ∃ X, fdX xs cs i = X := ⟨_, rfl⟩
    have HT : Hid (fdT xs cs i = ⟨0, 0, 0, false, false, false, 0, 0, 0⟩) := hide (fd_th0 hx)
    rw [hX] at hx
    have HX := hide hX
    have hx' : (X != 0) = true := by simpa using hx
    clear hX
    obtain ⟨hs, cc, fs⟩ := boxes1 w 28 [.pointer p, .pointer tp]
    go_enter Try.func22, Try.ntmps22
    go_wp2_with fail
    generalize w.alloc (.cells #[.pointer p, .pointer tp] 28) = w3 at *
    generalize w.heap.size = s at *
    refine (find_is (H.out.grow cc) h1 HT.out HX.out).mono ?_
    rintro e w4 ⟨rfl, c_w4⟩
    replace hs := hs.chg c_w4 id
    replace cc := cc.step c_w4 (fun _ _ h => h.elim)
    clear c_w4 
    have ht := Blk.new w4 71 [.int .i64 0, .int .i64 0, .int .i64 0, .bool false, .bool false, .bool false, .int .i64 0, .int .i64 0, .int .i64 0]
    replace hs := hs.alloc (.cells [.int .i64 0, .int .i64 0, .int .i64 0, .bool false, .bool false, .bool false, .int .i64 0, .int .i64 0, .int .i64 0].toArray 71)
    replace cc := cc.alloc (.cells [.int .i64 0, .int .i64 0, .int .i64 0, .bool false, .bool false, .bool false, .int .i64 0, .int .i64 0, .int .i64 0].toArray 71)
    obtain ⟨x0, x1, x2, x3, x4, x5, x6, x7, x8⟩ := ht.cell9
    go_wp2_with fail
    go_wp2
    go_returns
    exact ⟨ret_any (by rw [HT.out, HX.out] <;> rfl), cc⟩
  obtain ⟨T, hT⟩ : ∃ T, fdT xs cs i = T := ⟨_, rfl⟩
  have HT := hide hT
  have HX := hide hx
  clear hx hT
  obtain ⟨C, A, F, m, f, d, W, R, D⟩ := T
  obtain ⟨hs, cc, fs⟩ := boxes1 w 28 [.pointer p, .pointer tp]
  go_enter Try.func22, Try.ntmps22
  go_wp2_with fail
  generalize w.alloc (.cells #[.pointer p, .pointer tp] 28) = w3 at *
  generalize w.heap.size = s at *
  refine (find_is (H.out.grow cc) h1 HT.out HX.out).mono ?_
  rintro e w4 ⟨rfl, c_w4⟩
  replace hs := hs.chg c_w4 id
  replace cc := cc.step c_w4 (fun _ _ h => h.elim)
  clear c_w4 
  have ht := Blk.new w4 71 [.int .i64 C, .int .i64 A, .int .i64 F, .bool m, .bool f, .bool d, .int .i64 W, .int .i64 R, .int .i64 D]
  replace hs := hs.alloc (.cells [.int .i64 C, .int .i64 A, .int .i64 F, .bool m, .bool f, .bool d, .int .i64 W, .int .i64 R, .int .i64 D].toArray 71)
  replace cc := cc.alloc (.cells [.int .i64 C, .int .i64 A, .int .i64 F, .bool m, .bool f, .bool d, .int .i64 W, .int .i64 R, .int .i64 D].toArray 71)
  obtain ⟨x0, x1, x2, x3, x4, x5, x6, x7, x8⟩ := ht.cell9
  go_wp2_with fail
  refine wp_region_grow (by kernel_rfl) (by kernel_rfl) ?_
  repeat (
    with_reducible refine wpQuiet_step ?_
    intro K hK
    first
      | ((with_reducible refine quiet_offT rfl ?_ (hK _ ?_)); focus (refine ⟨_, rfl, ?_⟩; with_reducible rfl))
      | ((with_reducible refine quiet_offF rfl ?_ (hK _ ?_)); focus (refine ⟨_, rfl, ?_⟩; with_reducible rfl))
      | ((with_reducible refine quiet_offN rfl ?_ (hK _ ?_)); focus (exact rfl))
      | ((first | with_reducible refine quiet_free rfl ?_ | ((with_reducible refine quiet_on rfl ?_ ?_); focus (refine ⟨_, rfl, ?_⟩; with_reducible rfl)))
         apply Exists.intro
         refine ⟨fun Wq hW => ?_, hK _ ?_⟩
         focus (have q0 := Grow.cell hW x0; have q1 := Grow.cell hW x1; have q2 := Grow.cell hW x2; have q3 := Grow.cell hW x3; have q4 := Grow.cell hW x4; have q5 := Grow.cell hW x5; have q6 := Grow.cell hW x6; have q7 := Grow.cell hW x7; have q8 := Grow.cell hW x8; go_simp; first | done | with_reducible rfl | (go_at_call 41; (first | with_reducible exact grown_call hW (isobj_at C A F m f d W R D _) | with_reducible exact grown_same hW (isobj_at C A F m f d W R D _)))))
    clear hK K
    simp only [Act.put, List.setIfInBounds_toArray, List.set_cons_zero, List.set_cons_succ])
  with_reducible refine wpQuiet_nil ?_
  intro w5 c5
  replace cc := cc.trans c5
  go_wp2
  go_returns
  exact ⟨ret_any (by rw [HT.out, HX.out] <;> rfl), cc⟩
theorem size_is {i W X : Int} {b : Bool} (h : St w p tp g xs cs) (h1 : i ≤ 9223372036854775807) (hW : (fdT xs cs i).w = W) (hb : ((fdT xs cs i).C != 0) = b) (hX : fdX xs cs i = X) :
    Calls Try.prog 22 #[stV p tp, .int .i64 i] w fun e w' => e = .returned (.tuple #[.int .i64 W, .bool b, .int .i64 X]) ∧ Grow w w' := by
  have h' := size_any h i h1
  rwa [hW, hb, hX] at h'
set_option maxHeartbeats 1000000 in
theorem shape_any (h : St w p tp g xs cs) (i : Int) (h1 : i ≤ 9223372036854775807) :
    Calls Try.prog 13 #[stV p tp, .int .i64 i] w fun e w' => e = .returned (.tuple #[.int .i64 (obT xs cs i).r, .int .i64 (obT xs cs i).n, .int .i64 (obX xs cs i)]) ∧ Grow w w' := by
  have H := hide h
  clear h
  obtain ⟨X, hX⟩ : ∃ X, obX xs cs i = X := ⟨_, rfl⟩
  obtain ⟨T, hT⟩ : ∃ T, obT xs cs i = T := ⟨_, rfl⟩
  have HT := hide hT
  have HX := hide hX
  clear hX hT
  obtain ⟨C, A, F, m, f, d, W, R, D⟩ := T
  obtain ⟨hs, cc, fs⟩ := boxes1 w 28 [.pointer p, .pointer tp]
  go_enter Try.func13, Try.ntmps13
  go_wp2_with fail
  generalize w.alloc (.cells #[.pointer p, .pointer tp] 28) = w3 at *
  generalize w.heap.size = s at *
  refine (object_is (H.out.grow cc) h1 HT.out HX.out).mono ?_
  rintro e w4 ⟨rfl, c_w4⟩
  replace hs := hs.chg c_w4 id
  replace cc := cc.step c_w4 (fun _ _ h => h.elim)
  clear c_w4 
  have ht := Blk.new w4 71 [.int .i64 C, .int .i64 A, .int .i64 F, .bool m, .bool f, .bool d, .int .i64 W, .int .i64 R, .int .i64 D]
  replace hs := hs.alloc (.cells [.int .i64 C, .int .i64 A, .int .i64 F, .bool m, .bool f, .bool d, .int .i64 W, .int .i64 R, .int .i64 D].toArray 71)
  replace cc := cc.alloc (.cells [.int .i64 C, .int .i64 A, .int .i64 F, .bool m, .bool f, .bool d, .int .i64 W, .int .i64 R, .int .i64 D].toArray 71)
  obtain ⟨x0, x1, x2, x3, x4, x5, x6, x7, x8⟩ := ht.cell9
  go_wp2_with fail
  refine wp_region_grow (by kernel_rfl) (by kernel_rfl) ?_
  repeat (
    with_reducible refine wpQuiet_step ?_
    intro K hK
    first
      | ((with_reducible refine quiet_offT rfl ?_ (hK _ ?_)); focus (refine ⟨_, rfl, ?_⟩; with_reducible rfl))
      | ((with_reducible refine quiet_offF rfl ?_ (hK _ ?_)); focus (refine ⟨_, rfl, ?_⟩; with_reducible rfl))
      | ((with_reducible refine quiet_offN rfl ?_ (hK _ ?_)); focus (exact rfl))
      | ((first | with_reducible refine quiet_free rfl ?_ | ((with_reducible refine quiet_on rfl ?_ ?_); focus (refine ⟨_, rfl, ?_⟩; with_reducible rfl)))
         apply Exists.intro
         refine ⟨fun Wq hW => ?_, hK _ ?_⟩
         focus (have q0 := Grow.cell hW x0; have q1 := Grow.cell hW x1; have q2 := Grow.cell hW x2; have q3 := Grow.cell hW x3; have q4 := Grow.cell hW x4; have q5 := Grow.cell hW x5; have q6 := Grow.cell hW x6; have q7 := Grow.cell hW x7; have q8 := Grow.cell hW x8; go_simp; first | done | with_reducible rfl))
    clear hK K
    simp only [Act.put, List.setIfInBounds_toArray, List.set_cons_zero, List.set_cons_succ])
  with_reducible refine wpQuiet_nil ?_
  intro w5 c5
  replace cc := cc.trans c5
  go_wp2
  go_returns
  exact ⟨ret_any (by rw [HT.out, HX.out] <;> rfl), cc⟩
theorem oshape_is {i R D X : Int} (h : St w p tp g xs cs) (h1 : i ≤ 9223372036854775807) (hR : (obT xs cs i).r = R) (hD : (obT xs cs i).n = D) (hX : obX xs cs i = X) :
    Calls Try.prog 13 #[stV p tp, .int .i64 i] w fun e w' => e = .returned (.tuple #[.int .i64 R, .int .i64 D, .int .i64 X]) ∧ Grow w w' := by
  have h' := shape_any h i h1
  rwa [hR, hD, hX] at h'
set_option maxHeartbeats 1000000 in
theorem head_any (h : St w p tp g xs cs) (i : Int) (h1 : i ≤ 9223372036854775807) :
    Calls Try.prog 14 #[stV p tp, .int .i64 i] w fun e w' => e = .returned (.tuple #[hdV (obT xs cs i).C (obT xs cs i).A (obT xs cs i).F (obT xs cs i).m (obT xs cs i).f (obT xs cs i).d, .int .i64 (obX xs cs i)]) ∧ Grow w w' := by
  have H := hide h
  clear h
  obtain ⟨X, hX⟩ : ∃ X, obX xs cs i = X := ⟨_, rfl⟩
  obtain ⟨T, hT⟩ : ∃ T, obT xs cs i = T := ⟨_, rfl⟩
  have HT := hide hT
  have HX := hide hX
  clear hX hT
  obtain ⟨C, A, F, m, f, d, W, R, D⟩ := T
  obtain ⟨hs, hr, cc, fs, fr, n_sr⟩ := boxes2 w 28 [.pointer p, .pointer tp] 45 [.int .i64 0, .int .i64 0, .int .i64 0, .bool false, .bool false, .bool false]
  go_enter Try.func14, Try.ntmps14
  go_wp2_with fail
  generalize (w.alloc (.cells #[.pointer p, .pointer tp] 28)).alloc (.cells #[.int .i64 0, .int .i64 0, .int .i64 0, .bool false, .bool false, .bool false] 45) = w3 at *
  generalize w.heap.size + 1 = r at *
  generalize w.heap.size = s at *
  refine (object_is (H.out.grow cc) h1 HT.out HX.out).mono ?_
  rintro e w4 ⟨rfl, c_w4⟩
  replace hs := hs.chg c_w4 id
  replace hr := hr.chg c_w4 id
  replace cc := cc.step c_w4 (fun _ _ h => h.elim)
  clear c_w4 
  have ht := Blk.new w4 71 [.int .i64 C, .int .i64 A, .int .i64 F, .bool m, .bool f, .bool d, .int .i64 W, .int .i64 R, .int .i64 D]
  replace hs := hs.alloc (.cells [.int .i64 C, .int .i64 A, .int .i64 F, .bool m, .bool f, .bool d, .int .i64 W, .int .i64 R, .int .i64 D].toArray 71)
  replace hr := hr.alloc (.cells [.int .i64 C, .int .i64 A, .int .i64 F, .bool m, .bool f, .bool d, .int .i64 W, .int .i64 R, .int .i64 D].toArray 71)
  replace cc := cc.alloc (.cells [.int .i64 C, .int .i64 A, .int .i64 F, .bool m, .bool f, .bool d, .int .i64 W, .int .i64 R, .int .i64 D].toArray 71)
  obtain ⟨x0, x1, x2, x3, x4, x5, x6, x7, x8⟩ := ht.cell9
  obtain ⟨r0, r1, r2, r3, r4, r5⟩ := hr.cell6
  obtain ⟨k0, k1, k2, k3, k4, k5⟩ := hr.frozen6
  go_wp2
  clear r0 r1 r2 r3 r4 r5 k0 k1 k2 k3 k4 k5 x0 x1 x2 x3 x4 x5 x6 x7 x8
  have hr' : Blk (((((((w4.alloc (.cells #[.int .i64 C, .int .i64 A, .int .i64 F, .bool m, .bool f, .bool d, .int .i64 W, .int .i64 R, .int .i64 D] 71)).setCell ⟨r, 0, none⟩ (.int .i64 C)).setCell ⟨r, 1, none⟩ (.int .i64 A)).setCell ⟨r, 2, none⟩ (.int .i64 F)).setCell ⟨r, 3, none⟩ (.bool m)).setCell ⟨r, 4, none⟩ (.bool f)).setCell ⟨r, 5, none⟩ (.bool d)) r 45 [.int .i64 C, .int .i64 A, .int .i64 F, .bool m, .bool f, .bool d] := hr.put6 (.int .i64 C) (.int .i64 A) (.int .i64 F) (.bool m) (.bool f) (.bool d)
  have cc' := fr.put6 cc (.int .i64 C) (.int .i64 A) (.int .i64 F) (.bool m) (.bool f) (.bool d)
  change Grow _ (((((((w4.alloc (.cells #[.int .i64 C, .int .i64 A, .int .i64 F, .bool m, .bool f, .bool d, .int .i64 W, .int .i64 R, .int .i64 D] 71)).setCell ⟨r, 0, none⟩ (.int .i64 C)).setCell ⟨r, 1, none⟩ (.int .i64 A)).setCell ⟨r, 2, none⟩ (.int .i64 F)).setCell ⟨r, 3, none⟩ (.bool m)).setCell ⟨r, 4, none⟩ (.bool f)).setCell ⟨r, 5, none⟩ (.bool d)) at cc'
  clear hr cc
  generalize (((((((w4.alloc (.cells #[.int .i64 C, .int .i64 A, .int .i64 F, .bool m, .bool f, .bool d, .int .i64 W, .int .i64 R, .int .i64 D] 71)).setCell ⟨r, 0, none⟩ (.int .i64 C)).setCell ⟨r, 1, none⟩ (.int .i64 A)).setCell ⟨r, 2, none⟩ (.int .i64 F)).setCell ⟨r, 3, none⟩ (.bool m)).setCell ⟨r, 4, none⟩ (.bool f)).setCell ⟨r, 5, none⟩ (.bool d)) = wz at *
  have hr := hr'
  have cc := cc'
  clear hr' cc'
  obtain ⟨r0, r1, r2, r3, r4, r5⟩ := hr.cell6
  refine bodyPost_ret (v := .tuple #[hdV C A F m f d, .int .i64 X]) (by simp [results, Try.results14, go_sem, r0, r1, r2, r3, r4, r5]) rfl ?_
  exact ⟨ret_any (by rw [HT.out, HX.out] <;> rfl), cc⟩
theorem head_is {i C A F X : Int} {m f d : Bool} (h : St w p tp g xs cs) (h1 : i ≤ 9223372036854775807) (hT : hdV (obT xs cs i).C (obT xs cs i).A (obT xs cs i).F (obT xs cs i).m (obT xs cs i).f (obT xs cs i).d = hdV C A F m f d) (hX : obX xs cs i = X) :
    Calls Try.prog 14 #[stV p tp, .int .i64 i] w fun e w' => e = .returned (.tuple #[hdV C A F m f d, .int .i64 X]) ∧ Grow w w' := by
  have h' := head_any h i h1
  rwa [hT, hX] at h'
end
end Go.Proofs.Ytgknndbahdjghaa.L6

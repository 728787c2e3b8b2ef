/- What find and object answer; they change nothing but make new memory. Conditions: the address is a number of 64 bits. -/
import Derived.Test.YtgknndbahdjghaaL6Find
namespace Go.Proofs.Ytgknndbahdjghaa.L6
open Go.ChangeShapes Go.WideShapes Go.ChangeAt Go.RowKit
open Go.Proofs.Ytgknndbahdjghaa.L1 (Sl Ar ptr exB)
open Go.Proofs.Ytgknndbahdjghaa.L4 (hdV riB wd wdV wdX ofB ofC ofA ofF ofM ofN ofD ofV ofX set6)
open Go.Proofs.Ytgknndbahdjghaa.L5 (Cl clV rtB Tb clAt shX shR shD woV c0 IsCls newX)
set_option linter.unusedVariables false

section
variable {w w' : World} {p tp : Option Addr} {g : Nat} {xs ys : List Int} {cs : List Cl}
theorem of_is {n X C A F : Int} {m f d : Bool} (w : World) (hV : ofV n = hdV C A F m f d) (hX : ofX n = X) :
    Calls Try.prog 52 #[.int .i64 n] w fun e w' => e = .returned (.tuple #[hdV C A F m f d, .int .i64 X]) ∧ Grow w w' := by
  have h' := L4.of_any n w
  rwa [hV, hX] at h'
theorem fd_no1 {i : Int} (h : oxB xs.length i 1 = false) : fdT xs cs i = th0 ∧ fdX xs cs i = 2 := by simp [fdT, fdX, fdB, h]
theorem fd_no2 {i : Int} (h : oxB xs.length i 1 = true) (h2 : ofB (gw xs i) = false) : fdT xs cs i = th0 ∧ fdX xs cs i = 12 := by simp [fdT, fdX, fdB, h, h2]
theorem fd_no3 {i : Int} (h : oxB xs.length i 1 = true) (h3 : meB xs cs i (ofC (gw xs i)) (ofM (gw xs i)) = false) : fdT xs cs i = th0 ∧ fdX xs cs i = 12 := by simp [fdT, fdX, fdB, h, h3]
theorem fd_no4 {i : Int} (h : oxB xs.length i 1 = true) (h4 : oxB xs.length i (woT xs cs i).w = false) : fdT xs cs i = th0 ∧ fdX xs cs i = 12 := by simp [fdT, fdX, fdB, h, h4]
theorem fd_yes {i : Int} (h : oxB xs.length i 1 = true) (h2 : ofB (gw xs i) = true) (h3 : meB xs cs i (ofC (gw xs i)) (ofM (gw xs i)) = true) (h4 : oxB xs.length i (woT xs cs i).w = true) : fdT xs cs i = woT xs cs i ∧ fdX xs cs i = 0 := by simp [fdT, fdX, fdB, h, h2, h3, h4]

set_option maxHeartbeats 2000000 in
theorem find_any (h : St w p tp g xs cs) (i : Int) (h1 : i ≤ 9223372036854775807) :
    Calls Try.prog 40 #[stV p tp, .int .i64 i] w fun e w' => e = .returned (.tuple #[(fdT xs cs i).v, .int .i64 (fdX xs cs i)]) ∧ Grow w w' := by
  have hn := h.n
  have H := hide h
  obtain ⟨hs, hr, cc, fs, fr, n_sr⟩ := boxes2 w 28 [.pointer p, .pointer tp] 71 [.int .i64 0, .int .i64 0, .int .i64 0, .bool false, .bool false, .bool false, .int .i64 0, .int .i64 0, .int .i64 0]
  clear h
  cases hx : oxB xs.length i 1
  · have HE := hide (fd_no1 (cs := cs) hx)
    have HX := hide hx
    clear hx
    go_enter Try.func40, Try.ntmps40
    go_wp2_with fail
    generalize (w.alloc (.cells #[.pointer p, .pointer tp] 28)).alloc (.cells #[.int .i64 0, .int .i64 0, .int .i64 0, .bool false, .bool false, .bool false, .int .i64 0, .int .i64 0, .int .i64 0] 71) = w3 at *
    generalize w.heap.size + 1 = r at *
    generalize w.heap.size = s at *
    refine (exists_is (H.out.grow cc) h1 HX.out).mono ?_
    rintro e w4 ⟨rfl, c_w4⟩
    replace hs := hs.chg c_w4 id
    replace hr := hr.chg c_w4 id
    replace cc := cc.step c_w4 (fun _ _ h => h.elim)
    clear c_w4 
    obtain ⟨r0, r1, r2, r3, r4, r5, r6, r7, r8⟩ := hr.cell9
    obtain ⟨k0, k1, k2, k3, k4, k5, k6, k7, k8⟩ := hr.frozen9
    go_wp2
    clear r0 r1 r2 r3 r4 r5 r6 r7 r8 k0 k1 k2 k3 k4 k5 k6 k7 k8
    have hr' : Blk (((((((((w4.setCell ⟨r, 0, none⟩ (.int .i64 0)).setCell ⟨r, 1, none⟩ (.int .i64 0)).setCell ⟨r, 2, none⟩ (.int .i64 0)).setCell ⟨r, 3, none⟩ (.bool false)).setCell ⟨r, 4, none⟩ (.bool false)).setCell ⟨r, 5, none⟩ (.bool false)).setCell ⟨r, 6, none⟩ (.int .i64 0)).setCell ⟨r, 7, none⟩ (.int .i64 0)).setCell ⟨r, 8, none⟩ (.int .i64 0)) r 71 [.int .i64 0, .int .i64 0, .int .i64 0, .bool false, .bool false, .bool false, .int .i64 0, .int .i64 0, .int .i64 0] := hr.put9 (.int .i64 0) (.int .i64 0) (.int .i64 0) (.bool false) (.bool false) (.bool false) (.int .i64 0) (.int .i64 0) (.int .i64 0)
    have cc' := fr.put9 cc (.int .i64 0) (.int .i64 0) (.int .i64 0) (.bool false) (.bool false) (.bool false) (.int .i64 0) (.int .i64 0) (.int .i64 0)
    change Grow _ (((((((((w4.setCell ⟨r, 0, none⟩ (.int .i64 0)).setCell ⟨r, 1, none⟩ (.int .i64 0)).setCell ⟨r, 2, none⟩ (.int .i64 0)).setCell ⟨r, 3, none⟩ (.bool false)).setCell ⟨r, 4, none⟩ (.bool false)).setCell ⟨r, 5, none⟩ (.bool false)).setCell ⟨r, 6, none⟩ (.int .i64 0)).setCell ⟨r, 7, none⟩ (.int .i64 0)).setCell ⟨r, 8, none⟩ (.int .i64 0)) at cc'
    clear hr cc
    generalize (((((((((w4.setCell ⟨r, 0, none⟩ (.int .i64 0)).setCell ⟨r, 1, none⟩ (.int .i64 0)).setCell ⟨r, 2, none⟩ (.int .i64 0)).setCell ⟨r, 3, none⟩ (.bool false)).setCell ⟨r, 4, none⟩ (.bool false)).setCell ⟨r, 5, none⟩ (.bool false)).setCell ⟨r, 6, none⟩ (.int .i64 0)).setCell ⟨r, 7, none⟩ (.int .i64 0)).setCell ⟨r, 8, none⟩ (.int .i64 0)) = wz at *
    have hr := hr'
    have cc := cc'
    clear hr' cc'
    obtain ⟨r0, r1, r2, r3, r4, r5, r6, r7, r8⟩ := hr.cell9
    refine bodyPost_ret (v := .tuple #[(⟨0, 0, 0, false, false, false, 0, 0, 0⟩ : Th).v, .int .i64 2]) (by simp [results, Try.results40, go_sem, r0, r1, r2, r3, r4, r5, r6, r7, r8]) rfl ?_
    exact ⟨ret_any (by rw [HE.out.1, HE.out.2] <;> rfl), cc⟩
  have hi : 1 ≤ i ∧ i < xs.length := by simp [oxB] at hx; omega
  have HX := hide hx
  have eL : ldB xs i = true := by simp [ldB]; omega
  have HV := hide (show ldV xs i = gw xs i ∧ ldX xs i = 0 by simp [ldV, ldX, eL])
  clear eL
  obtain ⟨W, hW⟩ : ∃ W, gw xs i = W := ⟨_, rfl⟩
  have HW := hide hW
  rw [hW] at HV
  cases ho : ofB W
  · have HE := hide (fd_no2 (cs := cs) hx (by rw [hW]; exact ho))
    have HO := hide (L4.of_no ho)
    clear hx ho hW
    go_enter Try.func40, Try.ntmps40
    go_wp2_with fail
    generalize (w.alloc (.cells #[.pointer p, .pointer tp] 28)).alloc (.cells #[.int .i64 0, .int .i64 0, .int .i64 0, .bool false, .bool false, .bool false, .int .i64 0, .int .i64 0, .int .i64 0] 71) = w3 at *
    generalize w.heap.size + 1 = r at *
    generalize w.heap.size = s at *
    refine (exists_is (H.out.grow cc) h1 HX.out).mono ?_
    rintro e w4 ⟨rfl, c_w4⟩
    replace hs := hs.chg c_w4 id
    replace hr := hr.chg c_w4 id
    replace cc := cc.step c_w4 (fun _ _ h => h.elim)
    clear c_w4 
    obtain ⟨s0, s1⟩ := hs.cell2
    go_wp2_with fail
    refine (load_is (H.out.grow cc).ar hn h1 HV.out.1 HV.out.2).mono ?_
    rintro e w' ⟨rfl, rfl⟩
    go_wp2_with fail
    refine (of_is _ HO.out.2 HO.out.1).mono ?_
    rintro e w5 ⟨rfl, c_w5⟩
    replace hs := hs.chg c_w5 id
    replace hr := hr.chg c_w5 id
    replace cc := cc.step c_w5 (fun _ _ h => h.elim)
    clear c_w5 
    have hh := Blk.new w5 45 [.int .i64 0, .int .i64 0, .int .i64 0, .bool false, .bool false, .bool false]
    replace hr := hr.alloc (.cells [.int .i64 0, .int .i64 0, .int .i64 0, .bool false, .bool false, .bool false].toArray 45)
    replace cc := cc.alloc (.cells [.int .i64 0, .int .i64 0, .int .i64 0, .bool false, .bool false, .bool false].toArray 45)
    clear s0 s1
    obtain ⟨r0, r1, r2, r3, r4, r5, r6, r7, r8⟩ := hr.cell9
    obtain ⟨k0, k1, k2, k3, k4, k5, k6, k7, k8⟩ := hr.frozen9
    go_wp2
    clear r0 r1 r2 r3 r4 r5 r6 r7 r8 k0 k1 k2 k3 k4 k5 k6 k7 k8
    have hr' : Blk ((((((((((w5.alloc (.cells #[.int .i64 0, .int .i64 0, .int .i64 0, .bool false, .bool false, .bool false] 45)).setCell ⟨r, 0, none⟩ (.int .i64 0)).setCell ⟨r, 1, none⟩ (.int .i64 0)).setCell ⟨r, 2, none⟩ (.int .i64 0)).setCell ⟨r, 3, none⟩ (.bool false)).setCell ⟨r, 4, none⟩ (.bool false)).setCell ⟨r, 5, none⟩ (.bool false)).setCell ⟨r, 6, none⟩ (.int .i64 0)).setCell ⟨r, 7, none⟩ (.int .i64 0)).setCell ⟨r, 8, none⟩ (.int .i64 0)) r 71 [.int .i64 0, .int .i64 0, .int .i64 0, .bool false, .bool false, .bool false, .int .i64 0, .int .i64 0, .int .i64 0] := hr.put9 (.int .i64 0) (.int .i64 0) (.int .i64 0) (.bool false) (.bool false) (.bool false) (.int .i64 0) (.int .i64 0) (.int .i64 0)
    have cc' := fr.put9 cc (.int .i64 0) (.int .i64 0) (.int .i64 0) (.bool false) (.bool false) (.bool false) (.int .i64 0) (.int .i64 0) (.int .i64 0)
    change Grow _ ((((((((((w5.alloc (.cells #[.int .i64 0, .int .i64 0, .int .i64 0, .bool false, .bool false, .bool false] 45)).setCell ⟨r, 0, none⟩ (.int .i64 0)).setCell ⟨r, 1, none⟩ (.int .i64 0)).setCell ⟨r, 2, none⟩ (.int .i64 0)).setCell ⟨r, 3, none⟩ (.bool false)).setCell ⟨r, 4, none⟩ (.bool false)).setCell ⟨r, 5, none⟩ (.bool false)).setCell ⟨r, 6, none⟩ (.int .i64 0)).setCell ⟨r, 7, none⟩ (.int .i64 0)).setCell ⟨r, 8, none⟩ (.int .i64 0)) at cc'
    clear hr cc
    generalize ((((((((((w5.alloc (.cells #[.int .i64 0, .int .i64 0, .int .i64 0, .bool false, .bool false, .bool false] 45)).setCell ⟨r, 0, none⟩ (.int .i64 0)).setCell ⟨r, 1, none⟩ (.int .i64 0)).setCell ⟨r, 2, none⟩ (.int .i64 0)).setCell ⟨r, 3, none⟩ (.bool false)).setCell ⟨r, 4, none⟩ (.bool false)).setCell ⟨r, 5, none⟩ (.bool false)).setCell ⟨r, 6, none⟩ (.int .i64 0)).setCell ⟨r, 7, none⟩ (.int .i64 0)).setCell ⟨r, 8, none⟩ (.int .i64 0)) = wz at *
    have hr := hr'
    have cc := cc'
    clear hr' cc'
    obtain ⟨r0, r1, r2, r3, r4, r5, r6, r7, r8⟩ := hr.cell9
    refine bodyPost_ret (v := .tuple #[(⟨0, 0, 0, false, false, false, 0, 0, 0⟩ : Th).v, .int .i64 12]) (by simp [results, Try.results40, go_sem, r0, r1, r2, r3, r4, r5, r6, r7, r8]) rfl ?_
    exact ⟨ret_any (by rw [HE.out.1, HE.out.2] <;> rfl), cc⟩
  have HO := hide (show ofX W = 0 ∧ ofV W = hdV (ofC W) (ofA W) (ofF W) (ofM W) (ofN W) (ofD W) from ⟨(L4.of_yes ho).1, rfl⟩)
  have hwt : woT xs cs i = meT xs cs i (ofC W) (ofA W) (ofF W) (ofM W) (ofN W) (ofD W) := by unfold woT; rw [hW]
  obtain ⟨C, hC⟩ : ∃ C, ofC W = C := ⟨_, rfl⟩
  obtain ⟨A, hA⟩ : ∃ A, ofA W = A := ⟨_, rfl⟩
  obtain ⟨F, hF⟩ : ∃ F, ofF W = F := ⟨_, rfl⟩
  obtain ⟨m, hm⟩ : ∃ m, ofM W = m := ⟨_, rfl⟩
  obtain ⟨f, hf⟩ : ∃ f, ofN W = f := ⟨_, rfl⟩
  obtain ⟨d, hd⟩ : ∃ d, ofD W = d := ⟨_, rfl⟩
  have hcm : ofC (gw xs i) = C ∧ ofM (gw xs i) = m := by rw [hW]; exact ⟨hC, hm⟩
  rw [hC, hA, hF, hm, hf, hd] at HO hwt
  clear hC hA hF hm hf hd
  obtain ⟨T, hT⟩ : ∃ T, meT xs cs i C A F m f d = T := ⟨_, rfl⟩
  rw [hT] at hwt
  have HT := hide hT
  clear hT
  have how : ofB (gw xs i) = true := by rw [hW]; exact ho
  clear ho hW
  cases hb : meB xs cs i C m
  · have HB := hide hb
    have HE := hide (fd_no3 hx (by rw [hcm.1, hcm.2]; exact hb))
    obtain ⟨TC, TA, TF, Tm, Tf, Td, TW, TR, TD⟩ := T
    clear hx hb hwt how hcm
    go_enter Try.func40, Try.ntmps40
    go_wp2_with fail
    generalize (w.alloc (.cells #[.pointer p, .pointer tp] 28)).alloc (.cells #[.int .i64 0, .int .i64 0, .int .i64 0, .bool false, .bool false, .bool false, .int .i64 0, .int .i64 0, .int .i64 0] 71) = w3 at *
    generalize w.heap.size + 1 = r at *
    generalize w.heap.size = s at *
    refine (exists_is (H.out.grow cc) h1 HX.out).mono ?_
    rintro e w4 ⟨rfl, c_w4⟩
    replace hs := hs.chg c_w4 id
    replace hr := hr.chg c_w4 id
    replace cc := cc.step c_w4 (fun _ _ h => h.elim)
    clear c_w4 
    obtain ⟨s0, s1⟩ := hs.cell2
    go_wp2_with fail
    refine (load_is (H.out.grow cc).ar hn h1 HV.out.1 HV.out.2).mono ?_
    rintro e w' ⟨rfl, rfl⟩
    go_wp2_with fail
    clear s0 s1
    refine (of_is _ HO.out.2 HO.out.1).mono ?_
    rintro e w5 ⟨rfl, c_w5⟩
    replace hs := hs.chg c_w5 id
    replace hr := hr.chg c_w5 id
    replace cc := cc.step c_w5 (fun _ _ h => h.elim)
    clear c_w5 
    have hh := Blk.new w5 45 [.int .i64 C, .int .i64 A, .int .i64 F, .bool m, .bool f, .bool d]
    replace hs := hs.alloc (.cells [.int .i64 C, .int .i64 A, .int .i64 F, .bool m, .bool f, .bool d].toArray 45)
    replace hr := hr.alloc (.cells [.int .i64 C, .int .i64 A, .int .i64 F, .bool m, .bool f, .bool d].toArray 45)
    replace cc := cc.alloc (.cells [.int .i64 C, .int .i64 A, .int .i64 F, .bool m, .bool f, .bool d].toArray 45)
    obtain ⟨s0, s1⟩ := hs.cell2
    obtain ⟨b0, b1, b2, b3, b4, b5⟩ := hh.cell6
    go_wp2_with fail
    clear s0 s1 b0 b1 b2 b3 b4 b5
    refine (measure_is (H.out.grow cc) hi.1 hi.2 HT.out HB.out).mono ?_
    rintro e w6 ⟨rfl, c_w6⟩
    replace hs := hs.chg c_w6 id
    replace hr := hr.chg c_w6 id
    replace hh := hh.chg c_w6 id
    replace cc := cc.step c_w6 (fun _ _ h => h.elim)
    clear c_w6 
    have ht := Blk.new w6 71 [.int .i64 TC, .int .i64 TA, .int .i64 TF, .bool Tm, .bool Tf, .bool Td, .int .i64 TW, .int .i64 TR, .int .i64 TD]
    replace hs := hs.alloc (.cells [.int .i64 TC, .int .i64 TA, .int .i64 TF, .bool Tm, .bool Tf, .bool Td, .int .i64 TW, .int .i64 TR, .int .i64 TD].toArray 71)
    replace hr := hr.alloc (.cells [.int .i64 TC, .int .i64 TA, .int .i64 TF, .bool Tm, .bool Tf, .bool Td, .int .i64 TW, .int .i64 TR, .int .i64 TD].toArray 71)
    replace hh := hh.alloc (.cells [.int .i64 TC, .int .i64 TA, .int .i64 TF, .bool Tm, .bool Tf, .bool Td, .int .i64 TW, .int .i64 TR, .int .i64 TD].toArray 71)
    replace cc := cc.alloc (.cells [.int .i64 TC, .int .i64 TA, .int .i64 TF, .bool Tm, .bool Tf, .bool Td, .int .i64 TW, .int .i64 TR, .int .i64 TD].toArray 71)
    obtain ⟨s0, s1⟩ := hs.cell2
    obtain ⟨b0, b1, b2, b3, b4, b5⟩ := hh.cell6
    clear s0 s1 b0 b1 b2 b3 b4 b5
    obtain ⟨r0, r1, r2, r3, r4, r5, r6, r7, r8⟩ := hr.cell9
    obtain ⟨k0, k1, k2, k3, k4, k5, k6, k7, k8⟩ := hr.frozen9
    go_wp2
    clear r0 r1 r2 r3 r4 r5 r6 r7 r8 k0 k1 k2 k3 k4 k5 k6 k7 k8
    have hr' : Blk ((((((((((w6.alloc (.cells #[.int .i64 TC, .int .i64 TA, .int .i64 TF, .bool Tm, .bool Tf, .bool Td, .int .i64 TW, .int .i64 TR, .int .i64 TD] 71)).setCell ⟨r, 0, none⟩ (.int .i64 0)).setCell ⟨r, 1, none⟩ (.int .i64 0)).setCell ⟨r, 2, none⟩ (.int .i64 0)).setCell ⟨r, 3, none⟩ (.bool false)).setCell ⟨r, 4, none⟩ (.bool false)).setCell ⟨r, 5, none⟩ (.bool false)).setCell ⟨r, 6, none⟩ (.int .i64 0)).setCell ⟨r, 7, none⟩ (.int .i64 0)).setCell ⟨r, 8, none⟩ (.int .i64 0)) r 71 [.int .i64 0, .int .i64 0, .int .i64 0, .bool false, .bool false, .bool false, .int .i64 0, .int .i64 0, .int .i64 0] := hr.put9 (.int .i64 0) (.int .i64 0) (.int .i64 0) (.bool false) (.bool false) (.bool false) (.int .i64 0) (.int .i64 0) (.int .i64 0)
    have cc' := fr.put9 cc (.int .i64 0) (.int .i64 0) (.int .i64 0) (.bool false) (.bool false) (.bool false) (.int .i64 0) (.int .i64 0) (.int .i64 0)
    change Grow _ ((((((((((w6.alloc (.cells #[.int .i64 TC, .int .i64 TA, .int .i64 TF, .bool Tm, .bool Tf, .bool Td, .int .i64 TW, .int .i64 TR, .int .i64 TD] 71)).setCell ⟨r, 0, none⟩ (.int .i64 0)).setCell ⟨r, 1, none⟩ (.int .i64 0)).setCell ⟨r, 2, none⟩ (.int .i64 0)).setCell ⟨r, 3, none⟩ (.bool false)).setCell ⟨r, 4, none⟩ (.bool false)).setCell ⟨r, 5, none⟩ (.bool false)).setCell ⟨r, 6, none⟩ (.int .i64 0)).setCell ⟨r, 7, none⟩ (.int .i64 0)).setCell ⟨r, 8, none⟩ (.int .i64 0)) at cc'
    clear hr cc
    generalize ((((((((((w6.alloc (.cells #[.int .i64 TC, .int .i64 TA, .int .i64 TF, .bool Tm, .bool Tf, .bool Td, .int .i64 TW, .int .i64 TR, .int .i64 TD] 71)).setCell ⟨r, 0, none⟩ (.int .i64 0)).setCell ⟨r, 1, none⟩ (.int .i64 0)).setCell ⟨r, 2, none⟩ (.int .i64 0)).setCell ⟨r, 3, none⟩ (.bool false)).setCell ⟨r, 4, none⟩ (.bool false)).setCell ⟨r, 5, none⟩ (.bool false)).setCell ⟨r, 6, none⟩ (.int .i64 0)).setCell ⟨r, 7, none⟩ (.int .i64 0)).setCell ⟨r, 8, none⟩ (.int .i64 0)) = wz at *
    have hr := hr'
    have cc := cc'
    clear hr' cc'
    obtain ⟨r0, r1, r2, r3, r4, r5, r6, r7, r8⟩ := hr.cell9
    refine bodyPost_ret (v := .tuple #[(⟨0, 0, 0, false, false, false, 0, 0, 0⟩ : Th).v, .int .i64 12]) (by simp [results, Try.results40, go_sem, r0, r1, r2, r3, r4, r5, r6, r7, r8]) rfl ?_
    exact ⟨ret_any (by rw [HE.out.1, HE.out.2] <;> rfl), cc⟩
  have HB := hide hb
  cases hy : oxB xs.length i T.w
  · have HE := hide (fd_no4 (cs := cs) hx (by rw [hwt]; exact hy))
    have HY := hide hy
    obtain ⟨TC, TA, TF, Tm, Tf, Td, TW, TR, TD⟩ := T
    clear hx hb hwt how hcm hy
    dsimp only at HY
    go_enter Try.func40, Try.ntmps40
    go_wp2_with fail
    generalize (w.alloc (.cells #[.pointer p, .pointer tp] 28)).alloc (.cells #[.int .i64 0, .int .i64 0, .int .i64 0, .bool false, .bool false, .bool false, .int .i64 0, .int .i64 0, .int .i64 0] 71) = w3 at *
    generalize w.heap.size + 1 = r at *
    generalize w.heap.size = s at *
    refine (exists_is (H.out.grow cc) h1 HX.out).mono ?_
    rintro e w4 ⟨rfl, c_w4⟩
    replace hs := hs.chg c_w4 id
    replace hr := hr.chg c_w4 id
    replace cc := cc.step c_w4 (fun _ _ h => h.elim)
    clear c_w4 
    obtain ⟨s0, s1⟩ := hs.cell2
    go_wp2_with fail
    refine (load_is (H.out.grow cc).ar hn h1 HV.out.1 HV.out.2).mono ?_
    rintro e w' ⟨rfl, rfl⟩
    go_wp2_with fail
    clear s0 s1
    refine (of_is _ HO.out.2 HO.out.1).mono ?_
    rintro e w5 ⟨rfl, c_w5⟩
    replace hs := hs.chg c_w5 id
    replace hr := hr.chg c_w5 id
    replace cc := cc.step c_w5 (fun _ _ h => h.elim)
    clear c_w5 
    have hh := Blk.new w5 45 [.int .i64 C, .int .i64 A, .int .i64 F, .bool m, .bool f, .bool d]
    replace hs := hs.alloc (.cells [.int .i64 C, .int .i64 A, .int .i64 F, .bool m, .bool f, .bool d].toArray 45)
    replace hr := hr.alloc (.cells [.int .i64 C, .int .i64 A, .int .i64 F, .bool m, .bool f, .bool d].toArray 45)
    replace cc := cc.alloc (.cells [.int .i64 C, .int .i64 A, .int .i64 F, .bool m, .bool f, .bool d].toArray 45)
    obtain ⟨s0, s1⟩ := hs.cell2
    obtain ⟨b0, b1, b2, b3, b4, b5⟩ := hh.cell6
    go_wp2_with fail
    clear s0 s1 b0 b1 b2 b3 b4 b5
    refine (measure_is (H.out.grow cc) hi.1 hi.2 HT.out HB.out).mono ?_
    rintro e w6 ⟨rfl, c_w6⟩
    replace hs := hs.chg c_w6 id
    replace hr := hr.chg c_w6 id
    replace hh := hh.chg c_w6 id
    replace cc := cc.step c_w6 (fun _ _ h => h.elim)
    clear c_w6 
    have ht := Blk.new w6 71 [.int .i64 TC, .int .i64 TA, .int .i64 TF, .bool Tm, .bool Tf, .bool Td, .int .i64 TW, .int .i64 TR, .int .i64 TD]
    replace hs := hs.alloc (.cells [.int .i64 TC, .int .i64 TA, .int .i64 TF, .bool Tm, .bool Tf, .bool Td, .int .i64 TW, .int .i64 TR, .int .i64 TD].toArray 71)
    replace hr := hr.alloc (.cells [.int .i64 TC, .int .i64 TA, .int .i64 TF, .bool Tm, .bool Tf, .bool Td, .int .i64 TW, .int .i64 TR, .int .i64 TD].toArray 71)
    replace hh := hh.alloc (.cells [.int .i64 TC, .int .i64 TA, .int .i64 TF, .bool Tm, .bool Tf, .bool Td, .int .i64 TW, .int .i64 TR, .int .i64 TD].toArray 71)
    replace cc := cc.alloc (.cells [.int .i64 TC, .int .i64 TA, .int .i64 TF, .bool Tm, .bool Tf, .bool Td, .int .i64 TW, .int .i64 TR, .int .i64 TD].toArray 71)
    obtain ⟨s0, s1⟩ := hs.cell2
    obtain ⟨b0, b1, b2, b3, b4, b5⟩ := hh.cell6
    obtain ⟨x0, x1, x2, x3, x4, x5, x6, x7, x8⟩ := ht.cell9
    go_wp2_with fail
    clear s0 s1 b0 b1 b2 b3 b4 b5 x0 x1 x2 x3 x4 x5 x6 x7 x8
    refine (exists_is (H.out.grow cc) h1 HY.out).mono ?_
    rintro e w8 ⟨rfl, c_w8⟩
    replace hs := hs.chg c_w8 id
    replace hr := hr.chg c_w8 id
    replace ht := ht.chg c_w8 id
    replace cc := cc.step c_w8 (fun _ _ h => h.elim)
    clear c_w8 
    obtain ⟨x0, x1, x2, x3, x4, x5, x6, x7, x8⟩ := ht.cell9
    clear x0 x1 x2 x3 x4 x5 x6 x7 x8
    obtain ⟨r0, r1, r2, r3, r4, r5, r6, r7, r8⟩ := hr.cell9
    obtain ⟨k0, k1, k2, k3, k4, k5, k6, k7, k8⟩ := hr.frozen9
    go_wp2
    clear r0 r1 r2 r3 r4 r5 r6 r7 r8 k0 k1 k2 k3 k4 k5 k6 k7 k8
    have hr' : Blk (((((((((w8.setCell ⟨r, 0, none⟩ (.int .i64 0)).setCell ⟨r, 1, none⟩ (.int .i64 0)).setCell ⟨r, 2, none⟩ (.int .i64 0)).setCell ⟨r, 3, none⟩ (.bool false)).setCell ⟨r, 4, none⟩ (.bool false)).setCell ⟨r, 5, none⟩ (.bool false)).setCell ⟨r, 6, none⟩ (.int .i64 0)).setCell ⟨r, 7, none⟩ (.int .i64 0)).setCell ⟨r, 8, none⟩ (.int .i64 0)) r 71 [.int .i64 0, .int .i64 0, .int .i64 0, .bool false, .bool false, .bool false, .int .i64 0, .int .i64 0, .int .i64 0] := hr.put9 (.int .i64 0) (.int .i64 0) (.int .i64 0) (.bool false) (.bool false) (.bool false) (.int .i64 0) (.int .i64 0) (.int .i64 0)
    have cc' := fr.put9 cc (.int .i64 0) (.int .i64 0) (.int .i64 0) (.bool false) (.bool false) (.bool false) (.int .i64 0) (.int .i64 0) (.int .i64 0)
    change Grow _ (((((((((w8.setCell ⟨r, 0, none⟩ (.int .i64 0)).setCell ⟨r, 1, none⟩ (.int .i64 0)).setCell ⟨r, 2, none⟩ (.int .i64 0)).setCell ⟨r, 3, none⟩ (.bool false)).setCell ⟨r, 4, none⟩ (.bool false)).setCell ⟨r, 5, none⟩ (.bool false)).setCell ⟨r, 6, none⟩ (.int .i64 0)).setCell ⟨r, 7, none⟩ (.int .i64 0)).setCell ⟨r, 8, none⟩ (.int .i64 0)) at cc'
    clear hr cc
    generalize (((((((((w8.setCell ⟨r, 0, none⟩ (.int .i64 0)).setCell ⟨r, 1, none⟩ (.int .i64 0)).setCell ⟨r, 2, none⟩ (.int .i64 0)).setCell ⟨r, 3, none⟩ (.bool false)).setCell ⟨r, 4, none⟩ (.bool false)).setCell ⟨r, 5, none⟩ (.bool false)).setCell ⟨r, 6, none⟩ (.int .i64 0)).setCell ⟨r, 7, none⟩ (.int .i64 0)).setCell ⟨r, 8, none⟩ (.int .i64 0)) = wz at *
    have hr := hr'
    have cc := cc'
    clear hr' cc'
    obtain ⟨r0, r1, r2, r3, r4, r5, r6, r7, r8⟩ := hr.cell9
    refine bodyPost_ret (v := .tuple #[(⟨0, 0, 0, false, false, false, 0, 0, 0⟩ : Th).v, .int .i64 12]) (by simp [results, Try.results40, go_sem, r0, r1, r2, r3, r4, r5, r6, r7, r8]) rfl ?_
    exact ⟨ret_any (by rw [HE.out.1, HE.out.2] <;> rfl), cc⟩
  · have HE := hide (fd_yes hx how (by rw [hcm.1, hcm.2]; exact hb) (by rw [hwt]; exact hy))
    rw [hwt] at HE
    have HY := hide hy
    obtain ⟨TC, TA, TF, Tm, Tf, Td, TW, TR, TD⟩ := T
    clear hx hb hwt how hcm hy
    dsimp only at HY
    go_enter Try.func40, Try.ntmps40
    go_wp2_with fail
    generalize (w.alloc (.cells #[.pointer p, .pointer tp] 28)).alloc (.cells #[.int .i64 0, .int .i64 0, .int .i64 0, .bool false, .bool false, .bool false, .int .i64 0, .int .i64 0, .int .i64 0] 71) = w3 at *
    generalize w.heap.size + 1 = r at *
    generalize w.heap.size = s at *
    refine (exists_is (H.out.grow cc) h1 HX.out).mono ?_
    rintro e w4 ⟨rfl, c_w4⟩
    replace hs := hs.chg c_w4 id
    replace hr := hr.chg c_w4 id
    replace cc := cc.step c_w4 (fun _ _ h => h.elim)
    clear c_w4 
    obtain ⟨s0, s1⟩ := hs.cell2
    go_wp2_with fail
    refine (load_is (H.out.grow cc).ar hn h1 HV.out.1 HV.out.2).mono ?_
    rintro e w' ⟨rfl, rfl⟩
    go_wp2_with fail
    clear s0 s1
    refine (of_is _ HO.out.2 HO.out.1).mono ?_
    rintro e w5 ⟨rfl, c_w5⟩
    replace hs := hs.chg c_w5 id
    replace hr := hr.chg c_w5 id
    replace cc := cc.step c_w5 (fun _ _ h => h.elim)
    clear c_w5 
    have hh := Blk.new w5 45 [.int .i64 C, .int .i64 A, .int .i64 F, .bool m, .bool f, .bool d]
    replace hs := hs.alloc (.cells [.int .i64 C, .int .i64 A, .int .i64 F, .bool m, .bool f, .bool d].toArray 45)
    replace hr := hr.alloc (.cells [.int .i64 C, .int .i64 A, .int .i64 F, .bool m, .bool f, .bool d].toArray 45)
    replace cc := cc.alloc (.cells [.int .i64 C, .int .i64 A, .int .i64 F, .bool m, .bool f, .bool d].toArray 45)
    obtain ⟨s0, s1⟩ := hs.cell2
    obtain ⟨b0, b1, b2, b3, b4, b5⟩ := hh.cell6
    go_wp2_with fail
    clear s0 s1 b0 b1 b2 b3 b4 b5
    refine (measure_is (H.out.grow cc) hi.1 hi.2 HT.out HB.out).mono ?_
    rintro e w6 ⟨rfl, c_w6⟩
    replace hs := hs.chg c_w6 id
    replace hr := hr.chg c_w6 id
    replace hh := hh.chg c_w6 id
    replace cc := cc.step c_w6 (fun _ _ h => h.elim)
    clear c_w6 
    have ht := Blk.new w6 71 [.int .i64 TC, .int .i64 TA, .int .i64 TF, .bool Tm, .bool Tf, .bool Td, .int .i64 TW, .int .i64 TR, .int .i64 TD]
    replace hs := hs.alloc (.cells [.int .i64 TC, .int .i64 TA, .int .i64 TF, .bool Tm, .bool Tf, .bool Td, .int .i64 TW, .int .i64 TR, .int .i64 TD].toArray 71)
    replace hr := hr.alloc (.cells [.int .i64 TC, .int .i64 TA, .int .i64 TF, .bool Tm, .bool Tf, .bool Td, .int .i64 TW, .int .i64 TR, .int .i64 TD].toArray 71)
    replace hh := hh.alloc (.cells [.int .i64 TC, .int .i64 TA, .int .i64 TF, .bool Tm, .bool Tf, .bool Td, .int .i64 TW, .int .i64 TR, .int .i64 TD].toArray 71)
    replace cc := cc.alloc (.cells [.int .i64 TC, .int .i64 TA, .int .i64 TF, .bool Tm, .bool Tf, .bool Td, .int .i64 TW, .int .i64 TR, .int .i64 TD].toArray 71)
    obtain ⟨s0, s1⟩ := hs.cell2
    obtain ⟨b0, b1, b2, b3, b4, b5⟩ := hh.cell6
    obtain ⟨x0, x1, x2, x3, x4, x5, x6, x7, x8⟩ := ht.cell9
    go_wp2_with fail
    clear s0 s1 b0 b1 b2 b3 b4 b5 x0 x1 x2 x3 x4 x5 x6 x7 x8
    refine (exists_is (H.out.grow cc) h1 HY.out).mono ?_
    rintro e w8 ⟨rfl, c_w8⟩
    replace hs := hs.chg c_w8 id
    replace hr := hr.chg c_w8 id
    replace ht := ht.chg c_w8 id
    replace cc := cc.step c_w8 (fun _ _ h => h.elim)
    clear c_w8 
    obtain ⟨x0, x1, x2, x3, x4, x5, x6, x7, x8⟩ := ht.cell9
    obtain ⟨r0, r1, r2, r3, r4, r5, r6, r7, r8⟩ := hr.cell9
    obtain ⟨k0, k1, k2, k3, k4, k5, k6, k7, k8⟩ := hr.frozen9
    go_wp2
    clear r0 r1 r2 r3 r4 r5 r6 r7 r8 k0 k1 k2 k3 k4 k5 k6 k7 k8
    have hr' : Blk (((((((((w8.setCell ⟨r, 0, none⟩ (.int .i64 TC)).setCell ⟨r, 1, none⟩ (.int .i64 TA)).setCell ⟨r, 2, none⟩ (.int .i64 TF)).setCell ⟨r, 3, none⟩ (.bool Tm)).setCell ⟨r, 4, none⟩ (.bool Tf)).setCell ⟨r, 5, none⟩ (.bool Td)).setCell ⟨r, 6, none⟩ (.int .i64 TW)).setCell ⟨r, 7, none⟩ (.int .i64 TR)).setCell ⟨r, 8, none⟩ (.int .i64 TD)) r 71 [.int .i64 TC, .int .i64 TA, .int .i64 TF, .bool Tm, .bool Tf, .bool Td, .int .i64 TW, .int .i64 TR, .int .i64 TD] := hr.put9 (.int .i64 TC) (.int .i64 TA) (.int .i64 TF) (.bool Tm) (.bool Tf) (.bool Td) (.int .i64 TW) (.int .i64 TR) (.int .i64 TD)
    have cc' := fr.put9 cc (.int .i64 TC) (.int .i64 TA) (.int .i64 TF) (.bool Tm) (.bool Tf) (.bool Td) (.int .i64 TW) (.int .i64 TR) (.int .i64 TD)
    change Grow _ (((((((((w8.setCell ⟨r, 0, none⟩ (.int .i64 TC)).setCell ⟨r, 1, none⟩ (.int .i64 TA)).setCell ⟨r, 2, none⟩ (.int .i64 TF)).setCell ⟨r, 3, none⟩ (.bool Tm)).setCell ⟨r, 4, none⟩ (.bool Tf)).setCell ⟨r, 5, none⟩ (.bool Td)).setCell ⟨r, 6, none⟩ (.int .i64 TW)).setCell ⟨r, 7, none⟩ (.int .i64 TR)).setCell ⟨r, 8, none⟩ (.int .i64 TD)) at cc'
    clear hr cc
    generalize (((((((((w8.setCell ⟨r, 0, none⟩ (.int .i64 TC)).setCell ⟨r, 1, none⟩ (.int .i64 TA)).setCell ⟨r, 2, none⟩ (.int .i64 TF)).setCell ⟨r, 3, none⟩ (.bool Tm)).setCell ⟨r, 4, none⟩ (.bool Tf)).setCell ⟨r, 5, none⟩ (.bool Td)).setCell ⟨r, 6, none⟩ (.int .i64 TW)).setCell ⟨r, 7, none⟩ (.int .i64 TR)).setCell ⟨r, 8, none⟩ (.int .i64 TD)) = wz at *
    have hr := hr'
    have cc := cc'
    clear hr' cc'
    obtain ⟨r0, r1, r2, r3, r4, r5, r6, r7, r8⟩ := hr.cell9
    refine bodyPost_ret (v := .tuple #[(⟨TC, TA, TF, Tm, Tf, Td, TW, TR, TD⟩ : Th).v, .int .i64 0]) (by simp [results, Try.results40, go_sem, r0, r1, r2, r3, r4, r5, r6, r7, r8]) rfl ?_
    exact ⟨ret_any (by rw [HE.out.1, HE.out.2] <;> rfl), cc⟩
theorem find_is {i X : Int} {t : Th} (h : St w p tp g xs cs) (h1 : i ≤ 9223372036854775807) (hT : fdT xs cs i = t) (hX : fdX xs cs i = X) :
    Calls Try.prog 40 #[stV p tp, .int .i64 i] w fun e w' => e = .returned (.tuple #[t.v, .int .i64 X]) ∧ Grow w w' := by
  have h' := find_any h i h1
  rwa [hT, hX] at h'
end
end Go.Proofs.Ytgknndbahdjghaa.L6

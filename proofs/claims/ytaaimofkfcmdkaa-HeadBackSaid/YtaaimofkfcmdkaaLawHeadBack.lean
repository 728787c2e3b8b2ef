/- For every two heads HeadBack answers true: each that can be has a word of its own, and is told by it. Conditions: none. -/
import Derived.Test.YtaaimofkfcmdkaaBack
import Derived.ShutString
namespace Go.Proofs.Ytaaimofkfcmdkaa.headBack
open Go.ChangeShapes Go.WideShapes Go.ChangeAt Go.RowKit
set_option linter.unusedVariables false

set_option maxHeartbeats 2000000 in
set_option maxRecDepth 100000 in
theorem walk_unlike (C A F C' A' F' : Int) (m f d m' f' d' : Bool) (w : World) (hr : riB C A F f d = true) (hr' : riB C' A' F' f' d' = true) (hne : ¬ (C = C' ∧ A = A' ∧ F = F' ∧ m = m' ∧ f = f' ∧ d = d')) :
    Calls Try.prog 5 #[hdV C A F m f d, hdV C' A' F' m' f' d'] w fun e w' => e = .returned (.bool true) ∧ Below w.heap.size w w' := by
  have hw : (wd C A F m f d == wd C' A' F' m' f' d') = false := by
    simp only [beq_eq_false_iff_ne]
    exact fun h => hne (wd_inj hr hr' h)
  have kR : ∀ W : World, (Op.equalIn 10000 23 (.agg #[.int .i64 C, .int .i64 A, .int .i64 F, .bool m, .bool f, .bool d]) (.agg #[.int .i64 C', .int .i64 A', .int .i64 F', .bool m', .bool f', .bool d'])).run Try.prog W = .ok false W := fun W => by
    rw [sameR, decide_eq_false hne]
  clear hne
  have hp := Blk.new w 23 [.int .i64 C, .int .i64 A, .int .i64 F, .bool m, .bool f, .bool d]
  have cp := Grow.box w (.cells [.int .i64 C, .int .i64 A, .int .i64 F, .bool m, .bool f, .bool d].toArray 23)
  have hq := Blk.new (w.alloc (.cells #[.int .i64 C, .int .i64 A, .int .i64 F, .bool m, .bool f, .bool d] 23)) 23 [.int .i64 C', .int .i64 A', .int .i64 F', .bool m', .bool f', .bool d']
  replace hp := hp.alloc (.cells [.int .i64 C', .int .i64 A', .int .i64 F', .bool m', .bool f', .bool d'].toArray 23)
  replace cp := cp.alloc (.cells [.int .i64 C', .int .i64 A', .int .i64 F', .bool m', .bool f', .bool d'].toArray 23)
  have hsz : (w.alloc (.cells #[.int .i64 C, .int .i64 A, .int .i64 F, .bool m, .bool f, .bool d] 23)).heap.size = w.heap.size + 1 := by simp
  rw [hsz] at hq
  clear hsz
  have HR := hide hr
  have HR' := hide hr'
  clear hr hr'
  go_enter Try.func5, Try.ntmps5
  go_wp2_with fail
  generalize (w.alloc (.cells #[.int .i64 C, .int .i64 A, .int .i64 F, .bool m, .bool f, .bool d] 23)).alloc (.cells #[.int .i64 C', .int .i64 A', .int .i64 F', .bool m', .bool f', .bool d'] 23) = wp at *
  obtain ⟨q, hQ⟩ : ∃ q, q = w.heap.size + 1 := ⟨_, rfl⟩
  rw [← hQ] at hq ⊢
  clear hQ
  obtain ⟨p, hP⟩ : ∃ p, p = w.heap.size := ⟨_, rfl⟩
  rw [← hP] at hp ⊢
  clear hP
  refine (awake_any _).mono ?_
  rintro e wa ⟨rfl, c_wa⟩
  replace hp := hp.chg c_wa id
  replace hq := hq.chg c_wa id
  replace cp := cp.step c_wa (fun _ _ h => h.elim)
  clear c_wa 
  obtain ⟨p0, p1, p2, p3, p4, p5⟩ := hp.cell6
  obtain ⟨q0, q1, q2, q3, q4, q5⟩ := hq.cell6
  go_wp2_with fail
  clear p0 p1 p2 p3 p4 p5 q0 q1 q2 q3 q4 q5
  refine (rright_is _ HR.out).mono ?_
  rintro e w1 ⟨rfl, c_w1⟩
  replace hp := hp.chg c_w1 id
  replace hq := hq.chg c_w1 id
  replace cp := cp.step c_w1 (fun _ _ h => h.elim)
  clear c_w1 
  obtain ⟨p0, p1, p2, p3, p4, p5⟩ := hp.cell6
  obtain ⟨q0, q1, q2, q3, q4, q5⟩ := hq.cell6
  go_wp2_with fail
  clear p0 p1 p2 p3 p4 p5 q0 q1 q2 q3 q4 q5
  refine (rright_is _ HR'.out).mono ?_
  rintro e w2 ⟨rfl, c_w2⟩
  replace hp := hp.chg c_w2 id
  replace hq := hq.chg c_w2 id
  replace cp := cp.step c_w2 (fun _ _ h => h.elim)
  clear c_w2 
  obtain ⟨p0, p1, p2, p3, p4, p5⟩ := hp.cell6
  obtain ⟨q0, q1, q2, q3, q4, q5⟩ := hq.cell6
  go_wp2_with fail
  clear p0 p1 p2 p3 p4 p5 q0 q1 q2 q3 q4 q5
  refine (word_yes _ HR.out).mono ?_
  rintro e w3 ⟨rfl, c_w3⟩
  replace hp := hp.chg c_w3 id
  replace hq := hq.chg c_w3 id
  replace cp := cp.step c_w3 (fun _ _ h => h.elim)
  clear c_w3 
  obtain ⟨p0, p1, p2, p3, p4, p5⟩ := hp.cell6
  obtain ⟨q0, q1, q2, q3, q4, q5⟩ := hq.cell6
  go_wp2_with fail
  clear p0 p1 p2 p3 p4 p5 q0 q1 q2 q3 q4 q5
  refine (word_yes _ HR'.out).mono ?_
  rintro e w4 ⟨rfl, c_w4⟩
  replace hp := hp.chg c_w4 id
  replace hq := hq.chg c_w4 id
  replace cp := cp.step c_w4 (fun _ _ h => h.elim)
  clear c_w4 
  go_wp2_with fail
  refine (of_word _ HR.out).mono ?_
  rintro e w5 ⟨rfl, c_w5⟩
  replace hp := hp.chg c_w5 id
  replace hq := hq.chg c_w5 id
  replace cp := cp.step c_w5 (fun _ _ h => h.elim)
  clear c_w5 
  have hx := Blk.new w5 25 [.int .i64 C, .int .i64 A, .int .i64 F, .bool m, .bool f, .bool d]
  replace hp := hp.alloc (.cells [.int .i64 C, .int .i64 A, .int .i64 F, .bool m, .bool f, .bool d].toArray 25)
  replace hq := hq.alloc (.cells [.int .i64 C, .int .i64 A, .int .i64 F, .bool m, .bool f, .bool d].toArray 25)
  replace cp := cp.alloc (.cells [.int .i64 C, .int .i64 A, .int .i64 F, .bool m, .bool f, .bool d].toArray 25)
  obtain ⟨p0, p1, p2, p3, p4, p5⟩ := hp.cell6
  obtain ⟨q0, q1, q2, q3, q4, q5⟩ := hq.cell6
  obtain ⟨x0, x1, x2, x3, x4, x5⟩ := hx.cell6
  go_wp2
  go_ret
  exact ⟨rfl, cp.below (fun _ _ h => h) (Nat.le_refl _)⟩
set_option maxHeartbeats 2000000 in
set_option maxRecDepth 100000 in
theorem walk_same (C A F C' A' F' : Int) (m f d m' f' d' : Bool) (w : World) (hr : riB C A F f d = true) (hr' : riB C' A' F' f' d' = true) (heq : C = C' ∧ A = A' ∧ F = F' ∧ m = m' ∧ f = f' ∧ d = d') :
    Calls Try.prog 5 #[hdV C A F m f d, hdV C' A' F' m' f' d'] w fun e w' => e = .returned (.bool true) ∧ Below w.heap.size w w' := by
  obtain ⟨rfl, rfl, rfl, rfl, rfl, rfl⟩ := heq
  have hp := Blk.new w 23 [.int .i64 C, .int .i64 A, .int .i64 F, .bool m, .bool f, .bool d]
  have cp := Grow.box w (.cells [.int .i64 C, .int .i64 A, .int .i64 F, .bool m, .bool f, .bool d].toArray 23)
  have hq := Blk.new (w.alloc (.cells #[.int .i64 C, .int .i64 A, .int .i64 F, .bool m, .bool f, .bool d] 23)) 23 [.int .i64 C, .int .i64 A, .int .i64 F, .bool m, .bool f, .bool d]
  replace hp := hp.alloc (.cells [.int .i64 C, .int .i64 A, .int .i64 F, .bool m, .bool f, .bool d].toArray 23)
  replace cp := cp.alloc (.cells [.int .i64 C, .int .i64 A, .int .i64 F, .bool m, .bool f, .bool d].toArray 23)
  have hsz : (w.alloc (.cells #[.int .i64 C, .int .i64 A, .int .i64 F, .bool m, .bool f, .bool d] 23)).heap.size = w.heap.size + 1 := by simp
  rw [hsz] at hq
  clear hsz
  have HR := hide hr
  have HR' := hide hr'
  clear hr hr'
  go_enter Try.func5, Try.ntmps5
  go_wp2_with fail
  generalize (w.alloc (.cells #[.int .i64 C, .int .i64 A, .int .i64 F, .bool m, .bool f, .bool d] 23)).alloc (.cells #[.int .i64 C, .int .i64 A, .int .i64 F, .bool m, .bool f, .bool d] 23) = wp at *
  obtain ⟨q, hQ⟩ : ∃ q, q = w.heap.size + 1 := ⟨_, rfl⟩
  rw [← hQ] at hq ⊢
  clear hQ
  obtain ⟨p, hP⟩ : ∃ p, p = w.heap.size := ⟨_, rfl⟩
  rw [← hP] at hp ⊢
  clear hP
  refine (awake_any _).mono ?_
  rintro e wa ⟨rfl, c_wa⟩
  replace hp := hp.chg c_wa id
  replace hq := hq.chg c_wa id
  replace cp := cp.step c_wa (fun _ _ h => h.elim)
  clear c_wa 
  obtain ⟨p0, p1, p2, p3, p4, p5⟩ := hp.cell6
  obtain ⟨q0, q1, q2, q3, q4, q5⟩ := hq.cell6
  go_wp2_with fail
  clear p0 p1 p2 p3 p4 p5 q0 q1 q2 q3 q4 q5
  refine (rright_is _ HR.out).mono ?_
  rintro e w1 ⟨rfl, c_w1⟩
  replace hp := hp.chg c_w1 id
  replace hq := hq.chg c_w1 id
  replace cp := cp.step c_w1 (fun _ _ h => h.elim)
  clear c_w1 
  obtain ⟨p0, p1, p2, p3, p4, p5⟩ := hp.cell6
  obtain ⟨q0, q1, q2, q3, q4, q5⟩ := hq.cell6
  go_wp2_with fail
  clear p0 p1 p2 p3 p4 p5 q0 q1 q2 q3 q4 q5
  refine (rright_is _ HR'.out).mono ?_
  rintro e w2 ⟨rfl, c_w2⟩
  replace hp := hp.chg c_w2 id
  replace hq := hq.chg c_w2 id
  replace cp := cp.step c_w2 (fun _ _ h => h.elim)
  clear c_w2 
  obtain ⟨p0, p1, p2, p3, p4, p5⟩ := hp.cell6
  obtain ⟨q0, q1, q2, q3, q4, q5⟩ := hq.cell6
  go_wp2_with fail
  clear p0 p1 p2 p3 p4 p5 q0 q1 q2 q3 q4 q5
  refine (word_yes _ HR.out).mono ?_
  rintro e w3 ⟨rfl, c_w3⟩
  replace hp := hp.chg c_w3 id
  replace hq := hq.chg c_w3 id
  replace cp := cp.step c_w3 (fun _ _ h => h.elim)
  clear c_w3 
  obtain ⟨p0, p1, p2, p3, p4, p5⟩ := hp.cell6
  obtain ⟨q0, q1, q2, q3, q4, q5⟩ := hq.cell6
  go_wp2_with fail
  clear p0 p1 p2 p3 p4 p5 q0 q1 q2 q3 q4 q5
  refine (word_yes _ HR'.out).mono ?_
  rintro e w4 ⟨rfl, c_w4⟩
  replace hp := hp.chg c_w4 id
  replace hq := hq.chg c_w4 id
  replace cp := cp.step c_w4 (fun _ _ h => h.elim)
  clear c_w4 
  go_wp2_with fail
  refine (of_word _ HR.out).mono ?_
  rintro e w5 ⟨rfl, c_w5⟩
  replace hp := hp.chg c_w5 id
  replace hq := hq.chg c_w5 id
  replace cp := cp.step c_w5 (fun _ _ h => h.elim)
  clear c_w5 
  have hx := Blk.new w5 25 [.int .i64 C, .int .i64 A, .int .i64 F, .bool m, .bool f, .bool d]
  replace hp := hp.alloc (.cells [.int .i64 C, .int .i64 A, .int .i64 F, .bool m, .bool f, .bool d].toArray 25)
  replace hq := hq.alloc (.cells [.int .i64 C, .int .i64 A, .int .i64 F, .bool m, .bool f, .bool d].toArray 25)
  replace cp := cp.alloc (.cells [.int .i64 C, .int .i64 A, .int .i64 F, .bool m, .bool f, .bool d].toArray 25)
  obtain ⟨p0, p1, p2, p3, p4, p5⟩ := hp.cell6
  obtain ⟨q0, q1, q2, q3, q4, q5⟩ := hq.cell6
  obtain ⟨x0, x1, x2, x3, x4, x5⟩ := hx.cell6
  go_wp2
  go_ret
  exact ⟨rfl, cp.below (fun _ _ h => h) (Nat.le_refl _)⟩
set_option maxHeartbeats 2000000 in
set_option maxRecDepth 100000 in
theorem walk_no (C A F C' A' F' : Int) (m f d m' f' d' : Bool) (w : World) (hr : riB C A F f d = false) (hr' : True) :
    Calls Try.prog 5 #[hdV C A F m f d, hdV C' A' F' m' f' d'] w fun e w' => e = .returned (.bool true) ∧ Below w.heap.size w w' := by
  have hp := Blk.new w 23 [.int .i64 C, .int .i64 A, .int .i64 F, .bool m, .bool f, .bool d]
  have cp := Grow.box w (.cells [.int .i64 C, .int .i64 A, .int .i64 F, .bool m, .bool f, .bool d].toArray 23)
  have hq := Blk.new (w.alloc (.cells #[.int .i64 C, .int .i64 A, .int .i64 F, .bool m, .bool f, .bool d] 23)) 23 [.int .i64 C', .int .i64 A', .int .i64 F', .bool m', .bool f', .bool d']
  replace hp := hp.alloc (.cells [.int .i64 C', .int .i64 A', .int .i64 F', .bool m', .bool f', .bool d'].toArray 23)
  replace cp := cp.alloc (.cells [.int .i64 C', .int .i64 A', .int .i64 F', .bool m', .bool f', .bool d'].toArray 23)
  have hsz : (w.alloc (.cells #[.int .i64 C, .int .i64 A, .int .i64 F, .bool m, .bool f, .bool d] 23)).heap.size = w.heap.size + 1 := by simp
  rw [hsz] at hq
  clear hsz
  have HR := hide hr
  have HR' := hide hr'
  clear hr hr'
  go_enter Try.func5, Try.ntmps5
  go_wp2_with fail
  generalize (w.alloc (.cells #[.int .i64 C, .int .i64 A, .int .i64 F, .bool m, .bool f, .bool d] 23)).alloc (.cells #[.int .i64 C', .int .i64 A', .int .i64 F', .bool m', .bool f', .bool d'] 23) = wp at *
  obtain ⟨q, hQ⟩ : ∃ q, q = w.heap.size + 1 := ⟨_, rfl⟩
  rw [← hQ] at hq ⊢
  clear hQ
  obtain ⟨p, hP⟩ : ∃ p, p = w.heap.size := ⟨_, rfl⟩
  rw [← hP] at hp ⊢
  clear hP
  refine (awake_any _).mono ?_
  rintro e wa ⟨rfl, c_wa⟩
  replace hp := hp.chg c_wa id
  replace hq := hq.chg c_wa id
  replace cp := cp.step c_wa (fun _ _ h => h.elim)
  clear c_wa 
  obtain ⟨p0, p1, p2, p3, p4, p5⟩ := hp.cell6
  obtain ⟨q0, q1, q2, q3, q4, q5⟩ := hq.cell6
  go_wp2_with fail
  clear p0 p1 p2 p3 p4 p5 q0 q1 q2 q3 q4 q5
  refine (rright_is _ HR.out).mono ?_
  rintro e w1 ⟨rfl, c_w1⟩
  replace hp := hp.chg c_w1 id
  replace hq := hq.chg c_w1 id
  replace cp := cp.step c_w1 (fun _ _ h => h.elim)
  clear c_w1 
  go_wp2_with fail
  refine (awake_any _).mono ?_
  rintro e w2 ⟨rfl, c_w2⟩
  replace hp := hp.chg c_w2 id
  replace hq := hq.chg c_w2 id
  replace cp := cp.step c_w2 (fun _ _ h => h.elim)
  clear c_w2 
  go_wp2
  go_ret
  exact ⟨rfl, cp.below (fun _ _ h => h) (Nat.le_refl _)⟩
set_option maxHeartbeats 2000000 in
set_option maxRecDepth 100000 in
theorem walk_no' (C A F C' A' F' : Int) (m f d m' f' d' : Bool) (w : World) (hr : riB C A F f d = true) (hr' : riB C' A' F' f' d' = false) :
    Calls Try.prog 5 #[hdV C A F m f d, hdV C' A' F' m' f' d'] w fun e w' => e = .returned (.bool true) ∧ Below w.heap.size w w' := by
  have hp := Blk.new w 23 [.int .i64 C, .int .i64 A, .int .i64 F, .bool m, .bool f, .bool d]
  have cp := Grow.box w (.cells [.int .i64 C, .int .i64 A, .int .i64 F, .bool m, .bool f, .bool d].toArray 23)
  have hq := Blk.new (w.alloc (.cells #[.int .i64 C, .int .i64 A, .int .i64 F, .bool m, .bool f, .bool d] 23)) 23 [.int .i64 C', .int .i64 A', .int .i64 F', .bool m', .bool f', .bool d']
  replace hp := hp.alloc (.cells [.int .i64 C', .int .i64 A', .int .i64 F', .bool m', .bool f', .bool d'].toArray 23)
  replace cp := cp.alloc (.cells [.int .i64 C', .int .i64 A', .int .i64 F', .bool m', .bool f', .bool d'].toArray 23)
  have hsz : (w.alloc (.cells #[.int .i64 C, .int .i64 A, .int .i64 F, .bool m, .bool f, .bool d] 23)).heap.size = w.heap.size + 1 := by simp
  rw [hsz] at hq
  clear hsz
  have HR := hide hr
  have HR' := hide hr'
  clear hr hr'
  go_enter Try.func5, Try.ntmps5
  go_wp2_with fail
  generalize (w.alloc (.cells #[.int .i64 C, .int .i64 A, .int .i64 F, .bool m, .bool f, .bool d] 23)).alloc (.cells #[.int .i64 C', .int .i64 A', .int .i64 F', .bool m', .bool f', .bool d'] 23) = wp at *
  obtain ⟨q, hQ⟩ : ∃ q, q = w.heap.size + 1 := ⟨_, rfl⟩
  rw [← hQ] at hq ⊢
  clear hQ
  obtain ⟨p, hP⟩ : ∃ p, p = w.heap.size := ⟨_, rfl⟩
  rw [← hP] at hp ⊢
  clear hP
  refine (awake_any _).mono ?_
  rintro e wa ⟨rfl, c_wa⟩
  replace hp := hp.chg c_wa id
  replace hq := hq.chg c_wa id
  replace cp := cp.step c_wa (fun _ _ h => h.elim)
  clear c_wa 
  obtain ⟨p0, p1, p2, p3, p4, p5⟩ := hp.cell6
  obtain ⟨q0, q1, q2, q3, q4, q5⟩ := hq.cell6
  go_wp2_with fail
  clear p0 p1 p2 p3 p4 p5 q0 q1 q2 q3 q4 q5
  refine (rright_is _ HR.out).mono ?_
  rintro e w1 ⟨rfl, c_w1⟩
  replace hp := hp.chg c_w1 id
  replace hq := hq.chg c_w1 id
  replace cp := cp.step c_w1 (fun _ _ h => h.elim)
  clear c_w1 
  obtain ⟨p0, p1, p2, p3, p4, p5⟩ := hp.cell6
  obtain ⟨q0, q1, q2, q3, q4, q5⟩ := hq.cell6
  go_wp2_with fail
  clear p0 p1 p2 p3 p4 p5 q0 q1 q2 q3 q4 q5
  refine (rright_is _ HR'.out).mono ?_
  rintro e w2 ⟨rfl, c_w2⟩
  replace hp := hp.chg c_w2 id
  replace hq := hq.chg c_w2 id
  replace cp := cp.step c_w2 (fun _ _ h => h.elim)
  clear c_w2 
  go_wp2_with fail
  refine (awake_any _).mono ?_
  rintro e w3 ⟨rfl, c_w3⟩
  replace hp := hp.chg c_w3 id
  replace hq := hq.chg c_w3 id
  replace cp := cp.step c_w3 (fun _ _ h => h.elim)
  clear c_w3 
  go_wp2
  go_ret
  exact ⟨rfl, cp.below (fun _ _ h => h) (Nat.le_refl _)⟩
theorem walk (cs cs' : List Value) (w : World) (w0 : fits [some .i64, some .i64, some .i64, none, none, none] cs) (w1 : fits [some .i64, some .i64, some .i64, none, none, none] cs') :
    Calls Try.prog 5 #[.agg cs.toArray, .agg cs'.toArray] w fun e w' => e = .returned (.bool true) ∧ Below w.heap.size w w' := by
  obtain ⟨C, A, F, m, f, d, rfl, _, _, _⟩ := fits_head w0
  obtain ⟨C', A', F', m', f', d', rfl, _, _, _⟩ := fits_head w1
  cases hr : riB C A F f d
  · exact walk_no C A F C' A' F' m f d m' f' d' w hr trivial
  · cases hr' : riB C' A' F' f' d'
    · exact walk_no' C A F C' A' F' m f d m' f' d' w hr hr'
    · by_cases h : C = C' ∧ A = A' ∧ F = F' ∧ m = m' ∧ f = f' ∧ d = d'
      · exact walk_same C A F C' A' F' m f d m' f' d' w hr hr' h
      · exact walk_unlike C A F C' A' F' m f d m' f' d' w hr hr' h

theorem own : ownKnob Try.prog.godebug = none := by kernel_rfl
theorem laidOut : laidOutB Try.prog = true := by kernel_rfl

set_option maxRecDepth 100000 in
theorem lifted (os : Os) (started : os.Started) (H : Type) (enc : TypeId × Value → H) :
    ReturnsInHanded {} Try.checked os 5 .any (Rows.headBackSpec.pre6 enc Try.prog Try.f5 Rows.headBackRow.domain false) (Rows.headBackSpec.post enc Try.prog Try.f5 false true false false) := by
  refine returnsInHanded_of_change (C := Try.checked) own started (by kernel_rfl) Try.func5
    (ChangeSpec.witness6 (enc := enc) (C := Try.checked) false ⟨#[], #[.agg #[.int .i64 0, .int .i64 0, .int .i64 0, .bool false, .bool false, .bool false], .agg #[.int .i64 0, .int .i64 0, .int .i64 0, .bool false, .bool false, .bool false]], []⟩ 8 (by kernel_rfl) (by kernel_rfl) (by kernel_rfl) (by kernel_rfl)) ?_
  intro W base args ds gs before hval0 hW hcnd _
  have hval : ∀ (j : Nat) t v, Try.f5.params[j]? = some t → args[j]? = some v → Value.okWide Try.prog W .any base t v := hval0
  have hW' := hW
  obtain ⟨p, q, hA0, hV, rfl, hfz, hnd⟩ := hW
  have hA : DataW.TrodAll enc Try.prog W 0 (fun _ => true) true Try.f5.params.toList args.toList ds p := hA0
  rw [Try.params5] at hA hval
  obtain ⟨v0, vs0, d0, ds0, p0, q0, hargs, rfl, rfl, h0, r0⟩ := trodAll_cons hA
  obtain ⟨v1, vs1, d1, ds1, p1, q1, rfl, rfl, rfl, h1, r1⟩ := trodAll_cons r0
  obtain ⟨rfl, rfl, rfl⟩ := trodAll_nil r1
  obtain rfl : args = #[v0, v1] := by cases args; simp_all
  obtain ⟨rfl, rfl⟩ := trodVars_none hV
  have k0 := h0
  have lt0 : ∀ x ∈ p0, x.block < W.heap.size := by obtain ⟨m, hm⟩ := k0; exact DataW.trod_lt m _ _ _ hm
  obtain ⟨cs0, rfl, w0⟩ := open_rec [some .i64, some .i64, some .i64, none, none, none] Try.underlying23 (by kernel_rfl) (by kernel_rfl) (by kernel_rfl) (hval 0 23 v0 rfl rfl) h0
  have k1 := h1
  have lt1 : ∀ x ∈ p1, x.block < W.heap.size := by obtain ⟨m, hm⟩ := k1; exact DataW.trod_lt m _ _ _ hm
  obtain ⟨cs1, rfl, w1⟩ := open_rec [some .i64, some .i64, some .i64, none, none, none] Try.underlying23 (by kernel_rfl) (by kernel_rfl) (by kernel_rfl) (hval 1 23 v1 rfl rfl) h1
  clear hA0 hval0
  refine (walk cs0 cs1 W w0 w1).mono fun e W' ⟨he, bel⟩ => ?_
  subst he
  exact ⟨_, rfl, _, _, _, [], _, [], hW', trodAll_mk1 (shut_bool Try.underlying4 _), (trodAll_cons_mk (Below.trod laidOut (by kernel_rfl) (of_decide_eq_true (by kernel_rfl)) k0 bel lt0) (trodAll_cons_mk (Below.trod laidOut (by kernel_rfl) (of_decide_eq_true (by kernel_rfl)) k1 bel lt1) trodAll_mk0)), rfl, bel.frame _, fun h => by cases h⟩

theorem over : Rows.headBackRow.holds Try.pinned (OpenSpec.ofChange Rows.headBackSpec) :=
  OpenClaim.holds_of_wide 5 Try.f5 rfl rfl rfl rfl rfl rfl rfl ⟨rfl, rfl, rfl, rfl, rfl⟩ rfl rfl rfl rfl rfl (by kernel_rfl) Try.func5 (by kernel_rfl)
    (of_decide_eq_true (by kernel_rfl)) (by unfold Func.isWrapper; first | (rw [if_pos (by decide +kernel)]; kernel_rfl) | (rw [if_neg (by decide +kernel)]; exact ⟨rfl, rfl⟩))
    (fun os started H enc _ => lifted os started H enc)

/-- The statement. -/
theorem proved : Rows.HeadBackSaid := over
#print axioms proved
end Go.Proofs.Ytaaimofkfcmdkaa.headBack


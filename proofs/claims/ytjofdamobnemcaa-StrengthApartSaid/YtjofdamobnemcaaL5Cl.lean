/- Classes: what they are as values, can they be, and what Right answers of them. Conditions: a class's references are a number of 64 bits. -/
import Derived.Test.YtjofdamobnemcaaGrow
import Derived.Test.YtjofdamobnemcaaOwn
import Derived.Test.YtjofdamobnemcaaOpen
import Derived.Handy
namespace Go.Proofs.Ytjofdamobnemcaa.L5
open Go.ChangeShapes Go.WideShapes Go.ChangeAt Go.RowKit
set_option linter.unusedVariables false

/-- A class: its kind, its references, its numbers, is it to be finalized. -/
structure Cl where
  k : Int
  r : Int
  d : Int
  f : Bool
abbrev clV (K R D : Int) (f : Bool) : Value := .agg #[.int .i64 K, .int .i64 R, .int .i64 D, .bool f]
def Cl.cells (c : Cl) : List Value := [.int .i64 c.k, .int .i64 c.r, .int .i64 c.d, .bool c.f]
/-- Is it a reference class; do its fields find room; can it be. -/
def isRf (K : Int) : Bool := decide (K = 3 ∨ K = 4 ∨ K = 5)
def fitB (R D : Int) : Bool := decide (R + D ≤ 30)
def rtB (K R D : Int) (f : Bool) : Bool :=
  decide (0 ≤ R) && (decide (0 ≤ D) && (if isRf K then fitB R D && (decide (1 ≤ R) && (decide (2 ≤ D) && !f)) else if K = 1 then fitB R D else if K = 2 then decide (R = 0) && decide (D = 0) else false))
theorem ret_any {a b : Value} (h : a = b) : Ending.returned a = .returned b := by rw [h]

theorem _root_.Go.Proofs.Ytjofdamobnemcaa.Blk.cell4 {w : World} {g : Nat} {t : TypeId} {a b c d : Value} (h : Blk w g t [a, b, c, d]) : w.cell? ⟨g, 0, none⟩ = some a ∧ w.cell? ⟨g, 1, none⟩ = some b ∧ w.cell? ⟨g, 2, none⟩ = some c ∧ w.cell? ⟨g, 3, none⟩ = some d :=
  ⟨h.cell 0, h.cell 1, h.cell 2, h.cell 3⟩

set_option maxHeartbeats 400000 in
theorem isref_any (K R D : Int) (f : Bool) (w : World) :
    Calls Try.prog 45 #[clV K R D f] w fun e w' => e = .returned (.bool (isRf K)) ∧ Grow w w' := by
  have HE := hide (show isRf K = (K == 3 || K == 4 || K == 5) by simp [isRf, Bool.beq_eq_decide_eq, ← Bool.decide_or, or_assoc])
  go_enter Try.func45, Try.ntmps45
  go_wp2
  all_goals
    go_ret
    exact ⟨ret_bool (by rw [HE.out] <;> simp [*]), Grow.box _ _⟩

set_option maxHeartbeats 400000 in
theorem fits_in (K R D : Int) (f : Bool) (w : World) (h0 : 0 ≤ R) (h1 : R ≤ 9223372036854775807) :
    Calls Try.prog 46 #[clV K R D f] w fun e w' => e = .returned (.bool (fitB R D)) ∧ Grow w w' := by
  have HE := hide (show fitB R D = decide (D ≤ 30 - R) by simp only [fitB, decide_eq_decide]; omega)
  go_enter Try.func46, Try.ntmps46
  go_wp2
  go_ret
  exact ⟨ret_bool HE.out.symm, Grow.box _ _⟩
theorem isref_is {K : Int} {b : Bool} (R D : Int) (f : Bool) (w : World) (h : isRf K = b) :
    Calls Try.prog 45 #[clV K R D f] w fun e w' => e = .returned (.bool b) ∧ Grow w w' := by
  have h' := isref_any K R D f w
  rwa [h] at h'
theorem fits_is {R D : Int} {b : Bool} (K : Int) (f : Bool) (w : World) (h0 : 0 ≤ R) (h1 : R ≤ 9223372036854775807) (h : fitB R D = b) :
    Calls Try.prog 46 #[clV K R D f] w fun e w' => e = .returned (.bool b) ∧ Grow w w' := by
  have h' := fits_in K R D f w h0 h1
  rwa [h] at h'

set_option maxHeartbeats 1000000 in
theorem right_any (K R D : Int) (f : Bool) (w : World) (hM : R ≤ 9223372036854775807) :
    Calls Try.prog 29 #[clV K R D f] w fun e w' => e = .returned (.bool (rtB K R D f)) ∧ Grow w w' := by
  by_cases hR : 0 ≤ R
  rotate_left
  · have HE := hide (show rtB K R D f = false by simp [rtB, hR])
    have h' : decide (R < 0) = true := by simp; omega
    go_enter Try.func29, Try.ntmps29
    go_wp2
    go_ret
    exact ⟨ret_bool HE.out.symm, Grow.box _ _⟩
  have h0 : decide (R < 0) = false := by simp; omega
  by_cases hD : 0 ≤ D
  rotate_left
  · have HE := hide (show rtB K R D f = false by simp [rtB, hD])
    have h' : decide (D < 0) = true := by simp; omega
    go_enter Try.func29, Try.ntmps29
    go_wp2
    go_ret
    exact ⟨ret_bool HE.out.symm, Grow.box _ _⟩
  have h1 : decide (D < 0) = false := by simp; omega
  cases hI : isRf K
  · have HI := hide hI
    by_cases k1 : K = 1
    · subst k1
      cases hF : fitB R D
      · have HF := hide hF
        have HE := hide (show rtB 1 R D f = false by simp [rtB, hR, hD, hF, isRf])
        clear hI hF
        have hp := Blk.new w 54 [.int .i64 1, .int .i64 R, .int .i64 D, .bool f]
        have cp := Grow.box w (.cells [.int .i64 1, .int .i64 R, .int .i64 D, .bool f].toArray 54)
        go_enter Try.func29, Try.ntmps29
        go_wp2_with fail
        generalize w.alloc (.cells #[.int .i64 1, .int .i64 R, .int .i64 D, .bool f] 54) = wp at *
        obtain ⟨p, hP⟩ : ∃ p, p = w.heap.size := ⟨_, rfl⟩
        rw [← hP] at hp ⊢
        clear hP
        refine (isref_is _ _ _ _ HI.out).mono ?_
        rintro e w1 ⟨rfl, c_w1⟩
        replace hp := hp.chg c_w1 id
        replace cp := cp.step c_w1 (fun _ _ h => h.elim)
        clear c_w1 
        obtain ⟨p0, p1, p2, p3⟩ := hp.cell4
        go_wp2_with fail
        clear p0 p1 p2 p3
        refine (fits_is _ _ _ hR hM HF.out).mono ?_
        rintro e w2 ⟨rfl, c_w2⟩
        replace hp := hp.chg c_w2 id
        replace cp := cp.step c_w2 (fun _ _ h => h.elim)
        clear c_w2 
        obtain ⟨p0, p1, p2, p3⟩ := hp.cell4
        go_wp2
        go_ret
        exact ⟨ret_bool HE.out.symm, cp⟩
      · have HF := hide hF
        have HE := hide (show rtB 1 R D f = true by simp [rtB, hR, hD, hF, isRf])
        clear hI hF
        have hp := Blk.new w 54 [.int .i64 1, .int .i64 R, .int .i64 D, .bool f]
        have cp := Grow.box w (.cells [.int .i64 1, .int .i64 R, .int .i64 D, .bool f].toArray 54)
        go_enter Try.func29, Try.ntmps29
        go_wp2_with fail
        generalize w.alloc (.cells #[.int .i64 1, .int .i64 R, .int .i64 D, .bool f] 54) = wp at *
        obtain ⟨p, hP⟩ : ∃ p, p = w.heap.size := ⟨_, rfl⟩
        rw [← hP] at hp ⊢
        clear hP
        refine (isref_is _ _ _ _ HI.out).mono ?_
        rintro e w1 ⟨rfl, c_w1⟩
        replace hp := hp.chg c_w1 id
        replace cp := cp.step c_w1 (fun _ _ h => h.elim)
        clear c_w1 
        obtain ⟨p0, p1, p2, p3⟩ := hp.cell4
        go_wp2_with fail
        clear p0 p1 p2 p3
        refine (fits_is _ _ _ hR hM HF.out).mono ?_
        rintro e w2 ⟨rfl, c_w2⟩
        replace hp := hp.chg c_w2 id
        replace cp := cp.step c_w2 (fun _ _ h => h.elim)
        clear c_w2 
        obtain ⟨p0, p1, p2, p3⟩ := hp.cell4
        go_wp2
        go_ret
        exact ⟨ret_bool HE.out.symm, cp⟩
    · by_cases k2 : K = 2
      · subst k2
        clear hI k1
        by_cases r0 : R = 0
        · subst r0
          by_cases d0 : D = 0
          · have HE := hide (show rtB 2 0 D f = true by simp [rtB, d0, isRf])
            subst d0
            have hp := Blk.new w 54 [.int .i64 2, .int .i64 0, .int .i64 0, .bool f]
            have cp := Grow.box w (.cells [.int .i64 2, .int .i64 0, .int .i64 0, .bool f].toArray 54)
            go_enter Try.func29, Try.ntmps29
            go_wp2_with fail
            generalize w.alloc (.cells #[.int .i64 2, .int .i64 0, .int .i64 0, .bool f] 54) = wp at *
            obtain ⟨p, hP⟩ : ∃ p, p = w.heap.size := ⟨_, rfl⟩
            rw [← hP] at hp ⊢
            clear hP
            refine (isref_is _ _ _ _ HI.out).mono ?_
            rintro e w1 ⟨rfl, c_w1⟩
            replace hp := hp.chg c_w1 id
            replace cp := cp.step c_w1 (fun _ _ h => h.elim)
            clear c_w1 
            obtain ⟨p0, p1, p2, p3⟩ := hp.cell4
            go_wp2
            go_ret
            exact ⟨ret_bool HE.out.symm, cp⟩
          · have HE := hide (show rtB 2 0 D f = false by simp [rtB, d0, isRf])
            have d0' : (D == 0) = false := by simpa using d0
            have hp := Blk.new w 54 [.int .i64 2, .int .i64 0, .int .i64 D, .bool f]
            have cp := Grow.box w (.cells [.int .i64 2, .int .i64 0, .int .i64 D, .bool f].toArray 54)
            go_enter Try.func29, Try.ntmps29
            go_wp2_with fail
            generalize w.alloc (.cells #[.int .i64 2, .int .i64 0, .int .i64 D, .bool f] 54) = wp at *
            obtain ⟨p, hP⟩ : ∃ p, p = w.heap.size := ⟨_, rfl⟩
            rw [← hP] at hp ⊢
            clear hP
            refine (isref_is _ _ _ _ HI.out).mono ?_
            rintro e w1 ⟨rfl, c_w1⟩
            replace hp := hp.chg c_w1 id
            replace cp := cp.step c_w1 (fun _ _ h => h.elim)
            clear c_w1 
            obtain ⟨p0, p1, p2, p3⟩ := hp.cell4
            go_wp2
            go_ret
            exact ⟨ret_bool HE.out.symm, cp⟩
        · have HE := hide (show rtB 2 R D f = false by simp [rtB, r0, isRf])
          have r0' : (R == 0) = false := by simpa using r0
          have hp := Blk.new w 54 [.int .i64 2, .int .i64 R, .int .i64 D, .bool f]
          have cp := Grow.box w (.cells [.int .i64 2, .int .i64 R, .int .i64 D, .bool f].toArray 54)
          go_enter Try.func29, Try.ntmps29
          go_wp2_with fail
          generalize w.alloc (.cells #[.int .i64 2, .int .i64 R, .int .i64 D, .bool f] 54) = wp at *
          obtain ⟨p, hP⟩ : ∃ p, p = w.heap.size := ⟨_, rfl⟩
          rw [← hP] at hp ⊢
          clear hP
          refine (isref_is _ _ _ _ HI.out).mono ?_
          rintro e w1 ⟨rfl, c_w1⟩
          replace hp := hp.chg c_w1 id
          replace cp := cp.step c_w1 (fun _ _ h => h.elim)
          clear c_w1 
          obtain ⟨p0, p1, p2, p3⟩ := hp.cell4
          go_wp2
          go_ret
          exact ⟨ret_bool HE.out.symm, cp⟩
      · have HE := hide (show rtB K R D f = false by simp [rtB, hI, k1, k2])
        clear hI
        have hp := Blk.new w 54 [.int .i64 K, .int .i64 R, .int .i64 D, .bool f]
        have cp := Grow.box w (.cells [.int .i64 K, .int .i64 R, .int .i64 D, .bool f].toArray 54)
        go_enter Try.func29, Try.ntmps29
        go_wp2_with fail
        generalize w.alloc (.cells #[.int .i64 K, .int .i64 R, .int .i64 D, .bool f] 54) = wp at *
        obtain ⟨p, hP⟩ : ∃ p, p = w.heap.size := ⟨_, rfl⟩
        rw [← hP] at hp ⊢
        clear hP
        refine (isref_is _ _ _ _ HI.out).mono ?_
        rintro e w1 ⟨rfl, c_w1⟩
        replace hp := hp.chg c_w1 id
        replace cp := cp.step c_w1 (fun _ _ h => h.elim)
        clear c_w1 
        obtain ⟨p0, p1, p2, p3⟩ := hp.cell4
        go_wp2
        go_ret
        exact ⟨ret_bool HE.out.symm, cp⟩
  · have HI := hide hI
    cases hF : fitB R D
    · have HF := hide hF
      have HE := hide (show rtB K R D f = false by simp [rtB, hI, hF])
      clear hI hF
      have hp := Blk.new w 54 [.int .i64 K, .int .i64 R, .int .i64 D, .bool f]
      have cp := Grow.box w (.cells [.int .i64 K, .int .i64 R, .int .i64 D, .bool f].toArray 54)
      go_enter Try.func29, Try.ntmps29
      go_wp2_with fail
      generalize w.alloc (.cells #[.int .i64 K, .int .i64 R, .int .i64 D, .bool f] 54) = wp at *
      obtain ⟨p, hP⟩ : ∃ p, p = w.heap.size := ⟨_, rfl⟩
      rw [← hP] at hp ⊢
      clear hP
      refine (isref_is _ _ _ _ HI.out).mono ?_
      rintro e w1 ⟨rfl, c_w1⟩
      replace hp := hp.chg c_w1 id
      replace cp := cp.step c_w1 (fun _ _ h => h.elim)
      clear c_w1 
      obtain ⟨p0, p1, p2, p3⟩ := hp.cell4
      go_wp2_with fail
      clear p0 p1 p2 p3
      refine (fits_is _ _ _ hR hM HF.out).mono ?_
      rintro e w2 ⟨rfl, c_w2⟩
      replace hp := hp.chg c_w2 id
      replace cp := cp.step c_w2 (fun _ _ h => h.elim)
      clear c_w2 
      obtain ⟨p0, p1, p2, p3⟩ := hp.cell4
      go_wp2
      go_ret
      exact ⟨ret_bool HE.out.symm, cp⟩
    · have HF := hide hF
      by_cases r1 : 1 ≤ R
      · by_cases d2 : 2 ≤ D
        · have HE := hide (show rtB K R D f = !f by simp [rtB, hI, hF, hR, hD, r1, d2])
          clear hI hF
          have hp := Blk.new w 54 [.int .i64 K, .int .i64 R, .int .i64 D, .bool f]
          have cp := Grow.box w (.cells [.int .i64 K, .int .i64 R, .int .i64 D, .bool f].toArray 54)
          go_enter Try.func29, Try.ntmps29
          go_wp2_with fail
          generalize w.alloc (.cells #[.int .i64 K, .int .i64 R, .int .i64 D, .bool f] 54) = wp at *
          obtain ⟨p, hP⟩ : ∃ p, p = w.heap.size := ⟨_, rfl⟩
          rw [← hP] at hp ⊢
          clear hP
          refine (isref_is _ _ _ _ HI.out).mono ?_
          rintro e w1 ⟨rfl, c_w1⟩
          replace hp := hp.chg c_w1 id
          replace cp := cp.step c_w1 (fun _ _ h => h.elim)
          clear c_w1 
          obtain ⟨p0, p1, p2, p3⟩ := hp.cell4
          go_wp2_with fail
          clear p0 p1 p2 p3
          refine (fits_is _ _ _ hR hM HF.out).mono ?_
          rintro e w2 ⟨rfl, c_w2⟩
          replace hp := hp.chg c_w2 id
          replace cp := cp.step c_w2 (fun _ _ h => h.elim)
          clear c_w2 
          obtain ⟨p0, p1, p2, p3⟩ := hp.cell4
          go_wp2
          go_ret
          exact ⟨ret_bool HE.out.symm, cp⟩
        · have HE := hide (show rtB K R D f = false by simp [rtB, d2, hI])
          clear hI hF
          have d2' : decide (2 ≤ D) = false := by simpa using d2
          have hp := Blk.new w 54 [.int .i64 K, .int .i64 R, .int .i64 D, .bool f]
          have cp := Grow.box w (.cells [.int .i64 K, .int .i64 R, .int .i64 D, .bool f].toArray 54)
          go_enter Try.func29, Try.ntmps29
          go_wp2_with fail
          generalize w.alloc (.cells #[.int .i64 K, .int .i64 R, .int .i64 D, .bool f] 54) = wp at *
          obtain ⟨p, hP⟩ : ∃ p, p = w.heap.size := ⟨_, rfl⟩
          rw [← hP] at hp ⊢
          clear hP
          refine (isref_is _ _ _ _ HI.out).mono ?_
          rintro e w1 ⟨rfl, c_w1⟩
          replace hp := hp.chg c_w1 id
          replace cp := cp.step c_w1 (fun _ _ h => h.elim)
          clear c_w1 
          obtain ⟨p0, p1, p2, p3⟩ := hp.cell4
          go_wp2_with fail
          clear p0 p1 p2 p3
          refine (fits_is _ _ _ hR hM HF.out).mono ?_
          rintro e w2 ⟨rfl, c_w2⟩
          replace hp := hp.chg c_w2 id
          replace cp := cp.step c_w2 (fun _ _ h => h.elim)
          clear c_w2 
          obtain ⟨p0, p1, p2, p3⟩ := hp.cell4
          go_wp2
          go_ret
          exact ⟨ret_bool HE.out.symm, cp⟩
      · have HE := hide (show rtB K R D f = false by simp [rtB, r1, hI])
        clear hI hF
        have r1' : decide (1 ≤ R) = false := by simpa using r1
        have hp := Blk.new w 54 [.int .i64 K, .int .i64 R, .int .i64 D, .bool f]
        have cp := Grow.box w (.cells [.int .i64 K, .int .i64 R, .int .i64 D, .bool f].toArray 54)
        go_enter Try.func29, Try.ntmps29
        go_wp2_with fail
        generalize w.alloc (.cells #[.int .i64 K, .int .i64 R, .int .i64 D, .bool f] 54) = wp at *
        obtain ⟨p, hP⟩ : ∃ p, p = w.heap.size := ⟨_, rfl⟩
        rw [← hP] at hp ⊢
        clear hP
        refine (isref_is _ _ _ _ HI.out).mono ?_
        rintro e w1 ⟨rfl, c_w1⟩
        replace hp := hp.chg c_w1 id
        replace cp := cp.step c_w1 (fun _ _ h => h.elim)
        clear c_w1 
        obtain ⟨p0, p1, p2, p3⟩ := hp.cell4
        go_wp2_with fail
        clear p0 p1 p2 p3
        refine (fits_is _ _ _ hR hM HF.out).mono ?_
        rintro e w2 ⟨rfl, c_w2⟩
        replace hp := hp.chg c_w2 id
        replace cp := cp.step c_w2 (fun _ _ h => h.elim)
        clear c_w2 
        obtain ⟨p0, p1, p2, p3⟩ := hp.cell4
        go_wp2
        go_ret
        exact ⟨ret_bool HE.out.symm, cp⟩

theorem right_is {K R D : Int} {f b : Bool} (w : World) (hM : R ≤ 9223372036854775807) (h : rtB K R D f = b) :
    Calls Try.prog 29 #[clV K R D f] w fun e w' => e = .returned (.bool b) ∧ Grow w w' := by
  have h' := right_any K R D f w hM
  rwa [h] at h'
end Go.Proofs.Ytjofdamobnemcaa.L5

/- Classes: what they are as values, can they be, and what Right answers of them. Conditions: a class's references are a number of 64 bits. -/
import Derived.Test.YtogfjclmohpjkaaGreatDoorGrow
import Derived.Test.YtogfjclmohpjkaaGreatDoorOwn
import Derived.Test.YtogfjclmohpjkaaGreatDoorOpen
import Derived.Handy
import Derived.LoopTactic
import Derived.Lib.SliceRun
import Derived.ShutString
namespace Go.Proofs.YtogfjclmohpjkaaGreatDoor.L5
open Go.ChangeShapes Go.WideShapes Go.ChangeAt Go.RowKit
set_option linter.unusedVariables false
set_option maxRecDepth 100000

/-- A class: its kind, its references, its numbers, is it to be finalized. -/
structure Cl where
  k : Int
  r : Int
  d : Int
  f : Bool
abbrev clV (K R D : Int) (f : Bool) : Value := .agg #[.int .i64 K, .int .i64 R, .int .i64 D, .bool f]
def Cl.cells (c : Cl) : List Value := [.int .i64 c.k, .int .i64 c.r, .int .i64 c.d, .bool c.f]
/-- Is it a reference class; do its fields find room; can it be. -/
def isRf (K : Int) : Bool := decide (K = 3 ∨ K = 4 ∨ K = 5)
def fitB (R D : Int) : Bool := decide (R + D ≤ 30)
def rtB (K R D : Int) (f : Bool) : Bool :=
  decide (0 ≤ R) && (decide (0 ≤ D) && (if isRf K then fitB R D && (decide (1 ≤ R) && (decide (2 ≤ D) && !f)) else if K = 1 then fitB R D else if K = 2 then decide (R = 0) && decide (D = 0) else false))
theorem ret_any {a b : Value} (h : a = b) : Ending.returned a = .returned b := by rw [h]

theorem _root_.Go.Proofs.YtogfjclmohpjkaaGreatDoor.Blk.cell4 {w : World} {g : Nat} {t : TypeId} {a b c d : Value} (h : Blk w g t [a, b, c, d]) : w.cell? ⟨g, 0, none⟩ = some a ∧ w.cell? ⟨g, 1, none⟩ = some b ∧ w.cell? ⟨g, 2, none⟩ = some c ∧ w.cell? ⟨g, 3, none⟩ = some d :=
  ⟨h.cell 0, h.cell 1, h.cell 2, h.cell 3⟩

set_option maxHeartbeats 400000 in
theorem isref_any (K R D : Int) (f : Bool) (w : World) :
    Calls Tryz.prog 88 #[clV K R D f] w fun e w' => e = .returned (.bool (isRf K)) ∧ Grow w w' := by
  have HE := hide (show isRf K = (K == 3 || K == 4 || K == 5) by simp [isRf, Bool.beq_eq_decide_eq, ← Bool.decide_or, or_assoc])
  go_enter Tryz.func88, Tryz.ntmps88
  go_wp2
  all_goals
    go_ret
    exact ⟨ret_bool (by rw [HE.out] <;> simp [*]), Grow.box _ _⟩

set_option maxHeartbeats 400000 in
theorem fits_in (K R D : Int) (f : Bool) (w : World) (h0 : 0 ≤ R) (h1 : R ≤ 9223372036854775807) :
    Calls Tryz.prog 89 #[clV K R D f] w fun e w' => e = .returned (.bool (fitB R D)) ∧ Grow w w' := by
  have HE := hide (show fitB R D = decide (D ≤ 30 - R) by simp only [fitB, decide_eq_decide]; omega)
  go_enter Tryz.func89, Tryz.ntmps89
  go_wp2
  go_ret
  exact ⟨ret_bool HE.out.symm, Grow.box _ _⟩
theorem isref_is {K : Int} {b : Bool} (R D : Int) (f : Bool) (w : World) (h : isRf K = b) :
    Calls Tryz.prog 88 #[clV K R D f] w fun e w' => e = .returned (.bool b) ∧ Grow w w' := by
  have h' := isref_any K R D f w
  rwa [h] at h'
theorem fits_is {R D : Int} {b : Bool} (K : Int) (f : Bool) (w : World) (h0 : 0 ≤ R) (h1 : R ≤ 9223372036854775807) (h : fitB R D = b) :
    Calls Tryz.prog 89 #[clV K R D f] w fun e w' => e = .returned (.bool b) ∧ Grow w w' := by
  have h' := fits_in K R D f w h0 h1
  rwa [h] at h'

set_option maxHeartbeats 1000000 in
theorem right_any (K R D : Int) (f : Bool) (w : World) (hM : R ≤ 9223372036854775807) :
    Calls Tryz.prog 58 #[clV K R D f] w fun e w' => e = .returned (.bool (rtB K R D f)) ∧ Grow w w' := by
  by_cases hR : 0 ≤ R
  rotate_left
  · have HE := hide (show rtB K R D f = false by simp [rtB, hR])
    have h' : decide (R < 0) = true := by simp; omega
    go_enter Tryz.func58, Tryz.ntmps58
    go_wp2
    go_ret
    exact ⟨ret_bool HE.out.symm, Grow.box _ _⟩
  have h0 : decide (R < 0) = false := by simp; omega
  by_cases hD : 0 ≤ D
  rotate_left
  · have HE := hide (show rtB K R D f = false by simp [rtB, hD])
    have h' : decide (D < 0) = true := by simp; omega
    go_enter Tryz.func58, Tryz.ntmps58
    go_wp2
    go_ret
    exact ⟨ret_bool HE.out.symm, Grow.box _ _⟩
  have h1 : decide (D < 0) = false := by simp; omega
  cases hI : isRf K
  · have HI := hide hI
    by_cases k1 : K = 1
    · subst k1
      cases hF : fitB R D
      · have HF := hide hF
        have HE := hide (show rtB 1 R D f = false by simp [rtB, hR, hD, hF, isRf])
        clear hI hF
        have hp := Blk.new w 82 [.int .i64 1, .int .i64 R, .int .i64 D, .bool f]
        have cp := Grow.box w (.cells [.int .i64 1, .int .i64 R, .int .i64 D, .bool f].toArray 82)
        go_enter Tryz.func58, Tryz.ntmps58
        go_wp2_with fail
        generalize w.alloc (.cells #[.int .i64 1, .int .i64 R, .int .i64 D, .bool f] 82) = wp at *
        obtain ⟨p, hP⟩ : ∃ p, p = w.heap.size := ⟨_, rfl⟩
        rw [← hP] at hp ⊢
        clear hP
        refine (isref_is _ _ _ _ HI.out).mono ?_
        rintro e w1 ⟨rfl, c_w1⟩
        replace hp := hp.chg c_w1 id
        replace cp := cp.step c_w1 (fun _ _ h => h.elim)
        clear c_w1 
        obtain ⟨p0, p1, p2, p3⟩ := hp.cell4
        go_wp2_with fail
        clear p0 p1 p2 p3
        refine (fits_is _ _ _ hR hM HF.out).mono ?_
        rintro e w2 ⟨rfl, c_w2⟩
        replace hp := hp.chg c_w2 id
        replace cp := cp.step c_w2 (fun _ _ h => h.elim)
        clear c_w2 
        obtain ⟨p0, p1, p2, p3⟩ := hp.cell4
        go_wp2
        go_ret
        exact ⟨ret_bool HE.out.symm, cp⟩
      · have HF := hide hF
        have HE := hide (show rtB 1 R D f = true by simp [rtB, hR, hD, hF, isRf])
        clear hI hF
        have hp := Blk.new w 82 [.int .i64 1, .int .i64 R, .int .i64 D, .bool f]
        have cp := Grow.box w (.cells [.int .i64 1, .int .i64 R, .int .i64 D, .bool f].toArray 82)
        go_enter Tryz.func58, Tryz.ntmps58
        go_wp2_with fail
        generalize w.alloc (.cells #[.int .i64 1, .int .i64 R, .int .i64 D, .bool f] 82) = wp at *
        obtain ⟨p, hP⟩ : ∃ p, p = w.heap.size := ⟨_, rfl⟩
        rw [← hP] at hp ⊢
        clear hP
        refine (isref_is _ _ _ _ HI.out).mono ?_
        rintro e w1 ⟨rfl, c_w1⟩
        replace hp := hp.chg c_w1 id
        replace cp := cp.step c_w1 (fun _ _ h => h.elim)
        clear c_w1 
        obtain ⟨p0, p1, p2, p3⟩ := hp.cell4
        go_wp2_with fail
        clear p0 p1 p2 p3
        refine (fits_is _ _ _ hR hM HF.out).mono ?_
        rintro e w2 ⟨rfl, c_w2⟩
        replace hp := hp.chg c_w2 id
        replace cp := cp.step c_w2 (fun _ _ h => h.elim)
        clear c_w2 
        obtain ⟨p0, p1, p2, p3⟩ := hp.cell4
        go_wp2
        go_ret
        exact ⟨ret_bool HE.out.symm, cp⟩
    · by_cases k2 : K = 2
      · subst k2
        clear hI k1
        by_cases r0 : R = 0
        · subst r0
          by_cases d0 : D = 0
          · have HE := hide (show rtB 2 0 D f = true by simp [rtB, d0, isRf])
            subst d0
            have hp := Blk.new w 82 [.int .i64 2, .int .i64 0, .int .i64 0, .bool f]
            have cp := Grow.box w (.cells [.int .i64 2, .int .i64 0, .int .i64 0, .bool f].toArray 82)
            go_enter Tryz.func58, Tryz.ntmps58
            go_wp2_with fail
            generalize w.alloc (.cells #[.int .i64 2, .int .i64 0, .int .i64 0, .bool f] 82) = wp at *
            obtain ⟨p, hP⟩ : ∃ p, p = w.heap.size := ⟨_, rfl⟩
            rw [← hP] at hp ⊢
            clear hP
            refine (isref_is _ _ _ _ HI.out).mono ?_
            rintro e w1 ⟨rfl, c_w1⟩
            replace hp := hp.chg c_w1 id
            replace cp := cp.step c_w1 (fun _ _ h => h.elim)
            clear c_w1 
            obtain ⟨p0, p1, p2, p3⟩ := hp.cell4
            go_wp2
            go_ret
            exact ⟨ret_bool HE.out.symm, cp⟩
          · have HE := hide (show rtB 2 0 D f = false by simp [rtB, d0, isRf])
            have d0' : (D == 0) = false := by simpa using d0
            have hp := Blk.new w 82 [.int .i64 2, .int .i64 0, .int .i64 D, .bool f]
            have cp := Grow.box w (.cells [.int .i64 2, .int .i64 0, .int .i64 D, .bool f].toArray 82)
            go_enter Tryz.func58, Tryz.ntmps58
            go_wp2_with fail
            generalize w.alloc (.cells #[.int .i64 2, .int .i64 0, .int .i64 D, .bool f] 82) = wp at *
            obtain ⟨p, hP⟩ : ∃ p, p = w.heap.size := ⟨_, rfl⟩
            rw [← hP] at hp ⊢
            clear hP
            refine (isref_is _ _ _ _ HI.out).mono ?_
            rintro e w1 ⟨rfl, c_w1⟩
            replace hp := hp.chg c_w1 id
            replace cp := cp.step c_w1 (fun _ _ h => h.elim)
            clear c_w1 
            obtain ⟨p0, p1, p2, p3⟩ := hp.cell4
            go_wp2
            go_ret
            exact ⟨ret_bool HE.out.symm, cp⟩
        · have HE := hide (show rtB 2 R D f = false by simp [rtB, r0, isRf])
          have r0' : (R == 0) = false := by simpa using r0
          have hp := Blk.new w 82 [.int .i64 2, .int .i64 R, .int .i64 D, .bool f]
          have cp := Grow.box w (.cells [.int .i64 2, .int .i64 R, .int .i64 D, .bool f].toArray 82)
          go_enter Tryz.func58, Tryz.ntmps58
          go_wp2_with fail
          generalize w.alloc (.cells #[.int .i64 2, .int .i64 R, .int .i64 D, .bool f] 82) = wp at *
          obtain ⟨p, hP⟩ : ∃ p, p = w.heap.size := ⟨_, rfl⟩
          rw [← hP] at hp ⊢
          clear hP
          refine (isref_is _ _ _ _ HI.out).mono ?_
          rintro e w1 ⟨rfl, c_w1⟩
          replace hp := hp.chg c_w1 id
          replace cp := cp.step c_w1 (fun _ _ h => h.elim)
          clear c_w1 
          obtain ⟨p0, p1, p2, p3⟩ := hp.cell4
          go_wp2
          go_ret
          exact ⟨ret_bool HE.out.symm, cp⟩
      · have HE := hide (show rtB K R D f = false by simp [rtB, hI, k1, k2])
        clear hI
        have hp := Blk.new w 82 [.int .i64 K, .int .i64 R, .int .i64 D, .bool f]
        have cp := Grow.box w (.cells [.int .i64 K, .int .i64 R, .int .i64 D, .bool f].toArray 82)
        go_enter Tryz.func58, Tryz.ntmps58
        go_wp2_with fail
        generalize w.alloc (.cells #[.int .i64 K, .int .i64 R, .int .i64 D, .bool f] 82) = wp at *
        obtain ⟨p, hP⟩ : ∃ p, p = w.heap.size := ⟨_, rfl⟩
        rw [← hP] at hp ⊢
        clear hP
        refine (isref_is _ _ _ _ HI.out).mono ?_
        rintro e w1 ⟨rfl, c_w1⟩
        replace hp := hp.chg c_w1 id
        replace cp := cp.step c_w1 (fun _ _ h => h.elim)
        clear c_w1 
        obtain ⟨p0, p1, p2, p3⟩ := hp.cell4
        go_wp2
        go_ret
        exact ⟨ret_bool HE.out.symm, cp⟩
  · have HI := hide hI
    cases hF : fitB R D
    · have HF := hide hF
      have HE := hide (show rtB K R D f = false by simp [rtB, hI, hF])
      clear hI hF
      have hp := Blk.new w 82 [.int .i64 K, .int .i64 R, .int .i64 D, .bool f]
      have cp := Grow.box w (.cells [.int .i64 K, .int .i64 R, .int .i64 D, .bool f].toArray 82)
      go_enter Tryz.func58, Tryz.ntmps58
      go_wp2_with fail
      generalize w.alloc (.cells #[.int .i64 K, .int .i64 R, .int .i64 D, .bool f] 82) = wp at *
      obtain ⟨p, hP⟩ : ∃ p, p = w.heap.size := ⟨_, rfl⟩
      rw [← hP] at hp ⊢
      clear hP
      refine (isref_is _ _ _ _ HI.out).mono ?_
      rintro e w1 ⟨rfl, c_w1⟩
      replace hp := hp.chg c_w1 id
      replace cp := cp.step c_w1 (fun _ _ h => h.elim)
      clear c_w1 
      obtain ⟨p0, p1, p2, p3⟩ := hp.cell4
      go_wp2_with fail
      clear p0 p1 p2 p3
      refine (fits_is _ _ _ hR hM HF.out).mono ?_
      rintro e w2 ⟨rfl, c_w2⟩
      replace hp := hp.chg c_w2 id
      replace cp := cp.step c_w2 (fun _ _ h => h.elim)
      clear c_w2 
      obtain ⟨p0, p1, p2, p3⟩ := hp.cell4
      go_wp2
      go_ret
      exact ⟨ret_bool HE.out.symm, cp⟩
    · have HF := hide hF
      by_cases r1 : 1 ≤ R
      · by_cases d2 : 2 ≤ D
        · have HE := hide (show rtB K R D f = !f by simp [rtB, hI, hF, hR, hD, r1, d2])
          clear hI hF
          have hp := Blk.new w 82 [.int .i64 K, .int .i64 R, .int .i64 D, .bool f]
          have cp := Grow.box w (.cells [.int .i64 K, .int .i64 R, .int .i64 D, .bool f].toArray 82)
          go_enter Tryz.func58, Tryz.ntmps58
          go_wp2_with fail
          generalize w.alloc (.cells #[.int .i64 K, .int .i64 R, .int .i64 D, .bool f] 82) = wp at *
          obtain ⟨p, hP⟩ : ∃ p, p = w.heap.size := ⟨_, rfl⟩
          rw [← hP] at hp ⊢
          clear hP
          refine (isref_is _ _ _ _ HI.out).mono ?_
          rintro e w1 ⟨rfl, c_w1⟩
          replace hp := hp.chg c_w1 id
          replace cp := cp.step c_w1 (fun _ _ h => h.elim)
          clear c_w1 
          obtain ⟨p0, p1, p2, p3⟩ := hp.cell4
          go_wp2_with fail
          clear p0 p1 p2 p3
          refine (fits_is _ _ _ hR hM HF.out).mono ?_
          rintro e w2 ⟨rfl, c_w2⟩
          replace hp := hp.chg c_w2 id
          replace cp := cp.step c_w2 (fun _ _ h => h.elim)
          clear c_w2 
          obtain ⟨p0, p1, p2, p3⟩ := hp.cell4
          go_wp2
          go_ret
          exact ⟨ret_bool HE.out.symm, cp⟩
        · have HE := hide (show rtB K R D f = false by simp [rtB, d2, hI])
          clear hI hF
          have d2' : decide (2 ≤ D) = false := by simpa using d2
          have hp := Blk.new w 82 [.int .i64 K, .int .i64 R, .int .i64 D, .bool f]
          have cp := Grow.box w (.cells [.int .i64 K, .int .i64 R, .int .i64 D, .bool f].toArray 82)
          go_enter Tryz.func58, Tryz.ntmps58
          go_wp2_with fail
          generalize w.alloc (.cells #[.int .i64 K, .int .i64 R, .int .i64 D, .bool f] 82) = wp at *
          obtain ⟨p, hP⟩ : ∃ p, p = w.heap.size := ⟨_, rfl⟩
          rw [← hP] at hp ⊢
          clear hP
          refine (isref_is _ _ _ _ HI.out).mono ?_
          rintro e w1 ⟨rfl, c_w1⟩
          replace hp := hp.chg c_w1 id
          replace cp := cp.step c_w1 (fun _ _ h => h.elim)
          clear c_w1 
          obtain ⟨p0, p1, p2, p3⟩ := hp.cell4
          go_wp2_with fail
          clear p0 p1 p2 p3
          refine (fits_is _ _ _ hR hM HF.out).mono ?_
          rintro e w2 ⟨rfl, c_w2⟩
          replace hp := hp.chg c_w2 id
          replace cp := cp.step c_w2 (fun _ _ h => h.elim)
          clear c_w2 
          obtain ⟨p0, p1, p2, p3⟩ := hp.cell4
          go_wp2
          go_ret
          exact ⟨ret_bool HE.out.symm, cp⟩
      · have HE := hide (show rtB K R D f = false by simp [rtB, r1, hI])
        clear hI hF
        have r1' : decide (1 ≤ R) = false := by simpa using r1
        have hp := Blk.new w 82 [.int .i64 K, .int .i64 R, .int .i64 D, .bool f]
        have cp := Grow.box w (.cells [.int .i64 K, .int .i64 R, .int .i64 D, .bool f].toArray 82)
        go_enter Tryz.func58, Tryz.ntmps58
        go_wp2_with fail
        generalize w.alloc (.cells #[.int .i64 K, .int .i64 R, .int .i64 D, .bool f] 82) = wp at *
        obtain ⟨p, hP⟩ : ∃ p, p = w.heap.size := ⟨_, rfl⟩
        rw [← hP] at hp ⊢
        clear hP
        refine (isref_is _ _ _ _ HI.out).mono ?_
        rintro e w1 ⟨rfl, c_w1⟩
        replace hp := hp.chg c_w1 id
        replace cp := cp.step c_w1 (fun _ _ h => h.elim)
        clear c_w1 
        obtain ⟨p0, p1, p2, p3⟩ := hp.cell4
        go_wp2_with fail
        clear p0 p1 p2 p3
        refine (fits_is _ _ _ hR hM HF.out).mono ?_
        rintro e w2 ⟨rfl, c_w2⟩
        replace hp := hp.chg c_w2 id
        replace cp := cp.step c_w2 (fun _ _ h => h.elim)
        clear c_w2 
        obtain ⟨p0, p1, p2, p3⟩ := hp.cell4
        go_wp2
        go_ret
        exact ⟨ret_bool HE.out.symm, cp⟩

theorem right_is {K R D : Int} {f b : Bool} (w : World) (hM : R ≤ 9223372036854775807) (h : rtB K R D f = b) :
    Calls Tryz.prog 58 #[clV K R D f] w fun e w' => e = .returned (.bool b) ∧ Grow w w' := by
  have h' := right_any K R D f w hM
  rwa [h] at h'
end Go.Proofs.YtogfjclmohpjkaaGreatDoor.L5
/- Lists of classes, and what slices.Clone and New make of them. Conditions: at most 100 classes. -/
namespace Go.Proofs.YtogfjclmohpjkaaGreatDoor.L5
open Go.ChangeShapes Go.WideShapes Go.ChangeAt Go.RowKit
set_option linter.unusedVariables false
set_option maxRecDepth 100000

abbrev Cl.v (c : Cl) : Value := clV c.k c.r c.d c.f
def Cl.rt (c : Cl) : Bool := rtB c.k c.r c.d c.f
def c0 : Cl := ⟨0, 0, 0, false⟩
def clCells (l : List Cl) : List Value := l.flatMap Cl.cells
theorem clCells_nil : clCells [] = [] := rfl
theorem clCells_cons (c : Cl) (l : List Cl) : clCells (c :: l) = c.cells ++ clCells l := by simp [clCells]
theorem clCells_length (l : List Cl) : (clCells l).length = l.length * 4 := by
  induction l with
  | nil => rfl
  | cons a l ih => rw [clCells_cons, List.length_append, ih]; simp [Cl.cells]; omega
theorem clCells_at (l : List Cl) (i j : Nat) (c : Cl) (h : l[i]? = some c) (hj : j < 4) : (clCells l)[i * 4 + j]? = c.cells[j]? := by
  induction l generalizing i with
  | nil => simp at h
  | cons p l ih =>
    have hp : p.cells.length = 4 := rfl
    cases i with
    | zero =>
      simp at h
      subst h
      rw [clCells_cons, List.getElem?_append_left (by omega)]
      simp
    | succ i =>
      have := ih i (by simpa using h)
      rw [clCells_cons, List.getElem?_append_right (by omega), hp, show (i + 1) * 4 + j - 4 = i * 4 + j by omega]
      exact this
theorem clCells_one (l : List Cl) : ∀ v ∈ clCells l, v.oneCell' = true := by
  intro v hv
  simp only [clCells, List.mem_flatMap, Cl.cells, List.mem_cons, List.not_mem_nil, or_false] at hv
  obtain ⟨c, _, rfl | rfl | rfl | rfl⟩ := hv <;> rfl

/-- The class cells at a place. -/
def At (w : World) (b o : Nat) (c : Cl) : Prop :=
  w.cell? ⟨b, o, none⟩ = some (.int .i64 c.k) ∧ w.cell? ⟨b, o + 1, none⟩ = some (.int .i64 c.r) ∧ w.cell? ⟨b, o + 2, none⟩ = some (.int .i64 c.d) ∧ w.cell? ⟨b, o + 3, none⟩ = some (.bool c.f)
theorem At.chg {S : Nat → Prop} {w w' : World} {b o : Nat} {c : Cl} (h : At w b o c) (k : Chg S w w') (hs : ¬ S b) : At w' b o c :=
  ⟨k.cell h.1 hs, k.cell h.2.1 hs, k.cell h.2.2.1 hs, k.cell h.2.2.2 hs⟩
theorem At.lt {w : World} {b o : Nat} {c : Cl} (h : At w b o c) : b < w.heap.size := cell_lt h.1

/-- A list of classes that came in, or was made. -/
def IsCls (w : World) (a : Option Addr) (len cap : Nat) (cs : List Cl) : Prop :=
  cs.length = len ∧ len ≤ cap ∧ cap ≤ maxLen ∧ (0 < len → ∃ b off, a = some ⟨b, off, none⟩ ∧ ∀ i c, cs[i]? = some c → At w b (off + i * 4) c) ∧ ∀ c ∈ cs, c.r ≤ 9223372036854775807
theorem IsCls.len {w : World} {a : Option Addr} {len cap : Nat} {cs : List Cl} (h : IsCls w a len cap cs) : cs.length = len := h.1
theorem IsCls.chg {S : Nat → Prop} {w w' : World} {a : Option Addr} {len cap : Nat} {cs : List Cl} (h : IsCls w a len cap cs) (k : Chg S w w') (hs : ∀ i, i < w.heap.size → ¬ S i) : IsCls w' a len cap cs := by
  obtain ⟨h1, h2, h3, h4, h5⟩ := h
  refine ⟨h1, h2, h3, fun hl => ?_, h5⟩
  obtain ⟨b, off, rfl, hx⟩ := h4 hl
  refine ⟨b, off, rfl, fun i c hc => ?_⟩
  exact (hx i c hc).chg k (hs _ (hx i c hc).lt)
theorem IsCls.at_ {w : World} {a : Option Addr} {len cap : Nat} {cs : List Cl} (h : IsCls w a len cap cs) {i : Nat} (hi : i < len) :
    ∃ b off c, a = some ⟨b, off, none⟩ ∧ cs[i]? = some c ∧ At w b (off + i * 4) c ∧ c.r ≤ 9223372036854775807 := by
  obtain ⟨h1, h2, h3, h4, h5⟩ := h
  obtain ⟨b, off, rfl, hx⟩ := h4 (by omega)
  have hc : cs[i]? = some (cs[i]'(by omega)) := List.getElem?_eq_getElem _
  exact ⟨b, off, _, rfl, hc, hx i _ hc, h5 _ (List.getElem_mem _)⟩
theorem IsCls.cells {w : World} {a : Option Addr} {len cap : Nat} {cs : List Cl} (h : IsCls w a len cap cs) {x : Addr} (ha : a = some x) : ∀ j u, (clCells cs)[j]? = some u → w.cell? (x.add j) = some u := by
  intro j u hu
  have hj : j < cs.length * 4 := by have := (List.getElem?_eq_some_iff.1 hu).1; rwa [clCells_length] at this
  have hq : j / 4 < len := by have := h.1; omega
  obtain ⟨b, off, c, ha', hc, ⟨e0, e1, e2, e3⟩, _⟩ := h.at_ hq
  rw [ha] at ha'
  injection ha' with ha'
  subst ha'
  have hm : j % 4 < 4 := Nat.mod_lt _ (by decide)
  have := clCells_at cs (j / 4) (j % 4) c hc hm
  rw [show j / 4 * 4 + j % 4 = j by omega, hu] at this
  rw [addr_add, show off + j = off + j / 4 * 4 + j % 4 by omega]
  match hr : j % 4, hm with
  | 0, _ => rw [hr] at this; simp [Cl.cells] at this; subst this; exact e0
  | 1, _ => rw [hr] at this; simp [Cl.cells] at this; subst this; exact e1
  | 2, _ => rw [hr] at this; simp [Cl.cells] at this; subst this; exact e2
  | 3, _ => rw [hr] at this; simp [Cl.cells] at this; subst this; exact e3
theorem IsCls.one {w : World} {g : Nat} {c : Cl} (h : Blk w g 82 [.int .i64 c.k, .int .i64 c.r, .int .i64 c.d, .bool c.f]) (hc : c.r ≤ 9223372036854775807) : IsCls w (some ⟨g, 0, none⟩) 1 1 [c] := by
  refine ⟨rfl, Nat.le_refl _, by simp [maxLen], fun _ => ⟨g, 0, rfl, fun i x hx => ?_⟩, by simpa using hc⟩
  cases i with
  | zero =>
    simp at hx
    subst hx
    exact ⟨h.cell 0, h.cell 1, h.cell 2, h.cell 3⟩
  | succ i => simp at hx
theorem fits_cl {cs : List Value} (h : fits [some .i64, some .i64, some .i64, none] cs) : ∃ c : Cl, cs = [.int .i64 c.k, .int .i64 c.r, .int .i64 c.d, .bool c.f] ∧ c.r ≤ 9223372036854775807 := by
  obtain ⟨K, c1, rfl, hK, h1⟩ := fits_int h
  obtain ⟨R, c2, rfl, hR, h2⟩ := fits_int h1
  obtain ⟨D, c3, rfl, hD, h3⟩ := fits_int h2
  obtain ⟨f, c4, rfl, h4⟩ := fits_bool h3
  obtain rfl := fits_nil h4
  exact ⟨⟨K, R, D, f⟩, rfl, (bounds_i64 hR).2⟩
theorem _root_.Go.Proofs.YtogfjclmohpjkaaGreatDoor.IsRecs.cls {w : World} {a : Option Addr} {len cap : Nat} {rows : List (List Value)} (h : IsRecs [some .i64, some .i64, some .i64, none] w a len cap rows) : ∃ cs, IsCls w a len cap cs := by
  obtain ⟨h1, h2, h3, h4, h5⟩ := h
  obtain ⟨cs, hl, hq⟩ := list_of (fun i (c : Cl) => rows.getD i [] = [.int .i64 c.k, .int .i64 c.r, .int .i64 c.d, .bool c.f] ∧ c.r ≤ 9223372036854775807) c0 len (fun i hi => fits_cl (h5 i hi))
  refine ⟨cs, hl, h2, h3, fun h0 => ?_, fun c hc => ?_⟩
  · obtain ⟨b, off, rfl, hx⟩ := h4 h0
    refine ⟨b, off, rfl, fun i c hc => ?_⟩
    have hi : i < len := by rw [← hl]; exact (List.getElem?_eq_some_iff.1 hc).1
    obtain ⟨e, _⟩ := hq i hi
    rw [show cs.getD i c0 = c by rw [List.getD_eq_getElem?_getD, hc]; rfl] at e
    have hx' := hx i hi
    rw [e] at hx'
    exact ⟨hx' 0 _ rfl, hx' 1 _ rfl, hx' 2 _ rfl, hx' 3 _ rfl⟩
  · obtain ⟨i, hi, rfl⟩ := List.getElem_of_mem hc
    have := (hq i (by omega)).2
    simpa [List.getD_eq_getElem?_getD, hi] using this

theorem Tryz.infoCl : (Tryz.prog.info? 82).map (fun i => (i.zero, i.size, i.bytes)) = some (some (clV 0 0 0 false), 4, 32) := by kernel_rfl

set_option maxHeartbeats 1000000 in
theorem clone_any (a : Option Addr) (len cap : Nat) (cs : List Cl) (w : World) (h : IsCls w a len cap cs) (hl : len ≤ 100) :
    Calls Tryz.prog 59 #[.slice a len cap] w fun e w' => ∃ v, e = .returned v ∧ w'.ownsRow w.heap.size 82 4 v cs.length (clCells cs) ∧ Grow w w' := by
  have H := hide h
  clear h
  have q : ∀ (w : World) (a : Option Addr) (n c n' c' : Nat), (binOp .eql 22 (.slice a n c) (.slice none n' c')).run Tryz.prog w = .ok (.bool a.isNone) w := fun w a n c n' c' => Lib.run_eql_slice_nil w _ _ a n c n' c' Tryz.underlying22
  cases a with
  | none =>
    have h0 : len = 0 := by
      rcases Nat.eq_zero_or_pos len with h | h
      · exact h
      · obtain ⟨b, off, c, h', _⟩ := H.out.at_ h
        cases h'
    subst h0
    have hc : cs = [] := List.eq_nil_of_length_eq_zero H.out.1
    subst hc
    go_enter Tryz.func59, Tryz.ntmps59
    go_wp2
    go_ret
    exact ⟨_, rfl, World.ownsRow_nil _ _ _ _, Chg.refl _ _⟩
  | some x =>
    obtain ⟨i0, hi0, hz0, hz1, hz2⟩ := info_parts Tryz.infoCl
    have HI := hide hi0
    have HZ0 := hide hz0
    have HZ1 := hide hz1
    have HZ2 := hide hz2
    clear hi0 hz0 hz1 hz2
    have HO := hide (World.ownsRow_lit (e := 82) (size := 4) (base := w.heap.size) w #[] 0 (Nat.le_refl _) (by simp [maxLen]) rfl)
    have HC := hide (H.out.cells rfl)
    have hlen := H.out.len
    go_enter Tryz.func59, Tryz.ntmps59
    go_wp2_with (at_builtin; refine wpList_append_own _ rfl _ _ 22 rfl w.heap.size 82 i0 (clV 0 0 0 false) 4 32 Tryz.underlying22 HI.out HZ0.out HZ1.out HZ2.out rfl (by decide) _ _ _ rfl HO.out x len cap (clCells cs) rfl ?q0 ?c1 ?c2 ?c3 ?c4 ?c5 ?_)
    case q0 => rw [clCells_length, hlen]
    case c1 => intro j u hj; exact Grow.cell (Grow.box _ _) (HC.out j u hj)
    case c2 => exact clCells_one cs
    case c3 => unfold maxLen; omega
    case c4 => omega
    intro v' w3 hown3 hgrow _
    have c3 := Chg.grownOwn (Grow.box w (.cells [].toArray 82)) HO.out (Nat.le_refl _) hgrow
    have HO3 := hide hown3
    clear hown3 hgrow HC HO
    go_wp2
    go_ret
    refine ⟨_, rfl, ?_, c3⟩
    have := HO3.out
    rw [hlen]
    simpa using this

/-- What New answers: the error's number. -/
def newX (cs : List Cl) : Int := if cs.all Cl.rt then (if cs.length < 64 then 0 else 3) else 1
/-- A table of these classes, at a pointer: v is the list that it holds. -/
def Tb (w : World) (base : Nat) (p : Option Addr) (v : Value) (cs : List Cl) : Prop :=
  w.ownsRow base 82 4 v cs.length (clCells cs) ∧ ((p = none ∧ v = .slice none 0 0) ∨ ∃ g, p = some ⟨g, 0, none⟩ ∧ base ≤ g ∧ Blk w g 115 [v])
def NewPost (cs : List Cl) (w : World) (e : Ending) (w' : World) : Prop :=
  Grow w w' ∧ ((newX cs = 0 ∧ ∃ g v, e = .returned (.tuple #[.pointer (some ⟨g, 0, none⟩), .int .i64 0]) ∧ Tb w' w.heap.size (some ⟨g, 0, none⟩) v cs) ∨ (newX cs ≠ 0 ∧ e = .returned (.tuple #[.pointer none, .int .i64 (newX cs)])))
theorem newX_no {cs : List Cl} {i : Nat} {c : Cl} (h : cs[i]? = some c) (hr : c.rt = false) : newX cs = 1 := by
  have : cs.all Cl.rt = false := by
    rw [List.all_eq_false]
    exact ⟨c, List.mem_of_getElem? h, by simp [hr]⟩
  simp [newX, this]
theorem all_of {cs : List Cl} (h : ∀ i, i < cs.length → ∀ c, cs[i]? = some c → c.rt = true) : cs.all Cl.rt = true := by
  rw [List.all_eq_true]
  intro c hc
  obtain ⟨i, hi, rfl⟩ := List.getElem_of_mem hc
  exact h i hi _ (List.getElem?_eq_getElem hi)

theorem own_base {w : World} {b b' : Nat} {e : TypeId} {size : Nat} {v : Value} {n : Nat} {xs : List Value} (h : w.ownsRow b e size v n xs) (hb : b' ≤ b) : w.ownsRow b' e size v n xs := by
  obtain ⟨h1, h2⟩ := h
  refine ⟨h1, ?_⟩
  rcases h2 with h2 | ⟨g, cap, cur, rfl, h3, h4⟩
  · exact .inl h2
  · exact .inr ⟨g, cap, cur, rfl, Nat.le_trans hb h3, h4⟩

set_option maxHeartbeats 2000000 in
set_option maxRecDepth 100000 in
theorem new_any (a : Option Addr) (len cap : Nat) (cs : List Cl) (w : World) (h : IsCls w a len cap cs) (hl : len ≤ 100) :
    Calls Tryz.prog 27 #[.slice a len cap] w (NewPost cs w) := by
  have H := hide h
  have HL := hide h.len
  clear h
  go_enter Tryz.func27, Tryz.ntmps27
  go_wp2
  go_loopw [8] (fun i wr => ∃ k : Nat, k ≤ len ∧ i = .int .i64 k ∧ (∀ i, i < k → ∀ c, cs[i]? = some c → c.rt = true) ∧ Grow w wr) (fun i _ => len - (intOf i).toNat)
  case atStart => exact ⟨0, Nat.zero_le _, rfl, fun i hi => absurd hi (by omega), Chg.refl _ _⟩
  case round =>
    obtain ⟨k, hk, rfl, hall, cc⟩ := hrel
    by_cases hlt : k < len
    · obtain ⟨b, off, c, rfl, hc, ⟨e0, e1, e2, e3⟩, hM⟩ := (H.out.chg cc (fun i hi => id)).at_ hlt
      obtain ⟨K, R, D, f⟩ := c
      have HA := hide hall
      clear hall
      dsimp only at e0 e1 e2 e3 hM
      have hx := Blk.new wr 82 [.int .i64 K, .int .i64 R, .int .i64 D, .bool f]
      replace cc := cc.alloc (.cells [.int .i64 K, .int .i64 R, .int .i64 D, .bool f].toArray 82)
      cases hr : rtB K R D f
      · have HX := hide (newX_no hc hr)
        have HR := hide hr
        clear hr hc
        go_wp2_with fail
        clear e0 e1 e2 e3
        refine (right_is _ hM HR.out).mono ?_
        rintro e w1 ⟨rfl, c_w1⟩
        replace hx := hx.chg c_w1 id
        replace cc := cc.step c_w1 (fun _ _ h => h.elim)
        clear c_w1 
        go_wp2
        go_returns
        exact ⟨cc, .inr ⟨by rw [HX.out]; decide, by rw [HX.out]; rfl⟩⟩
      · have HX := hide (show ∀ i, i < k + 1 → ∀ c, cs[i]? = some c → c.rt = true by
          intro i hi c hci
          rcases Nat.lt_or_ge i k with h | h
          · exact HA.out i h c hci
          · obtain rfl : i = k := by omega
            rw [hc] at hci
            injection hci with hci
            subst hci
            exact hr)
        have HR := hide hr
        clear hr hc
        go_wp2_with fail
        clear e0 e1 e2 e3
        refine (right_is _ hM HR.out).mono ?_
        rintro e w1 ⟨rfl, c_w1⟩
        replace hx := hx.chg c_w1 id
        replace cc := cc.step c_w1 (fun _ _ h => h.elim)
        clear c_w1 
        go_wp2
        go_roundw
        case rel => exact ⟨k + 1, by omega, by go_num, HX.out, cc⟩
        case measure => simp [intOf]; omega
    · obtain rfl : k = len := by omega
      have HA := hide (all_of (by rw [HL.out]; exact hall))
      clear hall
      by_cases h64 : k < 64
      · have h64' : decide ((k : Int) ≥ 64) = false := by simp; omega
        have HX := hide (show newX cs = 0 by simp [newX, HA.out, HL.out, h64])
        go_wp2_with fail
        refine (clone_any a k cap cs _ (H.out.chg cc (fun i hi => id)) hl).mono ?_
        rintro e w1 ⟨v, rfl, ho, c1⟩
        obtain ⟨xa, xc, rfl⟩ := own_len ho
        have hb : w.heap.size ≤ wr.heap.size := cc.size
        have hg : w.heap.size ≤ w1.heap.size := Nat.le_trans hb c1.size
        replace cc := (cc.trans c1).alloc (.cells [.slice xa cs.length xc].toArray 115)
        have hp := Blk.new w1 115 [.slice xa cs.length xc]
        have ho' := (own_base ho hb).alloc (.cells [.slice xa cs.length xc].toArray 115)
        have HO := hide ho'
        have HP := hide hp
        clear ho ho' hp c1 hb
        go_wp2
        go_returns
        exact ⟨cc, .inl ⟨HX.out, w1.heap.size, .slice xa cs.length xc, rfl, HO.out, .inr ⟨_, rfl, hg, HP.out⟩⟩⟩
      · have h64' : decide ((k : Int) ≥ 64) = true := by simp; omega
        have HX := hide (show newX cs = 3 by simp [newX, HA.out, HL.out, h64])
        go_wp2
        go_returns
        exact ⟨cc, .inr ⟨by rw [HX.out]; decide, by rw [HX.out]; rfl⟩⟩
end Go.Proofs.YtogfjclmohpjkaaGreatDoor.L5
/- What Len and Of of a table answer; they change nothing but make new memory. Conditions: the table has fewer than 64 classes. -/
namespace Go.Proofs.YtogfjclmohpjkaaGreatDoor.L5
open Go.ChangeShapes Go.WideShapes Go.ChangeAt Go.RowKit
set_option linter.unusedVariables false
set_option maxRecDepth 100000

section
variable {w w' : World} {base : Nat} {p : Option Addr} {v : Value} {cs : List Cl}
theorem Tb.grow (h : Tb w base p v cs) (c : Grow w w') : Tb w' base p v cs := by
  obtain ⟨h1, h2⟩ := h
  refine ⟨own_grow h1 c, ?_⟩
  rcases h2 with h2 | ⟨g, e, hb, hg⟩
  · exact .inl h2
  · exact .inr ⟨g, e, hb, hg.chg c id⟩
/-- Blocks below the table's own are no matter. -/
theorem Tb.chg {S : Nat → Prop} (h : Tb w base p v cs) (c : Chg S w w') (hs : ∀ i, S i → i < base) : Tb w' base p v cs := by
  obtain ⟨h1, h2⟩ := h
  refine ⟨own_chg h1 c (fun k hk hS => ?_), ?_⟩
  · have := (h1.lt k hk).1
    have := hs k hS
    omega
  · rcases h2 with h2 | ⟨g, e, hb, hg⟩
    · exact .inl h2
    · exact .inr ⟨g, e, hb, hg.chg c (fun hS => by have := hs g hS; omega)⟩
theorem Tb.nil (w : World) (base : Nat) : Tb w base none (.slice none 0 0) [] := ⟨World.ownsRow_nil _ _ _ _, .inl ⟨rfl, rfl⟩⟩
theorem own_two {w : World} {base size n cap : Nat} {e : TypeId} {a : Option Addr} {xs : List Value} (h : w.ownsRow base e size (.slice a n cap) n xs) (hn : 0 < n) : ∃ g, a = some ⟨g, 0, none⟩ ∧ g < w.heap.size ∧ n ≤ cap ∧ cap ≤ maxLen := by
  obtain ⟨g, c, hv, _, h1, h2, h3⟩ := own_form h hn
  injection hv with e1 e2 e3
  subst e3
  exact ⟨g, e1, h1, h2, h3⟩
theorem Tb.at_ {xa : Option Addr} {xc : Nat} (h : Tb w base p (.slice xa cs.length xc) cs) {k : Nat} {c : Cl} (hc : cs[k]? = some c) : ∃ g, xa = some ⟨g, 0, none⟩ ∧ At w g (k * 4) c := by
  have hk : k < cs.length := (List.getElem?_eq_some_iff.1 hc).1
  obtain ⟨g, rfl, _⟩ := own_two h.1 (by omega)
  refine ⟨g, rfl, ?_⟩
  have a0 := clCells_at cs k 0 c hc (by decide)
  have a1 := clCells_at cs k 1 c hc (by decide)
  have a2 := clCells_at cs k 2 c hc (by decide)
  have a3 := clCells_at cs k 3 c hc (by decide)
  refine ⟨?_, ?_, ?_, ?_⟩
  · rw [h.1.cellAt _ (by omega)]; exact a0
  · rw [h.1.cellAt _ (by omega)]; exact a1
  · rw [h.1.cellAt _ (by omega)]; exact a2
  · rw [h.1.cellAt _ (by omega)]; exact a3

set_option maxHeartbeats 400000 in
theorem all_any (h : Tb w base p v cs) :
    Calls Tryz.prog 115 #[.pointer p] w fun e w' => e = .returned v ∧ w = w' := by
  obtain ⟨xa, xc, rfl⟩ := own_len h.1
  obtain ⟨h1, ⟨rfl, h2⟩ | ⟨g, rfl, hb, hg⟩⟩ := h
  · rw [h2]
    clear h1 h2
    go_enter Tryz.func115, Tryz.ntmps115
    go_wp2
    go_ret
    exact ⟨rfl, rfl⟩
  · have g0 : w.cell? ⟨g, 0, none⟩ = some (.slice xa cs.length xc) := hg.cell 0
    clear h1 hg
    go_enter Tryz.func115, Tryz.ntmps115
    go_wp2
    go_ret
    exact ⟨rfl, rfl⟩
set_option maxHeartbeats 400000 in
theorem len_any (h : Tb w base p v cs) :
    Calls Tryz.prog 114 #[.pointer p] w fun e w' => e = .returned (.int .i64 cs.length) ∧ w = w' := by
  obtain ⟨xa, xc, rfl⟩ := own_len h.1
  have H := hide h
  clear h
  go_enter Tryz.func114, Tryz.ntmps114
  go_wp2_with (go_at_call 115; refine (all_any H.out).mono ?_; rintro e w' ⟨rfl, rfl⟩)
  go_ret
  exact ⟨rfl, rfl⟩
end

set_option maxHeartbeats 1000000 in
theorem of_out {w : World} {base : Nat} {p : Option Addr} {v : Value} {cs : List Cl} {n : Int} (h : Tb w base p v cs) (hn : n < 1 ∨ (cs.length : Int) < n) :
    Calls Tryz.prog 92 #[.pointer p, .int .i64 n] w fun e w' => e = .returned (.tuple #[clV 0 0 0 false, .int .i64 4]) ∧ Grow w w' := by
  by_cases h1 : n < 1
  · clear hn
    have HT := hide (h.grow (Grow.box w (.cells [.int .i64 0, .int .i64 0, .int .i64 0, .bool false].toArray 82)))
    clear h
    go_enter Tryz.func92, Tryz.ntmps92
    go_wp2_with (first | (go_at_call 114; refine (len_any HT.out).mono ?_; rintro e w' ⟨rfl, rfl⟩) | (go_at_call 115; refine (all_any HT.out).mono ?_; rintro e w' ⟨rfl, rfl⟩))
    refine bodyPost_ret (v := .tuple #[clV 0 0 0 false, .int .i64 4]) (by simp [results, Tryz.results92, go_sem]) rfl ?_
    exact ⟨rfl, Grow.box _ _⟩
  · have h1' : decide (n < 1) = false := by simpa using h1
    have h2 : (cs.length : Int) < n := by omega
    have h2' : decide ((cs.length : Int) < n) = true := by simpa using h2
    clear hn h2 h1
    have HT := hide (h.grow (Grow.box w (.cells [.int .i64 0, .int .i64 0, .int .i64 0, .bool false].toArray 82)))
    clear h
    go_enter Tryz.func92, Tryz.ntmps92
    go_wp2_with (first | (go_at_call 114; refine (len_any HT.out).mono ?_; rintro e w' ⟨rfl, rfl⟩) | (go_at_call 115; refine (all_any HT.out).mono ?_; rintro e w' ⟨rfl, rfl⟩))
    refine bodyPost_ret (v := .tuple #[clV 0 0 0 false, .int .i64 4]) (by simp [results, Tryz.results92, go_sem]) rfl ?_
    exact ⟨rfl, Grow.box _ _⟩
set_option maxHeartbeats 1000000 in
theorem of_in {w : World} {base : Nat} {p : Option Addr} {v : Value} {cs : List Cl} {n : Int} {k : Nat} {c : Cl} (h : Tb w base p v cs) (hl : cs.length ≤ 100) (hc : cs[k]? = some c) (hn : n = k + 1) :
    Calls Tryz.prog 92 #[.pointer p, .int .i64 n] w fun e w' => e = .returned (.tuple #[c.v, .int .i64 0]) ∧ Grow w w' := by
  subst hn
  have hk : k < cs.length := (List.getElem?_eq_some_iff.1 hc).1
  have h1' : decide ((k : Int) + 1 < 1) = false := by simp; omega
  have h2' : decide ((cs.length : Int) < (k : Int) + 1) = false := by simp; omega
  obtain ⟨xa, xc, rfl⟩ := own_len h.1
  obtain ⟨g, rfl, a0⟩ := h.at_ hc
  obtain ⟨e0, e1, e2, e3⟩ := a0.chg (Grow.box w (.cells [.int .i64 0, .int .i64 0, .int .i64 0, .bool false].toArray 82)) id
  clear a0 hc
  obtain ⟨K, R, D, f⟩ := c
  dsimp only at e0 e1 e2 e3
  have HT := hide (h.grow (Grow.box w (.cells [.int .i64 0, .int .i64 0, .int .i64 0, .bool false].toArray 82)))
  clear h
  go_enter Tryz.func92, Tryz.ntmps92
  go_wp2_with (first | (go_at_call 114; refine (len_any HT.out).mono ?_; rintro e w' ⟨rfl, rfl⟩) | (go_at_call 115; refine (all_any HT.out).mono ?_; rintro e w' ⟨rfl, rfl⟩))
  refine bodyPost_ret (v := .tuple #[clV K R D f, .int .i64 0]) (by simp [results, Tryz.results92, go_sem]) rfl ?_
  exact ⟨rfl, Grow.box _ _⟩
end Go.Proofs.YtogfjclmohpjkaaGreatDoor.L5
/- The answers of a table of classes as numbers. Conditions: none; nothing here speaks of the program. -/
namespace Go.Proofs.YtogfjclmohpjkaaGreatDoor.L5
open Go.ChangeShapes Go.WideShapes Go.ChangeAt Go.RowKit
set_option linter.unusedVariables false
set_option maxRecDepth 100000

/-- The class of a number; what Shape, Words and Holds answer of it. -/
def clAt (cs : List Cl) (n : Int) : Option Cl := if 1 ≤ n then cs[(n - 1).toNat]? else none
def shX (o : Option Cl) (l : Int) : Int := match o with
  | none => 4
  | some c => if l < 0 ∨ (0 < l ∧ c.k ≠ 2) then 1 else if 30 < l then 8 else 0
def shR (o : Option Cl) (l : Int) : Int := match o with
  | none => 0
  | some c => if shX (some c) l = 0 then c.r + l else 0
def shD (o : Option Cl) (l : Int) : Int := match o with
  | none => 0
  | some c => if shX (some c) l = 0 then c.d else 0
def woV (o : Option Cl) (l : Int) : Int := if shX o l = 0 then 2 + shR o l + shD o l else 0
def hoB (o : Option Cl) (f : Int) : Bool := match o with
  | none => false
  | some c => decide (0 ≤ f) && (decide (0 < f) || !isRf c.k)
theorem clAt_none {cs : List Cl} {n : Int} (h : clAt cs n = none) : n < 1 ∨ (cs.length : Int) < n := by
  unfold clAt at h
  split at h
  · rw [List.getElem?_eq_none_iff] at h; omega
  · omega
theorem clAt_some {cs : List Cl} {n : Int} {c : Cl} (h : clAt cs n = some c) : ∃ k : Nat, n = k + 1 ∧ k < cs.length ∧ cs[k]? = some c := by
  unfold clAt at h
  split at h
  · exact ⟨(n - 1).toNat, by omega, (List.getElem?_eq_some_iff.1 h).1, h⟩
  · cases h
theorem clAt_at {cs : List Cl} {k : Nat} {c : Cl} (h : cs[k]? = some c) : clAt cs ((k : Int) + 1) = some c := by
  have e : ((k : Int) + 1 - 1).toNat = k := by omega
  unfold clAt
  rw [if_pos (by omega), e, h]
theorem clAt_out {cs : List Cl} {n : Int} (h : n < 1 ∨ (cs.length : Int) < n) : clAt cs n = none := by
  unfold clAt
  split
  · rw [List.getElem?_eq_none_iff]; omega
  · rfl
/-- What is so of a class that can be. -/
theorem rt_bd {K R D : Int} {f : Bool} (h : rtB K R D f = true) : 0 ≤ R ∧ R ≤ 30 ∧ 0 ≤ D ∧ D ≤ 30 ∧ R + D ≤ 30 ∧ (K = 2 → R = 0 ∧ D = 0) ∧ (K = 1 ∨ K = 2 ∨ K = 3 ∨ K = 4 ∨ K = 5) := by
  unfold rtB fitB at h
  by_cases h3 : isRf K = true
  · rw [if_pos h3] at h
    simp at h
    have h3' : K = 3 ∨ K = 4 ∨ K = 5 := by simpa [isRf] using h3
    omega
  · rw [if_neg h3] at h
    by_cases h1 : K = 1
    · rw [if_pos h1] at h; simp at h; omega
    · rw [if_neg h1] at h
      by_cases h2 : K = 2
      · rw [if_pos h2] at h; simp at h; omega
      · rw [if_neg h2] at h; simp at h
theorem all_rt {cs : List Cl} (h : cs.all Cl.rt = true) {k : Nat} {c : Cl} (hc : cs[k]? = some c) : rtB c.k c.r c.d c.f = true :=
  List.all_eq_true.1 h c (List.mem_of_getElem? hc)
theorem clAt_rt {cs : List Cl} (h : cs.all Cl.rt = true) {n : Int} {c : Cl} (hc : clAt cs n = some c) : rtB c.k c.r c.d c.f = true := by
  obtain ⟨k, _, _, hk⟩ := clAt_some hc
  exact all_rt h hk
theorem new_zero {cs : List Cl} (h : newX cs = 0) : cs.all Cl.rt = true ∧ cs.length < 64 := by
  unfold newX at h
  split at h
  · split at h
    · exact ⟨‹_›, ‹_›⟩
    · exact absurd h (by decide)
  · exact absurd h (by decide)
/-- How great the answers are. -/
theorem sh_bd {o : Option Cl} (h : ∀ c, o = some c → rtB c.k c.r c.d c.f = true) (l : Int) : 0 ≤ shR o l ∧ shR o l ≤ 30 ∧ 0 ≤ shD o l ∧ shD o l ≤ 30 ∧ shR o l + shD o l ≤ 30 := by
  cases o with
  | none => simp [shR, shD]
  | some c =>
    have := rt_bd (h c rfl)
    simp only [shR, shD]
    by_cases hX : shX (some c) l = 0
    · rw [if_pos hX, if_pos hX]
      simp only [shX] at hX
      split at hX
      · omega
      · split at hX <;> omega
    · rw [if_neg hX, if_neg hX]; omega
end Go.Proofs.YtogfjclmohpjkaaGreatDoor.L5
/- What Shape, Words and Holds of a table answer; they change nothing but make new memory. Conditions: the table's classes can be; there are at most 100. -/
namespace Go.Proofs.YtogfjclmohpjkaaGreatDoor.L5
open Go.ChangeShapes Go.WideShapes Go.ChangeAt Go.RowKit
set_option linter.unusedVariables false
set_option maxRecDepth 100000

section
variable {w : World} {base : Nat} {p : Option Addr} {v : Value} {cs : List Cl} {n l : Int}
set_option maxHeartbeats 1000000 in
theorem shape_none (h : Tb w base p v cs) (hn : clAt cs n = none) :
    Calls Tryz.prog 113 #[.pointer p, .int .i64 n, .int .i64 l] w fun e w' => e = .returned (.tuple #[.int .i64 0, .int .i64 0, .int .i64 4]) ∧ Grow w w' := by
  have H := hide h
  have HN := hide (clAt_none hn)
  clear h hn
  go_enter Tryz.func113, Tryz.ntmps113
  go_wp2_with fail
  refine (of_out H.out HN.out).mono ?_
  rintro e w1 ⟨rfl, c1⟩
  go_wp2
  go_returns
  exact ⟨rfl, c1.alloc _⟩
set_option maxHeartbeats 1000000 in
theorem shape_arg {c : Cl} (h : Tb w base p v cs) (hl : cs.length ≤ 100) (hn : clAt cs n = some c) (ha : l < 0 ∨ (0 < l ∧ c.k ≠ 2)) :
    Calls Tryz.prog 113 #[.pointer p, .int .i64 n, .int .i64 l] w fun e w' => e = .returned (.tuple #[.int .i64 0, .int .i64 0, .int .i64 1]) ∧ Grow w w' := by
  by_cases h0 : l < 0
  · clear ha
    obtain ⟨k, hk, hkl, hc⟩ := clAt_some hn
    have H := hide h
    have HC := hide hc
    have HK := hide hk
    obtain ⟨K, R, D, f⟩ := c
    clear h hn hc hk
    try dsimp only at *
    go_enter Tryz.func113, Tryz.ntmps113
    go_wp2_with fail
    refine (of_in H.out hl HC.out HK.out).mono ?_
    rintro e w1 ⟨rfl, c1⟩
    go_wp2
    go_returns
    exact ⟨rfl, c1.alloc _⟩
  · have h0' : decide (l < 0) = false := by simpa using h0
    have h1 : 0 < l ∧ c.k ≠ 2 := by omega
    obtain ⟨h1, h2⟩ := h1
    have h2' : (c.k == 2) = false := by simpa using h2
    clear ha
    obtain ⟨k, hk, hkl, hc⟩ := clAt_some hn
    have H := hide h
    have HC := hide hc
    have HK := hide hk
    obtain ⟨K, R, D, f⟩ := c
    clear h hn hc hk
    try dsimp only at *
    go_enter Tryz.func113, Tryz.ntmps113
    go_wp2_with fail
    refine (of_in H.out hl HC.out HK.out).mono ?_
    rintro e w1 ⟨rfl, c1⟩
    go_wp2
    go_returns
    exact ⟨rfl, c1.alloc _⟩
set_option maxHeartbeats 1000000 in
theorem shape_large {c : Cl} (h : Tb w base p v cs) (hl : cs.length ≤ 100) (hn : clAt cs n = some c) (h2 : c.k = 2) (h3 : 30 < l) :
    Calls Tryz.prog 113 #[.pointer p, .int .i64 n, .int .i64 l] w fun e w' => e = .returned (.tuple #[.int .i64 0, .int .i64 0, .int .i64 8]) ∧ Grow w w' := by
  have h0' : decide (l < 0) = false := by simp; omega
  have h1 : 0 < l := by omega
  obtain ⟨k, hk, hkl, hc⟩ := clAt_some hn
  have H := hide h
  have HC := hide hc
  have HK := hide hk
  obtain ⟨K, R, D, f⟩ := c
  clear h hn hc hk
  try dsimp only at *
  go_enter Tryz.func113, Tryz.ntmps113
  go_wp2_with fail
  refine (of_in H.out hl HC.out HK.out).mono ?_
  rintro e w1 ⟨rfl, c1⟩
  subst h2
  go_wp2
  go_returns
  exact ⟨rfl, c1.alloc _⟩
set_option maxHeartbeats 1000000 in
theorem shape_ok0 {k : Nat} {K R D : Int} {f : Bool} (h : Tb w base p v cs) (hl : cs.length ≤ 100) (hc : cs[k]? = some ⟨K, R, D, f⟩) (wr : IntKind.i64.wrap R = R) :
    Calls Tryz.prog 113 #[.pointer p, .int .i64 (k + 1), .int .i64 0] w fun e w' => e = .returned (.tuple #[.int .i64 R, .int .i64 D, .int .i64 0]) ∧ Grow w w' := by
  have H := hide h
  have HC := hide hc
  clear h hc
  go_enter Tryz.func113, Tryz.ntmps113
  go_wp2_with fail
  refine (of_in H.out hl HC.out rfl).mono ?_
  rintro e w1 ⟨rfl, c1⟩
  have hx := Blk.new w1 82 [.int .i64 K, .int .i64 R, .int .i64 D, .bool f]
  replace c1 := c1.alloc (.cells [.int .i64 K, .int .i64 R, .int .i64 D, .bool f].toArray 82)
  obtain ⟨x0, x1, x2, x3⟩ := hx.cell4
  go_wp2_with fail
  refine wp_region_grow (by kernel_rfl) (by kernel_rfl) ?_
  repeat (
    with_reducible refine wpQuiet_step ?_
    intro K hK
    first
      | ((with_reducible refine quiet_offT rfl ?_ (hK _ ?_)); focus (refine ⟨_, rfl, ?_⟩; with_reducible rfl))
      | ((with_reducible refine quiet_offF rfl ?_ (hK _ ?_)); focus (refine ⟨_, rfl, ?_⟩; with_reducible rfl))
      | ((with_reducible refine quiet_offN rfl ?_ (hK _ ?_)); focus (exact rfl))
      | ((first | with_reducible refine quiet_free rfl ?_ | ((with_reducible refine quiet_on rfl ?_ ?_); focus (refine ⟨_, rfl, ?_⟩; with_reducible rfl)))
         apply Exists.intro
         refine ⟨fun Wq hW => ?_, hK _ ?_⟩
         focus (have q0 := Grow.cell hW x0; have q1 := Grow.cell hW x1; have q2 := Grow.cell hW x2; have q3 := Grow.cell hW x3; go_simp; first | done | with_reducible rfl))
    clear hK K
    simp only [Act.put, List.setIfInBounds_toArray, List.set_cons_zero, List.set_cons_succ])
  with_reducible refine wpQuiet_nil ?_
  intro w2 c2
  go_wp2
  go_returns
  exact ⟨rfl, c1.trans c2⟩
set_option maxHeartbeats 1000000 in
theorem shape_ok2 {k : Nat} {f : Bool} (h : Tb w base p v cs) (hl : cs.length ≤ 100) (hc : cs[k]? = some ⟨2, 0, 0, f⟩) (h0 : 0 < l) (h1 : l ≤ 30) :
    Calls Tryz.prog 113 #[.pointer p, .int .i64 (k + 1), .int .i64 l] w fun e w' => e = .returned (.tuple #[.int .i64 l, .int .i64 0, .int .i64 0]) ∧ Grow w w' := by
  have h0' : decide (l < 0) = false := by simp; omega
  have h1' : decide (30 < l) = false := by simp; omega
  have wr : IntKind.i64.wrap l = l := IntWalk.i64_in _ (by omega)
  have H := hide h
  have HC := hide hc
  clear h hc
  go_enter Tryz.func113, Tryz.ntmps113
  go_wp2_with fail
  refine (of_in H.out hl HC.out rfl).mono ?_
  rintro e w1 ⟨rfl, c1⟩
  have hx := Blk.new w1 82 [.int .i64 2, .int .i64 0, .int .i64 0, .bool f]
  replace c1 := c1.alloc (.cells [.int .i64 2, .int .i64 0, .int .i64 0, .bool f].toArray 82)
  obtain ⟨x0, x1, x2, x3⟩ := hx.cell4
  go_wp2_with fail
  refine wp_region_grow (by kernel_rfl) (by kernel_rfl) ?_
  repeat (
    with_reducible refine wpQuiet_step ?_
    intro K hK
    first
      | ((with_reducible refine quiet_offT rfl ?_ (hK _ ?_)); focus (refine ⟨_, rfl, ?_⟩; with_reducible rfl))
      | ((with_reducible refine quiet_offF rfl ?_ (hK _ ?_)); focus (refine ⟨_, rfl, ?_⟩; with_reducible rfl))
      | ((with_reducible refine quiet_offN rfl ?_ (hK _ ?_)); focus (exact rfl))
      | ((first | with_reducible refine quiet_free rfl ?_ | ((with_reducible refine quiet_on rfl ?_ ?_); focus (refine ⟨_, rfl, ?_⟩; with_reducible rfl)))
         apply Exists.intro
         refine ⟨fun Wq hW => ?_, hK _ ?_⟩
         focus (have q0 := Grow.cell hW x0; have q1 := Grow.cell hW x1; have q2 := Grow.cell hW x2; have q3 := Grow.cell hW x3; go_simp; first | done | with_reducible rfl))
    clear hK K
    simp only [Act.put, List.setIfInBounds_toArray, List.set_cons_zero, List.set_cons_succ])
  with_reducible refine wpQuiet_nil ?_
  intro w2 c2
  go_wp2
  go_returns
  exact ⟨rfl, c1.trans c2⟩
theorem shape_ok {c : Cl} (h : Tb w base p v cs) (hl : cs.length ≤ 100) (hn : clAt cs n = some c) (hr : rtB c.k c.r c.d c.f = true) (h0 : 0 ≤ l) (h1 : l ≤ 30) (h2 : l = 0 ∨ c.k = 2) :
    Calls Tryz.prog 113 #[.pointer p, .int .i64 n, .int .i64 l] w fun e w' => e = .returned (.tuple #[.int .i64 (c.r + l), .int .i64 c.d, .int .i64 0]) ∧ Grow w w' := by
  have hb := rt_bd hr
  obtain ⟨k, rfl, hkl, hc⟩ := clAt_some hn
  obtain ⟨K, R, D, f⟩ := c
  dsimp only at hb h2 ⊢
  by_cases hz : l = 0
  · subst hz
    rw [Int.add_zero]
    exact shape_ok0 h hl hc (IntWalk.i64_in _ (by omega))
  · obtain rfl : K = 2 := by omega
    obtain ⟨rfl, rfl⟩ := hb.2.2.2.2.2.1 rfl
    rw [Int.zero_add]
    exact shape_ok2 h hl hc (by omega) h1
theorem shape_any (h : Tb w base p v cs) (hl : cs.length ≤ 100) (hall : cs.all Cl.rt = true) (l : Int) (n : Int) :
    Calls Tryz.prog 113 #[.pointer p, .int .i64 n, .int .i64 l] w fun e w' => e = .returned (.tuple #[.int .i64 (shR (clAt cs n) l), .int .i64 (shD (clAt cs n) l), .int .i64 (shX (clAt cs n) l)]) ∧ Grow w w' := by
  cases ho : clAt cs n with
  | none => exact shape_none h ho
  | some c =>
    by_cases h1 : l < 0 ∨ (0 < l ∧ c.k ≠ 2)
    · have e : shX (some c) l = 1 := by simp only [shX]; rw [if_pos h1]
      have := shape_arg (l := l) h hl ho h1
      simpa only [shR, shD, e, show ¬ ((1 : Int) = 0) by decide, if_false] using this
    · by_cases h2 : 30 < l
      · have e : shX (some c) l = 8 := by simp only [shX]; rw [if_neg h1, if_pos h2]
        have := shape_large (l := l) h hl ho (by omega) h2
        simpa only [shR, shD, e, show ¬ ((8 : Int) = 0) by decide, if_false] using this
      · have e : shX (some c) l = 0 := by simp only [shX]; rw [if_neg h1, if_neg h2]
        have := shape_ok (l := l) h hl ho (clAt_rt hall ho) (by omega) (by omega) (by omega)
        simpa only [shR, shD, e, if_true] using this
set_option maxHeartbeats 1000000 in
theorem words_any (h : Tb w base p v cs) (hl : cs.length ≤ 100) (hall : cs.all Cl.rt = true) (l : Int) (n : Int) :
    Calls Tryz.prog 90 #[.pointer p, .int .i64 n, .int .i64 l] w fun e w' => e = .returned (.tuple #[.int .i64 (woV (clAt cs n) l), .int .i64 (shX (clAt cs n) l)]) ∧ Grow w w' := by
  have hs := fun w h => shape_any (w := w) (base := base) (p := p) (v := v) h hl hall l n
  have hb := sh_bd (o := clAt cs n) (fun c hc => clAt_rt hall hc) l
  have HW := hide (show woV (clAt cs n) l = if shX (clAt cs n) l = 0 then 2 + shR (clAt cs n) l + shD (clAt cs n) l else 0 from rfl)
  generalize woV (clAt cs n) l = V at *
  generalize shX (clAt cs n) l = X at *
  generalize shR (clAt cs n) l = R at *
  generalize shD (clAt cs n) l = D at *
  have H := hide h
  have HS := hide hs
  clear h hs
  by_cases hX : X = 0
  · subst hX
    have HV := hide (show V = 2 + R + D by rw [HW.out]; rfl)
    clear HW
    go_enter Tryz.func90, Tryz.ntmps90
    go_wp2_with fail
    refine (HS.out _ H.out).mono ?_
    rintro e w1 ⟨rfl, c1⟩
    go_wp2
    go_returns
    exact ⟨by rw [HV.out]; rfl, c1⟩
  · have HV := hide (show V = 0 by rw [HW.out, if_neg hX])
    have hX' : (X == 0) = false := by simpa using hX
    clear HW
    go_enter Tryz.func90, Tryz.ntmps90
    go_wp2_with fail
    refine (HS.out _ H.out).mono ?_
    rintro e w1 ⟨rfl, c1⟩
    go_wp2
    go_returns
    exact ⟨by rw [HV.out]; rfl, c1⟩
end
end Go.Proofs.YtogfjclmohpjkaaGreatDoor.L5
/- That the program is awake, and short forms. Conditions: none. -/
namespace Go.Proofs.YtogfjclmohpjkaaGreatDoor.L5
open Go.ChangeShapes Go.WideShapes Go.ChangeAt Go.RowKit
set_option linter.unusedVariables false
set_option maxRecDepth 100000

/-- New of classes that can be together; of others. -/
theorem new_yes {a : Option Addr} {len cap : Nat} {cs : List Cl} (w : World) (h : IsCls w a len cap cs) (hl : len ≤ 100) (hX : newX cs = 0) :
    Calls Tryz.prog 27 #[.slice a len cap] w fun e w' => ∃ g v, e = .returned (.tuple #[.pointer (some ⟨g, 0, none⟩), .int .i64 0]) ∧ Tb w' w.heap.size (some ⟨g, 0, none⟩) v cs ∧ Grow w w' :=
  (new_any a len cap cs w h hl).mono fun e w' ⟨hc, hp⟩ => by
    rcases hp with ⟨_, g, v, he, ht⟩ | ⟨hn, _⟩
    · exact ⟨g, v, he, ht, hc⟩
    · exact absurd hX hn
theorem new_no {a : Option Addr} {len cap : Nat} {cs : List Cl} (w : World) (h : IsCls w a len cap cs) (hl : len ≤ 100) {X : Int} (hX : newX cs = X) (h0 : X ≠ 0) :
    Calls Tryz.prog 27 #[.slice a len cap] w fun e w' => e = .returned (.tuple #[.pointer none, .int .i64 X]) ∧ Grow w w' :=
  (new_any a len cap cs w h hl).mono fun e w' ⟨hc, hp⟩ => by
    rcases hp with ⟨hn, _⟩ | ⟨_, he⟩
    · exact absurd (hX.symm.trans hn) h0
    · rw [hX] at he; exact ⟨he, hc⟩
theorem words_is {w : World} {base : Nat} {p : Option Addr} {v : Value} {cs : List Cl} {n l V X : Int} (h : Tb w base p v cs) (hl : cs.length ≤ 100) (hall : cs.all Cl.rt = true) (hV : woV (clAt cs n) l = V) (hX : shX (clAt cs n) l = X) :
    Calls Tryz.prog 90 #[.pointer p, .int .i64 n, .int .i64 l] w fun e w' => e = .returned (.tuple #[.int .i64 V, .int .i64 X]) ∧ Grow w w' := by
  have h' := words_any h hl hall l n
  rwa [hV, hX] at h'
set_option maxRecDepth 100000 in
/-- A list of classes that is an argument. -/
theorem open_cls {H : Type} {enc : TypeId × Value → H} {W : World} {base : Nat} {held : Bool} {r : Reach} {b0 : Nat} {v : Value} {d : DataW H} {p : List MemPlace}
    (hv : Value.okWide Tryz.prog W r b0 22 v) (h : DataW.Trod enc Tryz.prog W base (fun _ => true) held 22 v d p) : ∃ a len cap cs, v = .slice a len cap ∧ IsCls W a len cap cs := by
  obtain ⟨a, len, cap, rows, rfl, hr⟩ := open_recs [some .i64, some .i64, some .i64, none] Tryz.underlying22 Tryz.underlying82 (by kernel_rfl) (by kernel_rfl) (by kernel_rfl) (by decide) hv h
  obtain ⟨cs, hc⟩ := hr.cls
  exact ⟨a, len, cap, cs, rfl, hc⟩
theorem sameC (K R D K' R' D' : Int) (f f' : Bool) (W : World) :
    (Op.equalIn 10000 82 (.agg #[.int .i64 K, .int .i64 R, .int .i64 D, .bool f]) (.agg #[.int .i64 K', .int .i64 R', .int .i64 D', .bool f'])).run Tryz.prog W = .ok (decide (K = K' ∧ R = R' ∧ D = D' ∧ f = f')) W := by
  go_simp
  by_cases h1 : K = K' <;> by_cases h2 : R = R' <;> by_cases h3 : D = D' <;> cases f <;> cases f' <;> simp [h1, h2, h3, go_sem]
theorem nil_cap {H : Type} {enc : TypeId × Value → H} {W : World} {base : Nat} {held : Bool} {t e : TypeId} {P : Program} {len cap : Nat} {d : DataW H} {p : List MemPlace} (ht : P.underlying t = some (.slice e))
    (h : DataW.Trod enc P W base (fun _ => true) held t (.slice none len cap) d p) : cap = 0 := by
  obtain ⟨fuel, hf⟩ := h
  rcases Go.Deep.open_slice ht hf with ⟨h0, _⟩ | ⟨x, l, c, m, n, D, Pl, hcs, _⟩
  · simp [Value.cells] at h0; omega
  · simp [Value.cells] at hcs
set_option maxRecDepth 100000 in
theorem open_cls0 {H : Type} {enc : TypeId × Value → H} {W : World} {base : Nat} {held : Bool} {r : Reach} {b0 : Nat} {v : Value} {d : DataW H} {p : List MemPlace}
    (hv : Value.okWide Tryz.prog W r b0 22 v) (h : DataW.Trod enc Tryz.prog W base (fun _ => true) held 22 v d p) : ∃ a len cap cs, v = .slice a len cap ∧ (IsCls W a len cap cs ∧ (a = none → cap = 0)) := by
  obtain ⟨a, len, cap, cs, rfl, hc⟩ := open_cls hv h
  exact ⟨a, len, cap, cs, rfl, hc, fun e => by subst e; exact nil_cap Tryz.underlying22 h⟩
end Go.Proofs.YtogfjclmohpjkaaGreatDoor.L5
/- What the document's answer says of a class: can it be. Conditions: none. -/
namespace Go.Proofs.YtogfjclmohpjkaaGreatDoor.L5
open Go.ChangeShapes Go.WideShapes Go.ChangeAt Go.RowKit
set_option linter.unusedVariables false
set_option maxRecDepth 100000

set_option maxHeartbeats 1000000 in
theorem rright_any (K R D : Int) (f : Bool) (w : World) :
    Calls Tryz.prog 57 #[clV K R D f] w fun e w' => e = .returned (.bool (rtB K R D f)) ∧ Grow w w' := by
  by_cases hR : 0 ≤ R
  rotate_left
  · have HE := hide (show rtB K R D f = false by simp [rtB, hR])
    have h' : decide (R < 0) = true := by simp; omega
    go_enter Tryz.func57, Tryz.ntmps57
    go_wp2
    go_ret
    exact ⟨ret_bool HE.out.symm, Grow.box _ _⟩
  have h0 : decide (R < 0) = false := by simp; omega
  by_cases hD : 0 ≤ D
  rotate_left
  · have HE := hide (show rtB K R D f = false by simp [rtB, hD])
    have h' : decide (D < 0) = true := by simp; omega
    go_enter Tryz.func57, Tryz.ntmps57
    go_wp2
    go_ret
    exact ⟨ret_bool HE.out.symm, Grow.box _ _⟩
  have h1 : decide (D < 0) = false := by simp; omega
  by_cases hR2 : R ≤ 32
  rotate_left
  · have HE := hide (show rtB K R D f = false by
      have e1 : fitB R D = false := by simp [fitB]; omega
      have e2 : R ≠ 0 := by omega
      simp [rtB, e1, e2])
    have h' : decide (32 < R) = true := by simp; omega
    go_enter Tryz.func57, Tryz.ntmps57
    go_wp2
    go_ret
    exact ⟨ret_bool HE.out.symm, Grow.box _ _⟩
  have h2 : decide (32 < R) = false := by simp; omega
  by_cases hD2 : D ≤ 32
  rotate_left
  · have HE := hide (show rtB K R D f = false by
      have e1 : fitB R D = false := by simp [fitB]; omega
      have e2 : D ≠ 0 := by omega
      simp [rtB, e1, e2])
    have h' : decide (32 < D) = true := by simp; omega
    go_enter Tryz.func57, Tryz.ntmps57
    go_wp2
    go_ret
    exact ⟨ret_bool HE.out.symm, Grow.box _ _⟩
  have h3 : decide (32 < D) = false := by simp; omega
  have HF := hide (show fitB R D = decide (2 + R + D ≤ 32) by simp only [fitB, decide_eq_decide]; omega)
  by_cases k1 : K = 1
  · have HE := hide (show rtB K R D f = decide (2 + R + D ≤ 32) by rw [← HF.out]; simp [rtB, hR, hD, k1, isRf])
    go_enter Tryz.func57, Tryz.ntmps57
    go_wp2
    go_ret
    exact ⟨ret_bool HE.out.symm, Grow.box _ _⟩
  by_cases k2 : K = 2
  · by_cases r0 : R = 0
    · by_cases d0 : D = 0
      · have HE := hide (show rtB K R D f = true by simp [rtB, r0, d0, k2, isRf])
        subst r0 d0 k2
        go_enter Tryz.func57, Tryz.ntmps57
        go_wp2
        go_ret
        exact ⟨ret_bool HE.out.symm, Grow.box _ _⟩
      · have HE := hide (show rtB K R D f = false by simp [rtB, r0, d0, k2, isRf])
        subst r0 k2
        have d0' : (D == 0) = false := by simpa using d0
        go_enter Tryz.func57, Tryz.ntmps57
        go_wp2
        go_ret
        exact ⟨ret_bool HE.out.symm, Grow.box _ _⟩
    · have HE := hide (show rtB K R D f = false by simp [rtB, r0, k2, isRf])
      subst k2
      have r0' : (R == 0) = false := by simpa using r0
      go_enter Tryz.func57, Tryz.ntmps57
      go_wp2
      go_ret
      exact ⟨ret_bool HE.out.symm, Grow.box _ _⟩
  by_cases hI : isRf K = true
  · by_cases r1 : 1 ≤ R
    · by_cases d2 : 2 ≤ D
      · have HE := hide (show rtB K R D f = (decide (2 + R + D ≤ 32) && !f) by rw [← HF.out]; simp [rtB, hR, hD, r1, d2, hI])
        have hI' : K = 3 ∨ K = 4 ∨ K = 5 := by simpa [isRf] using hI
        clear hI k1 k2
        rcases hI' with rfl | rfl | rfl
        · skip
          cases hF2 : decide (2 + R + D ≤ 32)
          · try rw [hF2, Bool.false_and] at HE
            go_enter Tryz.func57, Tryz.ntmps57
            go_wp2
            go_ret
            exact ⟨ret_bool HE.out.symm, Grow.box _ _⟩
          · try rw [hF2, Bool.true_and] at HE
            go_enter Tryz.func57, Tryz.ntmps57
            go_wp2
            go_ret
            exact ⟨ret_bool HE.out.symm, Grow.box _ _⟩
        · skip
          cases hF2 : decide (2 + R + D ≤ 32)
          · try rw [hF2, Bool.false_and] at HE
            go_enter Tryz.func57, Tryz.ntmps57
            go_wp2
            go_ret
            exact ⟨ret_bool HE.out.symm, Grow.box _ _⟩
          · try rw [hF2, Bool.true_and] at HE
            go_enter Tryz.func57, Tryz.ntmps57
            go_wp2
            go_ret
            exact ⟨ret_bool HE.out.symm, Grow.box _ _⟩
        · skip
          cases hF2 : decide (2 + R + D ≤ 32)
          · try rw [hF2, Bool.false_and] at HE
            go_enter Tryz.func57, Tryz.ntmps57
            go_wp2
            go_ret
            exact ⟨ret_bool HE.out.symm, Grow.box _ _⟩
          · try rw [hF2, Bool.true_and] at HE
            go_enter Tryz.func57, Tryz.ntmps57
            go_wp2
            go_ret
            exact ⟨ret_bool HE.out.symm, Grow.box _ _⟩
      · have HE := hide (show rtB K R D f = false by simp [rtB, d2, hI])
        have d2' : decide (2 ≤ D) = false := by simpa using d2
        have hI' : K = 3 ∨ K = 4 ∨ K = 5 := by simpa [isRf] using hI
        clear hI k1 k2
        rcases hI' with rfl | rfl | rfl
        · skip
          cases hF2 : decide (2 + R + D ≤ 32)
          · try rw [hF2, Bool.false_and] at HE
            go_enter Tryz.func57, Tryz.ntmps57
            go_wp2
            go_ret
            exact ⟨ret_bool HE.out.symm, Grow.box _ _⟩
          · try rw [hF2, Bool.true_and] at HE
            go_enter Tryz.func57, Tryz.ntmps57
            go_wp2
            go_ret
            exact ⟨ret_bool HE.out.symm, Grow.box _ _⟩
        · skip
          cases hF2 : decide (2 + R + D ≤ 32)
          · try rw [hF2, Bool.false_and] at HE
            go_enter Tryz.func57, Tryz.ntmps57
            go_wp2
            go_ret
            exact ⟨ret_bool HE.out.symm, Grow.box _ _⟩
          · try rw [hF2, Bool.true_and] at HE
            go_enter Tryz.func57, Tryz.ntmps57
            go_wp2
            go_ret
            exact ⟨ret_bool HE.out.symm, Grow.box _ _⟩
        · skip
          cases hF2 : decide (2 + R + D ≤ 32)
          · try rw [hF2, Bool.false_and] at HE
            go_enter Tryz.func57, Tryz.ntmps57
            go_wp2
            go_ret
            exact ⟨ret_bool HE.out.symm, Grow.box _ _⟩
          · try rw [hF2, Bool.true_and] at HE
            go_enter Tryz.func57, Tryz.ntmps57
            go_wp2
            go_ret
            exact ⟨ret_bool HE.out.symm, Grow.box _ _⟩
    · have HE := hide (show rtB K R D f = false by simp [rtB, r1, hI])
      have r1' : decide (1 ≤ R) = false := by simpa using r1
      have hI' : K = 3 ∨ K = 4 ∨ K = 5 := by simpa [isRf] using hI
      clear hI k1 k2
      rcases hI' with rfl | rfl | rfl
      · skip
        cases hF2 : decide (2 + R + D ≤ 32)
        · try rw [hF2, Bool.false_and] at HE
          go_enter Tryz.func57, Tryz.ntmps57
          go_wp2
          go_ret
          exact ⟨ret_bool HE.out.symm, Grow.box _ _⟩
        · try rw [hF2, Bool.true_and] at HE
          go_enter Tryz.func57, Tryz.ntmps57
          go_wp2
          go_ret
          exact ⟨ret_bool HE.out.symm, Grow.box _ _⟩
      · skip
        cases hF2 : decide (2 + R + D ≤ 32)
        · try rw [hF2, Bool.false_and] at HE
          go_enter Tryz.func57, Tryz.ntmps57
          go_wp2
          go_ret
          exact ⟨ret_bool HE.out.symm, Grow.box _ _⟩
        · try rw [hF2, Bool.true_and] at HE
          go_enter Tryz.func57, Tryz.ntmps57
          go_wp2
          go_ret
          exact ⟨ret_bool HE.out.symm, Grow.box _ _⟩
      · skip
        cases hF2 : decide (2 + R + D ≤ 32)
        · try rw [hF2, Bool.false_and] at HE
          go_enter Tryz.func57, Tryz.ntmps57
          go_wp2
          go_ret
          exact ⟨ret_bool HE.out.symm, Grow.box _ _⟩
        · try rw [hF2, Bool.true_and] at HE
          go_enter Tryz.func57, Tryz.ntmps57
          go_wp2
          go_ret
          exact ⟨ret_bool HE.out.symm, Grow.box _ _⟩
  · have HE := hide (show rtB K R D f = false by simp [rtB, k1, k2, hI])
    have k3 : ¬ K = 3 := by rintro rfl; exact hI (by decide)
    have k4 : ¬ K = 4 := by rintro rfl; exact hI (by decide)
    have k5 : ¬ K = 5 := by rintro rfl; exact hI (by decide)
    go_enter Tryz.func57, Tryz.ntmps57
    go_wp2
    go_ret
    exact ⟨ret_bool HE.out.symm, Grow.box _ _⟩
theorem rright_is {K R D : Int} {f b : Bool} (w : World) (h : rtB K R D f = b) :
    Calls Tryz.prog 57 #[clV K R D f] w fun e w' => e = .returned (.bool b) ∧ Grow w w' := by
  have h' := rright_any K R D f w
  rwa [h] at h'
end Go.Proofs.YtogfjclmohpjkaaGreatDoor.L5
/- What New, Shape and Holds of package gleaningref05 answer; they change nothing but make new memory. Conditions: at most 100 classes, that can be where Shape and Holds are asked. -/
namespace Go.Proofs.YtogfjclmohpjkaaGreatDoor.L5
open Go.ChangeShapes Go.WideShapes Go.ChangeAt Go.RowKit
set_option linter.unusedVariables false
set_option maxRecDepth 100000

set_option maxHeartbeats 2000000 in
set_option maxRecDepth 100000 in
theorem rnew_any (a : Option Addr) (len cap : Nat) (cs : List Cl) (w : World) (h : IsCls w a len cap cs) (hl : len ≤ 100) :
    Calls Tryz.prog 26 #[.slice a len cap] w fun e w' => e = .returned (.int .i64 (newX cs)) ∧ Grow w w' := by
  have H := hide h
  have HL := hide h.len
  clear h
  go_enter Tryz.func26, Tryz.ntmps26
  go_wp2
  go_loopw [6] (fun i wr => ∃ k : Nat, k ≤ len ∧ i = .int .i64 k ∧ (∀ i, i < k → ∀ c, cs[i]? = some c → c.rt = true) ∧ Grow w wr) (fun i _ => len - (intOf i).toNat)
  case atStart => exact ⟨0, Nat.zero_le _, rfl, fun i hi => absurd hi (by omega), Chg.refl _ _⟩
  case round =>
    obtain ⟨k, hk, rfl, hall, cc⟩ := hrel
    by_cases hlt : k < len
    · obtain ⟨b, off, c, rfl, hc, ⟨e0, e1, e2, e3⟩, hM⟩ := (H.out.chg cc (fun i hi => id)).at_ hlt
      obtain ⟨K, R, D, f⟩ := c
      have HA := hide hall
      clear hall
      dsimp only at e0 e1 e2 e3 hM
      cases hr : rtB K R D f
      · have HX := hide (newX_no hc hr)
        have HR := hide hr
        clear hr hc
        go_wp2_with fail
        clear e0 e1 e2 e3
        refine (rright_is _ HR.out).mono ?_
        rintro e w1 ⟨rfl, c1⟩
        go_wp2
        go_ret
        exact ⟨by rw [HX.out]; rfl, cc.trans c1⟩
      · have HX := hide (show ∀ i, i < k + 1 → ∀ c, cs[i]? = some c → c.rt = true by
          intro i hi c hci
          rcases Nat.lt_or_ge i k with h | h
          · exact HA.out i h c hci
          · obtain rfl : i = k := by omega
            rw [hc] at hci
            injection hci with hci
            subst hci
            exact hr)
        have HR := hide hr
        clear hr hc
        go_wp2_with fail
        clear e0 e1 e2 e3
        refine (rright_is _ HR.out).mono ?_
        rintro e w1 ⟨rfl, c1⟩
        go_wp2
        go_roundw
        case rel => exact ⟨k + 1, by omega, by go_num, HX.out, cc.trans c1⟩
        case measure => simp [intOf]; omega
    · obtain rfl : k = len := by omega
      have HA := hide (all_of (by rw [HL.out]; exact hall))
      clear hall
      by_cases h64 : k < 64
      · have h64' : decide ((k : Int) ≥ 64) = false := by simp; omega
        have HX := hide (show newX cs = 0 by simp [newX, HA.out, HL.out, h64])
        go_wp2
        go_ret
        exact ⟨by rw [HX.out]; rfl, cc⟩
      · have h64' : decide ((k : Int) ≥ 64) = true := by simp; omega
        have HX := hide (show newX cs = 3 by simp [newX, HA.out, HL.out, h64])
        go_wp2
        go_ret
        exact ⟨by rw [HX.out]; rfl, cc⟩

section
variable {w : World} {a : Option Addr} {len cap : Nat} {cs : List Cl} {n l : Int}
set_option maxHeartbeats 1000000 in
theorem rshape_none (h : IsCls w a len cap cs) (hn : clAt cs n = none) :
    Calls Tryz.prog 61 #[.slice a len cap, .int .i64 n, .int .i64 l] w fun e w' => e = .returned (.tuple #[.int .i64 0, .int .i64 0, .int .i64 4]) ∧ Grow w w' := by
  have hn' := clAt_none hn
  rw [h.len] at hn'
  clear h hn
  by_cases h1 : n < 1
  · clear hn'
    go_enter Tryz.func61, Tryz.ntmps61
    go_wp2
    go_returns
    exact ⟨rfl, Chg.refl _ _⟩
  · have h1' : decide (n < 1) = false := by simpa using h1
    have h2 : (len : Int) < n := by omega
    clear hn'
    go_enter Tryz.func61, Tryz.ntmps61
    go_wp2
    go_returns
    exact ⟨rfl, Chg.refl _ _⟩
set_option maxHeartbeats 1000000 in
theorem rshape_arg {k : Nat} {K R D : Int} {f : Bool} (h : IsCls w a len cap cs) (hc : cs[k]? = some ⟨K, R, D, f⟩) (ha : l < 0 ∨ (0 < l ∧ K ≠ 2)) :
    Calls Tryz.prog 61 #[.slice a len cap, .int .i64 (k + 1), .int .i64 l] w fun e w' => e = .returned (.tuple #[.int .i64 0, .int .i64 0, .int .i64 1]) ∧ Grow w w' := by
  by_cases h0 : l < 0
  · clear ha
    have hlen := h.len
    have hk : k < len := by have := (List.getElem?_eq_some_iff.1 hc).1; omega
    have q1 : decide ((k : Int) + 1 < 1) = false := by simp; omega
    have q2 : decide ((len : Int) < (k : Int) + 1) = false := by simp; omega
    have hlm := h.2.2.1
    unfold maxLen at hlm
    have hlc := h.2.1
    obtain ⟨b, off, c, rfl, hc', ⟨e0, e1, e2, e3⟩, -⟩ := h.at_ hk
    rw [hc] at hc'
    injection hc' with hc'
    subst hc'
    dsimp only at e0 e1 e2 e3
    clear h hc hlen
    go_enter Tryz.func61, Tryz.ntmps61
    go_wp2
    go_returns
    exact ⟨rfl, Grow.box _ _⟩
  · have h0' : decide (l < 0) = false := by simpa using h0
    have h1 : 0 < l ∧ K ≠ 2 := by omega
    obtain ⟨h1, h2⟩ := h1
    have h2' : (K == 2) = false := by simpa using h2
    have h3 : (l != 0) = true := by simp; omega
    have h4 : (K != 2) = true := by simpa using h2
    clear ha h2' h2
    have hlen := h.len
    have hk : k < len := by have := (List.getElem?_eq_some_iff.1 hc).1; omega
    have q1 : decide ((k : Int) + 1 < 1) = false := by simp; omega
    have q2 : decide ((len : Int) < (k : Int) + 1) = false := by simp; omega
    have hlm := h.2.2.1
    unfold maxLen at hlm
    have hlc := h.2.1
    obtain ⟨b, off, c, rfl, hc', ⟨e0, e1, e2, e3⟩, -⟩ := h.at_ hk
    rw [hc] at hc'
    injection hc' with hc'
    subst hc'
    dsimp only at e0 e1 e2 e3
    clear h hc hlen
    go_enter Tryz.func61, Tryz.ntmps61
    go_wp2
    go_returns
    exact ⟨rfl, Grow.box _ _⟩
set_option maxHeartbeats 1000000 in
theorem rshape_large {k : Nat} {R D : Int} {f : Bool} (h : IsCls w a len cap cs) (hc : cs[k]? = some ⟨2, R, D, f⟩) (h3 : 30 < l) :
    Calls Tryz.prog 61 #[.slice a len cap, .int .i64 (k + 1), .int .i64 l] w fun e w' => e = .returned (.tuple #[.int .i64 0, .int .i64 0, .int .i64 8]) ∧ Grow w w' := by
  have h0' : decide (l < 0) = false := by simp; omega
  have h1 : (l == 0) = false := by simp; omega
  have hlen := h.len
  have hk : k < len := by have := (List.getElem?_eq_some_iff.1 hc).1; omega
  have q1 : decide ((k : Int) + 1 < 1) = false := by simp; omega
  have q2 : decide ((len : Int) < (k : Int) + 1) = false := by simp; omega
  have hlm := h.2.2.1
  unfold maxLen at hlm
  have hlc := h.2.1
  obtain ⟨b, off, c, rfl, hc', ⟨e0, e1, e2, e3⟩, -⟩ := h.at_ hk
  rw [hc] at hc'
  injection hc' with hc'
  subst hc'
  dsimp only at e0 e1 e2 e3
  clear h hc hlen
  go_enter Tryz.func61, Tryz.ntmps61
  go_wp2
  go_returns
  exact ⟨rfl, Grow.box _ _⟩
set_option maxHeartbeats 1000000 in
theorem rshape_ok0 {k : Nat} {K R D : Int} {f : Bool} (h : IsCls w a len cap cs) (hc : cs[k]? = some ⟨K, R, D, f⟩) (wr : IntKind.i64.wrap R = R) :
    Calls Tryz.prog 61 #[.slice a len cap, .int .i64 (k + 1), .int .i64 0] w fun e w' => e = .returned (.tuple #[.int .i64 R, .int .i64 D, .int .i64 0]) ∧ Grow w w' := by
  have hlen := h.len
  have hk : k < len := by have := (List.getElem?_eq_some_iff.1 hc).1; omega
  have q1 : decide ((k : Int) + 1 < 1) = false := by simp; omega
  have q2 : decide ((len : Int) < (k : Int) + 1) = false := by simp; omega
  have hlm := h.2.2.1
  unfold maxLen at hlm
  have hlc := h.2.1
  obtain ⟨b, off, c, rfl, hc', ⟨e0, e1, e2, e3⟩, -⟩ := h.at_ hk
  rw [hc] at hc'
  injection hc' with hc'
  subst hc'
  dsimp only at e0 e1 e2 e3
  clear h hc hlen
  go_enter Tryz.func61, Tryz.ntmps61
  have hx := Blk.new w 82 [.int .i64 K, .int .i64 R, .int .i64 D, .bool f]
  have c1 := Grow.box w (.cells [.int .i64 K, .int .i64 R, .int .i64 D, .bool f].toArray 82)
  obtain ⟨x0, x1, x2, x3⟩ := hx.cell4
  go_wp2_with fail
  refine wp_region_grow (by kernel_rfl) (by kernel_rfl) ?_
  repeat (
    with_reducible refine wpQuiet_step ?_
    intro K hK
    first
      | ((with_reducible refine quiet_offT rfl ?_ (hK _ ?_)); focus (refine ⟨_, rfl, ?_⟩; with_reducible rfl))
      | ((with_reducible refine quiet_offF rfl ?_ (hK _ ?_)); focus (refine ⟨_, rfl, ?_⟩; with_reducible rfl))
      | ((with_reducible refine quiet_offN rfl ?_ (hK _ ?_)); focus (exact rfl))
      | ((first | with_reducible refine quiet_free rfl ?_ | ((with_reducible refine quiet_on rfl ?_ ?_); focus (refine ⟨_, rfl, ?_⟩; with_reducible rfl)))
         apply Exists.intro
         refine ⟨fun Wq hW => ?_, hK _ ?_⟩
         focus (have q0 := Grow.cell hW x0; have q1 := Grow.cell hW x1; have q2 := Grow.cell hW x2; have q3 := Grow.cell hW x3; go_simp; first | done | with_reducible rfl))
    clear hK K
    simp only [Act.put, List.setIfInBounds_toArray, List.set_cons_zero, List.set_cons_succ])
  with_reducible refine wpQuiet_nil ?_
  intro w2 c2
  go_wp2
  go_returns
  exact ⟨rfl, c1.trans c2⟩
set_option maxHeartbeats 1000000 in
theorem rshape_ok2 {k : Nat} {f : Bool} (h : IsCls w a len cap cs) (hc : cs[k]? = some ⟨2, 0, 0, f⟩) (h0 : 0 < l) (h1 : l ≤ 30) :
    Calls Tryz.prog 61 #[.slice a len cap, .int .i64 (k + 1), .int .i64 l] w fun e w' => e = .returned (.tuple #[.int .i64 l, .int .i64 0, .int .i64 0]) ∧ Grow w w' := by
  have h0' : decide (l < 0) = false := by simp; omega
  have h1' : decide (30 < l) = false := by simp; omega
  have h2' : (l == 0) = false := by simp; omega
  have wr : IntKind.i64.wrap l = l := IntWalk.i64_in _ (by omega)
  have hlen := h.len
  have hk : k < len := by have := (List.getElem?_eq_some_iff.1 hc).1; omega
  have q1 : decide ((k : Int) + 1 < 1) = false := by simp; omega
  have q2 : decide ((len : Int) < (k : Int) + 1) = false := by simp; omega
  have hlm := h.2.2.1
  unfold maxLen at hlm
  have hlc := h.2.1
  obtain ⟨b, off, c, rfl, hc', ⟨e0, e1, e2, e3⟩, -⟩ := h.at_ hk
  rw [hc] at hc'
  injection hc' with hc'
  subst hc'
  dsimp only at e0 e1 e2 e3
  clear h hc hlen
  go_enter Tryz.func61, Tryz.ntmps61
  have hx := Blk.new w 82 [.int .i64 2, .int .i64 0, .int .i64 0, .bool f]
  have c1 := Grow.box w (.cells [.int .i64 2, .int .i64 0, .int .i64 0, .bool f].toArray 82)
  obtain ⟨x0, x1, x2, x3⟩ := hx.cell4
  go_wp2_with fail
  refine wp_region_grow (by kernel_rfl) (by kernel_rfl) ?_
  repeat (
    with_reducible refine wpQuiet_step ?_
    intro K hK
    first
      | ((with_reducible refine quiet_offT rfl ?_ (hK _ ?_)); focus (refine ⟨_, rfl, ?_⟩; with_reducible rfl))
      | ((with_reducible refine quiet_offF rfl ?_ (hK _ ?_)); focus (refine ⟨_, rfl, ?_⟩; with_reducible rfl))
      | ((with_reducible refine quiet_offN rfl ?_ (hK _ ?_)); focus (exact rfl))
      | ((first | with_reducible refine quiet_free rfl ?_ | ((with_reducible refine quiet_on rfl ?_ ?_); focus (refine ⟨_, rfl, ?_⟩; with_reducible rfl)))
         apply Exists.intro
         refine ⟨fun Wq hW => ?_, hK _ ?_⟩
         focus (have q0 := Grow.cell hW x0; have q1 := Grow.cell hW x1; have q2 := Grow.cell hW x2; have q3 := Grow.cell hW x3; go_simp; first | done | with_reducible rfl))
    clear hK K
    simp only [Act.put, List.setIfInBounds_toArray, List.set_cons_zero, List.set_cons_succ])
  with_reducible refine wpQuiet_nil ?_
  intro w2 c2
  go_wp2
  go_returns
  exact ⟨rfl, c1.trans c2⟩
theorem rshape_any (h : IsCls w a len cap cs) (hall : cs.all Cl.rt = true) (l : Int) (n : Int) :
    Calls Tryz.prog 61 #[.slice a len cap, .int .i64 n, .int .i64 l] w fun e w' => e = .returned (.tuple #[.int .i64 (shR (clAt cs n) l), .int .i64 (shD (clAt cs n) l), .int .i64 (shX (clAt cs n) l)]) ∧ Grow w w' := by
  cases ho : clAt cs n with
  | none => exact rshape_none h ho
  | some c =>
    have hb := rt_bd (clAt_rt hall ho)
    obtain ⟨k, rfl, hkl, hc⟩ := clAt_some ho
    obtain ⟨K, R, D, f⟩ := c
    dsimp only at hb
    by_cases h1 : l < 0 ∨ (0 < l ∧ K ≠ 2)
    · have e : shX (some ⟨K, R, D, f⟩) l = 1 := by simp only [shX]; rw [if_pos h1]
      have := rshape_arg (l := l) h hc h1
      simpa only [shR, shD, e, show ¬ ((1 : Int) = 0) by decide, if_false] using this
    · by_cases h2 : 30 < l
      · have e : shX (some ⟨K, R, D, f⟩) l = 8 := by simp only [shX]; rw [if_neg h1, if_pos h2]
        obtain rfl : K = 2 := by omega
        have := rshape_large (l := l) h hc h2
        simpa only [shR, shD, e, show ¬ ((8 : Int) = 0) by decide, if_false] using this
      · have e : shX (some ⟨K, R, D, f⟩) l = 0 := by simp only [shX]; rw [if_neg h1, if_neg h2]
        simp only [shR, shD, e, if_true]
        by_cases hz : l = 0
        · subst hz
          rw [Int.add_zero]
          exact rshape_ok0 h hc (IntWalk.i64_in _ (by omega))
        · obtain rfl : K = 2 := by omega
          obtain ⟨rfl, rfl⟩ := hb.2.2.2.2.2.1 rfl
          rw [Int.zero_add]
          exact rshape_ok2 h hc (by omega) (by omega)
end
end Go.Proofs.YtogfjclmohpjkaaGreatDoor.L5

/- What the calls of package space, and of package gleaningref02, answer; they change nothing but make new memory. Conditions: the numbers given fit their kinds. -/
import Derived.Test.YtbnnoelioiafdaaGrow
import Derived.Deep.RegionHeld3
import Derived.Handy
namespace Go.Proofs.Ytbnnoelioiafdaa
open Go.ChangeShapes Go.WideShapes Go.ChangeAt Go.RowKit
set_option linter.unusedVariables false

/-- A space as a value; can it be? -/
abbrev spV (F T E : Int) : Value := .agg #[.int .i64 F, .int .i64 T, .int .i64 E]
def riB (F T E : Int) : Bool := decide (0 ≤ F ∧ F ≤ T ∧ T ≤ E ∧ E ≤ 4096)
theorem ri_true {F T E : Int} (h : riB F T E = true) : 0 ≤ F ∧ F ≤ T ∧ T ≤ E ∧ E ≤ 4096 := by simpa [riB] using h
/-- What New answers: the error, the beginning, the end. -/
def nwB (f n : Int) : Bool := decide (0 ≤ f ∧ 0 ≤ n ∧ n ≤ 4096 - f)
def nwX (f n : Int) : Int := if nwB f n then 0 else 1
def nwF (f n : Int) : Int := if nwB f n then f else 0
def nwE (f n : Int) : Int := if nwB f n then f + n else 0
/-- What Take answers: the error; where it is OK a number, else 0. -/
def tkX (F T E n : Int) : Int := if n < 1 ∨ riB F T E = false then 1 else if E - T < n then 3 else 0
def tkI (x v : Int) : Int := if x = 0 then v else 0
/-- Where it can be a number, else 0. -/
def orZ (b : Bool) (v : Int) : Int := if b then v else 0
def hasB (F T E a : Int) : Bool := riB F T E && decide (F ≤ a ∧ a < T)
theorem ret_any {a b : Value} (h : a = b) : Ending.returned a = .returned b := by rw [h]

set_option maxHeartbeats 400000 in
theorem right_any (F T E : Int) (w : World) :
    Calls Try.prog 15 #[spV F T E] w fun e w' => e = .returned (.bool (riB F T E)) ∧ Grow w w' := by
  by_cases h1 : 0 ≤ F
  · by_cases h2 : F ≤ T
    · by_cases h3 : T ≤ E
      · go_enter Try.func15, Try.ntmps15
        go_wp2
        go_ret
        exact ⟨ret_bool (by simp [riB, h1, h2, h3]), Grow.box _ _⟩
      · skip
        have e : riB F T E = false := by simp [riB]; omega
        have HE := hide e
        clear e
        have h3' : decide (T ≤ E) = false := by simpa using h3
        go_enter Try.func15, Try.ntmps15
        go_wp2
        go_ret
        exact ⟨ret_bool HE.out.symm, Grow.box _ _⟩
    · skip
      have e : riB F T E = false := by simp [riB]; omega
      have HE := hide e
      clear e
      have h2' : decide (F ≤ T) = false := by simpa using h2
      go_enter Try.func15, Try.ntmps15
      go_wp2
      go_ret
      exact ⟨ret_bool HE.out.symm, Grow.box _ _⟩
  · skip
    have e : riB F T E = false := by simp [riB]; omega
    have HE := hide e
    clear e
    have h1' : decide (0 ≤ F) = false := by simpa using h1
    go_enter Try.func15, Try.ntmps15
    go_wp2
    go_ret
    exact ⟨ret_bool HE.out.symm, Grow.box _ _⟩

set_option maxHeartbeats 400000 in
theorem rright_any (F T E : Int) (w : World) :
    Calls Try.prog 10 #[spV F T E] w fun e w' => e = .returned (.bool (riB F T E)) ∧ Grow w w' := by
  by_cases h1 : 0 ≤ F
  · by_cases h2 : F ≤ T
    · by_cases h3 : T ≤ E
      · go_enter Try.func10, Try.ntmps10
        go_wp2
        go_ret
        exact ⟨ret_bool (by simp [riB, h1, h2, h3]), Grow.box _ _⟩
      · skip
        have e : riB F T E = false := by simp [riB]; omega
        have HE := hide e
        clear e
        have h3' : decide (T ≤ E) = false := by simpa using h3
        go_enter Try.func10, Try.ntmps10
        go_wp2
        go_ret
        exact ⟨ret_bool HE.out.symm, Grow.box _ _⟩
    · skip
      have e : riB F T E = false := by simp [riB]; omega
      have HE := hide e
      clear e
      have h2' : decide (F ≤ T) = false := by simpa using h2
      go_enter Try.func10, Try.ntmps10
      go_wp2
      go_ret
      exact ⟨ret_bool HE.out.symm, Grow.box _ _⟩
  · skip
    have e : riB F T E = false := by simp [riB]; omega
    have HE := hide e
    clear e
    have h1' : decide (0 ≤ F) = false := by simpa using h1
    go_enter Try.func10, Try.ntmps10
    go_wp2
    go_ret
    exact ⟨ret_bool HE.out.symm, Grow.box _ _⟩

set_option maxHeartbeats 400000 in
theorem new_any (f n : Int) (w : World) (hf : f ≤ 9223372036854775807) (hn : n ≤ 9223372036854775807) :
    Calls Try.prog 13 #[.int .i64 f, .int .i64 n] w fun e w' => e = .returned (.tuple #[spV (nwF f n) (nwF f n) (nwE f n), .int .i64 (nwX f n)]) ∧ Grow w w' := by
  by_cases h1 : f < 0
  · skip
    have HE := hide (show nwX f n = 1 ∧ nwF f n = 0 ∧ nwE f n = 0 by have e : nwB f n = false := by { simp [nwB]; omega }; simp [nwX, nwF, nwE, e])
    go_enter Try.func13, Try.ntmps13
    go_wp2
    go_returns
    exact ⟨ret_any (by rw [HE.out.1, HE.out.2.1, HE.out.2.2]), Grow.box _ _⟩
  · by_cases h2 : n < 0
    · skip
      have HE := hide (show nwX f n = 1 ∧ nwF f n = 0 ∧ nwE f n = 0 by have e : nwB f n = false := by { simp [nwB]; omega }; simp [nwX, nwF, nwE, e])
      go_enter Try.func13, Try.ntmps13
      go_wp2
      go_returns
      exact ⟨ret_any (by rw [HE.out.1, HE.out.2.1, HE.out.2.2]), Grow.box _ _⟩
    · by_cases h3 : 4096 - f < n
      · by_cases h4 : 4096 < f
        · skip
          have HE := hide (show nwX f n = 1 ∧ nwF f n = 0 ∧ nwE f n = 0 by have e : nwB f n = false := by { simp [nwB]; omega }; simp [nwX, nwF, nwE, e])
          go_enter Try.func13, Try.ntmps13
          go_wp2
          go_returns
          exact ⟨ret_any (by rw [HE.out.1, HE.out.2.1, HE.out.2.2]), Grow.box _ _⟩
        · skip
          have HE := hide (show nwX f n = 1 ∧ nwF f n = 0 ∧ nwE f n = 0 by have e : nwB f n = false := by { simp [nwB]; omega }; simp [nwX, nwF, nwE, e])
          go_enter Try.func13, Try.ntmps13
          go_wp2
          go_returns
          exact ⟨ret_any (by rw [HE.out.1, HE.out.2.1, HE.out.2.2]), Grow.box _ _⟩
      · have HE := hide (show nwX f n = 0 ∧ nwF f n = f ∧ nwE f n = f + n by have e : nwB f n = true := by { simp [nwB]; omega }; simp [nwX, nwF, nwE, e])
        go_enter Try.func13, Try.ntmps13
        go_wp2
        go_returns
        exact ⟨ret_any (by rw [HE.out.1, HE.out.2.1, HE.out.2.2]), Grow.box _ _⟩

set_option maxHeartbeats 400000 in
theorem rnew_any (f n : Int) (w : World) (hf : f ≤ 9223372036854775807) (hn : n ≤ 9223372036854775807) :
    Calls Try.prog 14 #[.int .i64 f, .int .i64 n] w fun e w' => e = .returned (.tuple #[spV (nwF f n) (nwF f n) (nwE f n), .int .i64 (nwX f n)]) ∧ Grow w w' := by
  by_cases h1 : f < 0
  · skip
    have HE := hide (show nwX f n = 1 ∧ nwF f n = 0 ∧ nwE f n = 0 by have e : nwB f n = false := by { simp [nwB]; omega }; simp [nwX, nwF, nwE, e])
    go_enter Try.func14, Try.ntmps14
    go_wp2
    go_returns
    exact ⟨ret_any (by rw [HE.out.1, HE.out.2.1, HE.out.2.2]), Grow.box _ _⟩
  · by_cases h2 : n < 0
    · skip
      have HE := hide (show nwX f n = 1 ∧ nwF f n = 0 ∧ nwE f n = 0 by have e : nwB f n = false := by { simp [nwB]; omega }; simp [nwX, nwF, nwE, e])
      go_enter Try.func14, Try.ntmps14
      go_wp2
      go_returns
      exact ⟨ret_any (by rw [HE.out.1, HE.out.2.1, HE.out.2.2]), Grow.box _ _⟩
    · by_cases h3 : 4096 - f < n
      · by_cases h4 : 4096 < f
        · skip
          have HE := hide (show nwX f n = 1 ∧ nwF f n = 0 ∧ nwE f n = 0 by have e : nwB f n = false := by { simp [nwB]; omega }; simp [nwX, nwF, nwE, e])
          go_enter Try.func14, Try.ntmps14
          go_wp2
          go_returns
          exact ⟨ret_any (by rw [HE.out.1, HE.out.2.1, HE.out.2.2]), Grow.box _ _⟩
        · skip
          have HE := hide (show nwX f n = 1 ∧ nwF f n = 0 ∧ nwE f n = 0 by have e : nwB f n = false := by { simp [nwB]; omega }; simp [nwX, nwF, nwE, e])
          go_enter Try.func14, Try.ntmps14
          go_wp2
          go_returns
          exact ⟨ret_any (by rw [HE.out.1, HE.out.2.1, HE.out.2.2]), Grow.box _ _⟩
      · have HE := hide (show nwX f n = 0 ∧ nwF f n = f ∧ nwE f n = f + n by have e : nwB f n = true := by { simp [nwB]; omega }; simp [nwX, nwF, nwE, e])
        go_enter Try.func14, Try.ntmps14
        go_wp2
        go_returns
        exact ⟨ret_any (by rw [HE.out.1, HE.out.2.1, HE.out.2.2]), Grow.box _ _⟩


theorem Grow.two (w : World) (o o' : Obj) : Grow w ((w.alloc o).alloc o') := (Grow.box _ _).alloc _
theorem Grow.put {w w' : World} (c : Grow w w') {b i : Nat} (hb : w.heap.size ≤ b) (u : Value) : Grow w (w'.setCell ⟨b, i, none⟩ u) :=
  Chg.setCell c (fun h => absurd h (by show ¬ b < w.heap.size; omega)) u

set_option maxHeartbeats 400000 in
theorem used_any (F T E : Int) (w : World) :
    Calls Try.prog 18 #[spV F T E] w fun e w' => e = .returned (.int .i64 (orZ (riB F T E) (T - F))) ∧ Grow w w' := by
  by_cases h : riB F T E = true
  · obtain ⟨b1, b2, b3, b4⟩ := ri_true h
    have HE := hide (show orZ (riB F T E) (T - F) = T - F by simp [orZ, h])
    have hs := Blk.new w 25 [.int .i64 F, .int .i64 T, .int .i64 E]
    have cs := Grow.box w (.cells [.int .i64 F, .int .i64 T, .int .i64 E].toArray 25)
    go_enter Try.func18, Try.ntmps18
    go_wp2_with fail
    generalize w.alloc (.cells #[.int .i64 F, .int .i64 T, .int .i64 E] 25) = w0 at *
    refine (right_any F T E _).mono ?_
    rintro e w1 ⟨rfl, c1⟩
    replace hs := hs.chg c1 id
    replace cs := cs.trans c1
    generalize w.heap.size = s at *
    have a0 : w1.cell? ⟨s, 0, none⟩ = some (.int .i64 F) := hs.cell 0
    have a1 : w1.cell? ⟨s, 1, none⟩ = some (.int .i64 T) := hs.cell 1
    have a2 : w1.cell? ⟨s, 2, none⟩ = some (.int .i64 E) := hs.cell 2
    clear hs c1
    go_wp2
    go_ret
    exact ⟨ret_int HE.out.symm, cs⟩
  · have h' : riB F T E = false := by simpa using h
    have HE := hide (show orZ (riB F T E) (T - F) = 0 by simp [orZ, h])
    clear h
    have hs := Blk.new w 25 [.int .i64 F, .int .i64 T, .int .i64 E]
    have cs := Grow.box w (.cells [.int .i64 F, .int .i64 T, .int .i64 E].toArray 25)
    go_enter Try.func18, Try.ntmps18
    go_wp2_with fail
    generalize w.alloc (.cells #[.int .i64 F, .int .i64 T, .int .i64 E] 25) = w0 at *
    refine (right_any F T E _).mono ?_
    rintro e w1 ⟨rfl, c1⟩
    replace hs := hs.chg c1 id
    replace cs := cs.trans c1
    generalize w.heap.size = s at *
    have a0 : w1.cell? ⟨s, 0, none⟩ = some (.int .i64 F) := hs.cell 0
    have a1 : w1.cell? ⟨s, 1, none⟩ = some (.int .i64 T) := hs.cell 1
    have a2 : w1.cell? ⟨s, 2, none⟩ = some (.int .i64 E) := hs.cell 2
    clear hs c1
    go_wp2
    go_ret
    exact ⟨ret_int HE.out.symm, cs⟩

set_option maxHeartbeats 400000 in
theorem room_any (F T E : Int) (w : World) :
    Calls Try.prog 19 #[spV F T E] w fun e w' => e = .returned (.int .i64 (orZ (riB F T E) (E - T))) ∧ Grow w w' := by
  by_cases h : riB F T E = true
  · obtain ⟨b1, b2, b3, b4⟩ := ri_true h
    have HE := hide (show orZ (riB F T E) (E - T) = E - T by simp [orZ, h])
    have hs := Blk.new w 25 [.int .i64 F, .int .i64 T, .int .i64 E]
    have cs := Grow.box w (.cells [.int .i64 F, .int .i64 T, .int .i64 E].toArray 25)
    go_enter Try.func19, Try.ntmps19
    go_wp2_with fail
    generalize w.alloc (.cells #[.int .i64 F, .int .i64 T, .int .i64 E] 25) = w0 at *
    refine (right_any F T E _).mono ?_
    rintro e w1 ⟨rfl, c1⟩
    replace hs := hs.chg c1 id
    replace cs := cs.trans c1
    generalize w.heap.size = s at *
    have a0 : w1.cell? ⟨s, 0, none⟩ = some (.int .i64 F) := hs.cell 0
    have a1 : w1.cell? ⟨s, 1, none⟩ = some (.int .i64 T) := hs.cell 1
    have a2 : w1.cell? ⟨s, 2, none⟩ = some (.int .i64 E) := hs.cell 2
    clear hs c1
    go_wp2
    go_ret
    exact ⟨ret_int HE.out.symm, cs⟩
  · have h' : riB F T E = false := by simpa using h
    have HE := hide (show orZ (riB F T E) (E - T) = 0 by simp [orZ, h])
    clear h
    have hs := Blk.new w 25 [.int .i64 F, .int .i64 T, .int .i64 E]
    have cs := Grow.box w (.cells [.int .i64 F, .int .i64 T, .int .i64 E].toArray 25)
    go_enter Try.func19, Try.ntmps19
    go_wp2_with fail
    generalize w.alloc (.cells #[.int .i64 F, .int .i64 T, .int .i64 E] 25) = w0 at *
    refine (right_any F T E _).mono ?_
    rintro e w1 ⟨rfl, c1⟩
    replace hs := hs.chg c1 id
    replace cs := cs.trans c1
    generalize w.heap.size = s at *
    have a0 : w1.cell? ⟨s, 0, none⟩ = some (.int .i64 F) := hs.cell 0
    have a1 : w1.cell? ⟨s, 1, none⟩ = some (.int .i64 T) := hs.cell 1
    have a2 : w1.cell? ⟨s, 2, none⟩ = some (.int .i64 E) := hs.cell 2
    clear hs c1
    go_wp2
    go_ret
    exact ⟨ret_int HE.out.symm, cs⟩

set_option maxHeartbeats 400000 in
theorem has_any (F T E a : Int) (w : World) :
    Calls Try.prog 16 #[spV F T E, .int .i64 a] w fun e w' => e = .returned (.bool (hasB F T E a)) ∧ Grow w w' := by
  by_cases h : riB F T E = true
  · by_cases h1 : F ≤ a
    · have HE := hide (show hasB F T E a = decide (a < T) by simp [hasB, h, h1])
      have hs := Blk.new w 25 [.int .i64 F, .int .i64 T, .int .i64 E]
      have cs := Grow.box w (.cells [.int .i64 F, .int .i64 T, .int .i64 E].toArray 25)
      go_enter Try.func16, Try.ntmps16
      go_wp2_with fail
      generalize w.alloc (.cells #[.int .i64 F, .int .i64 T, .int .i64 E] 25) = w0 at *
      refine (right_any F T E _).mono ?_
      rintro e w1 ⟨rfl, c1⟩
      replace hs := hs.chg c1 id
      replace cs := cs.trans c1
      generalize w.heap.size = s at *
      have a0 : w1.cell? ⟨s, 0, none⟩ = some (.int .i64 F) := hs.cell 0
      have a1 : w1.cell? ⟨s, 1, none⟩ = some (.int .i64 T) := hs.cell 1
      have a2 : w1.cell? ⟨s, 2, none⟩ = some (.int .i64 E) := hs.cell 2
      clear hs c1
      go_wp2
      go_ret
      exact ⟨ret_bool HE.out.symm, cs⟩
    · have HE := hide (show hasB F T E a = false by simp [hasB, h1])
      have h1' : decide (F ≤ a) = false := by simpa using h1
      clear h1
      have hs := Blk.new w 25 [.int .i64 F, .int .i64 T, .int .i64 E]
      have cs := Grow.box w (.cells [.int .i64 F, .int .i64 T, .int .i64 E].toArray 25)
      go_enter Try.func16, Try.ntmps16
      go_wp2_with fail
      generalize w.alloc (.cells #[.int .i64 F, .int .i64 T, .int .i64 E] 25) = w0 at *
      refine (right_any F T E _).mono ?_
      rintro e w1 ⟨rfl, c1⟩
      replace hs := hs.chg c1 id
      replace cs := cs.trans c1
      generalize w.heap.size = s at *
      have a0 : w1.cell? ⟨s, 0, none⟩ = some (.int .i64 F) := hs.cell 0
      have a1 : w1.cell? ⟨s, 1, none⟩ = some (.int .i64 T) := hs.cell 1
      have a2 : w1.cell? ⟨s, 2, none⟩ = some (.int .i64 E) := hs.cell 2
      clear hs c1
      go_wp2
      go_ret
      exact ⟨ret_bool HE.out.symm, cs⟩
  · have h' : riB F T E = false := by simpa using h
    have HE := hide (show hasB F T E a = false by simp [hasB, h'])
    clear h
    have hs := Blk.new w 25 [.int .i64 F, .int .i64 T, .int .i64 E]
    have cs := Grow.box w (.cells [.int .i64 F, .int .i64 T, .int .i64 E].toArray 25)
    go_enter Try.func16, Try.ntmps16
    go_wp2_with fail
    generalize w.alloc (.cells #[.int .i64 F, .int .i64 T, .int .i64 E] 25) = w0 at *
    refine (right_any F T E _).mono ?_
    rintro e w1 ⟨rfl, c1⟩
    replace hs := hs.chg c1 id
    replace cs := cs.trans c1
    generalize w.heap.size = s at *
    have a0 : w1.cell? ⟨s, 0, none⟩ = some (.int .i64 F) := hs.cell 0
    have a1 : w1.cell? ⟨s, 1, none⟩ = some (.int .i64 T) := hs.cell 1
    have a2 : w1.cell? ⟨s, 2, none⟩ = some (.int .i64 E) := hs.cell 2
    clear hs c1
    go_wp2
    go_ret
    exact ⟨ret_bool HE.out.symm, cs⟩

set_option maxHeartbeats 400000 in
theorem rhas_any (F T E a : Int) (w : World) :
    Calls Try.prog 17 #[spV F T E, .int .i64 a] w fun e w' => e = .returned (.bool (hasB F T E a)) ∧ Grow w w' := by
  by_cases h : riB F T E = true
  · by_cases h1 : F ≤ a
    · have HE := hide (show hasB F T E a = decide (a < T) by simp [hasB, h, h1])
      have hs := Blk.new w 23 [.int .i64 F, .int .i64 T, .int .i64 E]
      have cs := Grow.box w (.cells [.int .i64 F, .int .i64 T, .int .i64 E].toArray 23)
      go_enter Try.func17, Try.ntmps17
      go_wp2_with fail
      generalize w.alloc (.cells #[.int .i64 F, .int .i64 T, .int .i64 E] 23) = w0 at *
      refine (rright_any F T E _).mono ?_
      rintro e w1 ⟨rfl, c1⟩
      replace hs := hs.chg c1 id
      replace cs := cs.trans c1
      generalize w.heap.size = s at *
      have a0 : w1.cell? ⟨s, 0, none⟩ = some (.int .i64 F) := hs.cell 0
      have a1 : w1.cell? ⟨s, 1, none⟩ = some (.int .i64 T) := hs.cell 1
      have a2 : w1.cell? ⟨s, 2, none⟩ = some (.int .i64 E) := hs.cell 2
      clear hs c1
      go_wp2
      go_ret
      exact ⟨ret_bool HE.out.symm, cs⟩
    · have HE := hide (show hasB F T E a = false by simp [hasB, h1])
      have h1' : decide (F ≤ a) = false := by simpa using h1
      clear h1
      have hs := Blk.new w 23 [.int .i64 F, .int .i64 T, .int .i64 E]
      have cs := Grow.box w (.cells [.int .i64 F, .int .i64 T, .int .i64 E].toArray 23)
      go_enter Try.func17, Try.ntmps17
      go_wp2_with fail
      generalize w.alloc (.cells #[.int .i64 F, .int .i64 T, .int .i64 E] 23) = w0 at *
      refine (rright_any F T E _).mono ?_
      rintro e w1 ⟨rfl, c1⟩
      replace hs := hs.chg c1 id
      replace cs := cs.trans c1
      generalize w.heap.size = s at *
      have a0 : w1.cell? ⟨s, 0, none⟩ = some (.int .i64 F) := hs.cell 0
      have a1 : w1.cell? ⟨s, 1, none⟩ = some (.int .i64 T) := hs.cell 1
      have a2 : w1.cell? ⟨s, 2, none⟩ = some (.int .i64 E) := hs.cell 2
      clear hs c1
      go_wp2
      go_ret
      exact ⟨ret_bool HE.out.symm, cs⟩
  · have h' : riB F T E = false := by simpa using h
    have HE := hide (show hasB F T E a = false by simp [hasB, h'])
    clear h
    have hs := Blk.new w 23 [.int .i64 F, .int .i64 T, .int .i64 E]
    have cs := Grow.box w (.cells [.int .i64 F, .int .i64 T, .int .i64 E].toArray 23)
    go_enter Try.func17, Try.ntmps17
    go_wp2_with fail
    generalize w.alloc (.cells #[.int .i64 F, .int .i64 T, .int .i64 E] 23) = w0 at *
    refine (rright_any F T E _).mono ?_
    rintro e w1 ⟨rfl, c1⟩
    replace hs := hs.chg c1 id
    replace cs := cs.trans c1
    generalize w.heap.size = s at *
    have a0 : w1.cell? ⟨s, 0, none⟩ = some (.int .i64 F) := hs.cell 0
    have a1 : w1.cell? ⟨s, 1, none⟩ = some (.int .i64 T) := hs.cell 1
    have a2 : w1.cell? ⟨s, 2, none⟩ = some (.int .i64 E) := hs.cell 2
    clear hs c1
    go_wp2
    go_ret
    exact ⟨ret_bool HE.out.symm, cs⟩

set_option maxHeartbeats 1000000 in
theorem empty_any (F T E : Int) (w : World) :
    Calls Try.prog 20 #[spV F T E] w fun e w' => e = .returned (spV (orZ (riB F T E) F) (orZ (riB F T E) F) (orZ (riB F T E) E)) ∧ Grow w w' := by
  by_cases h : riB F T E = true
  · have HE := hide (show orZ (riB F T E) F = F ∧ orZ (riB F T E) E = E by simp [orZ, h])
    have hs := (Blk.new w 25 [.int .i64 F, .int .i64 T, .int .i64 E]).alloc (.cells [.int .i64 0, .int .i64 0, .int .i64 0].toArray 25)
    have hr := Blk.new (w.alloc (.cells [.int .i64 F, .int .i64 T, .int .i64 E].toArray 25)) 25 [.int .i64 0, .int .i64 0, .int .i64 0]
    have cs := Grow.two w (.cells [.int .i64 F, .int .i64 T, .int .i64 E].toArray 25) (.cells [.int .i64 0, .int .i64 0, .int .i64 0].toArray 25)
    rw [World.size_alloc] at hr
    have hw : w.heap.size ≤ w.heap.size := Nat.le_refl _
    go_enter Try.func20, Try.ntmps20
    go_wp2_with fail
    generalize (w.alloc (.cells #[.int .i64 F, .int .i64 T, .int .i64 E] 25)).alloc (.cells #[.int .i64 0, .int .i64 0, .int .i64 0] 25) = w0 at *
    obtain ⟨s, hS⟩ : ∃ s, s = w.heap.size := ⟨_, rfl⟩
    rw [← hS] at hs hr
    try rw [← hS]
    refine (right_any F T E _).mono ?_
    rintro e w1 ⟨rfl, c1⟩
    replace hs := hs.chg c1 id
    replace hr := hr.chg c1 id
    replace cs := cs.trans c1
    have a0 : w1.cell? ⟨s, 0, none⟩ = some (.int .i64 F) := hs.cell 0
    have a1 : w1.cell? ⟨s, 1, none⟩ = some (.int .i64 T) := hs.cell 1
    have a2 : w1.cell? ⟨s, 2, none⟩ = some (.int .i64 E) := hs.cell 2
    have sf0 := hs.frozen 0
    have sf1 := hs.frozen 1
    have sf2 := hs.frozen 2
    have r0 : w1.cell? ⟨s + 1, 0, none⟩ = some (.int .i64 0) := hr.cell 0
    have r1 : w1.cell? ⟨s + 1, 1, none⟩ = some (.int .i64 0) := hr.cell 1
    have r2 : w1.cell? ⟨s + 1, 2, none⟩ = some (.int .i64 0) := hr.cell 2
    have rf0 := hr.frozen 0
    have rf1 := hr.frozen 1
    have rf2 := hr.frozen 2
    have HS := hide hS
    clear hs hr c1 hw hS
    go_wp2
    (try simp only [Exit.inBlock, Exit.then])
    refine bodyPost_ret (v := spV F F E) (by simp [results, Try.results20, go_sem, r0, r1, r2]) rfl ?_
    exact ⟨ret_any (by rw [HE.out.1, HE.out.2]), by have := HS.out; repeat (first | exact cs | refine Grow.put ?_ (by omega) _)⟩
  · have h' : riB F T E = false := by simpa using h
    have HE := hide (show orZ (riB F T E) F = 0 ∧ orZ (riB F T E) E = 0 by simp [orZ, h])
    clear h
    have hs := (Blk.new w 25 [.int .i64 F, .int .i64 T, .int .i64 E]).alloc (.cells [.int .i64 0, .int .i64 0, .int .i64 0].toArray 25)
    have hr := Blk.new (w.alloc (.cells [.int .i64 F, .int .i64 T, .int .i64 E].toArray 25)) 25 [.int .i64 0, .int .i64 0, .int .i64 0]
    have cs := Grow.two w (.cells [.int .i64 F, .int .i64 T, .int .i64 E].toArray 25) (.cells [.int .i64 0, .int .i64 0, .int .i64 0].toArray 25)
    rw [World.size_alloc] at hr
    have hw : w.heap.size ≤ w.heap.size := Nat.le_refl _
    go_enter Try.func20, Try.ntmps20
    go_wp2_with fail
    generalize (w.alloc (.cells #[.int .i64 F, .int .i64 T, .int .i64 E] 25)).alloc (.cells #[.int .i64 0, .int .i64 0, .int .i64 0] 25) = w0 at *
    obtain ⟨s, hS⟩ : ∃ s, s = w.heap.size := ⟨_, rfl⟩
    rw [← hS] at hs hr
    try rw [← hS]
    refine (right_any F T E _).mono ?_
    rintro e w1 ⟨rfl, c1⟩
    replace hs := hs.chg c1 id
    replace hr := hr.chg c1 id
    replace cs := cs.trans c1
    have a0 : w1.cell? ⟨s, 0, none⟩ = some (.int .i64 F) := hs.cell 0
    have a1 : w1.cell? ⟨s, 1, none⟩ = some (.int .i64 T) := hs.cell 1
    have a2 : w1.cell? ⟨s, 2, none⟩ = some (.int .i64 E) := hs.cell 2
    have sf0 := hs.frozen 0
    have sf1 := hs.frozen 1
    have sf2 := hs.frozen 2
    have r0 : w1.cell? ⟨s + 1, 0, none⟩ = some (.int .i64 0) := hr.cell 0
    have r1 : w1.cell? ⟨s + 1, 1, none⟩ = some (.int .i64 0) := hr.cell 1
    have r2 : w1.cell? ⟨s + 1, 2, none⟩ = some (.int .i64 0) := hr.cell 2
    have rf0 := hr.frozen 0
    have rf1 := hr.frozen 1
    have rf2 := hr.frozen 2
    have HS := hide hS
    clear hs hr c1 hw hS
    go_wp2
    (try simp only [Exit.inBlock, Exit.then])
    refine bodyPost_ret (v := spV 0 0 0) (by simp [results, Try.results20, go_sem, r0, r1, r2]) rfl ?_
    exact ⟨ret_any (by rw [HE.out.1, HE.out.2]), by have := HS.out; repeat (first | exact cs | refine Grow.put ?_ (by omega) _)⟩

end Go.Proofs.Ytbnnoelioiafdaa

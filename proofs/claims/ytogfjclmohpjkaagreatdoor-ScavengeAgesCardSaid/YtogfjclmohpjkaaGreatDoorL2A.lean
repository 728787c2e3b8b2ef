/- What the calls of package space, and of package gleaningref02, answer; they change nothing but make new memory. Conditions: the numbers given fit their kinds. -/
import Derived.Test.YtogfjclmohpjkaaGreatDoorGrow
import Derived.Deep.RegionHeld3
import Derived.Handy
import Derived.Test.YtogfjclmohpjkaaGreatDoorOwn
import Derived.ShutString
namespace Go.Proofs.YtogfjclmohpjkaaGreatDoor.L2
open Go.ChangeShapes Go.WideShapes Go.ChangeAt Go.RowKit
set_option linter.unusedVariables false
set_option maxRecDepth 100000

/-- A space as a value; can it be? -/
abbrev spV (F T E : Int) : Value := .agg #[.int .i64 F, .int .i64 T, .int .i64 E]
def riB (F T E : Int) : Bool := decide (0 ≤ F ∧ F ≤ T ∧ T ≤ E ∧ E ≤ 4096)
theorem ri_true {F T E : Int} (h : riB F T E = true) : 0 ≤ F ∧ F ≤ T ∧ T ≤ E ∧ E ≤ 4096 := by simpa [riB] using h
/-- What New answers: the error, the beginning, the end. -/
def nwB (f n : Int) : Bool := decide (0 ≤ f ∧ 0 ≤ n ∧ n ≤ 4096 - f)
def nwX (f n : Int) : Int := if nwB f n then 0 else 1
def nwF (f n : Int) : Int := if nwB f n then f else 0
def nwE (f n : Int) : Int := if nwB f n then f + n else 0
/-- What Take answers: the error; where it is OK a number, else 0. -/
def tkX (F T E n : Int) : Int := if n < 1 ∨ riB F T E = false then 1 else if E - T < n then 3 else 0
def tkI (x v : Int) : Int := if x = 0 then v else 0
/-- Where it can be a number, else 0. -/
def orZ (b : Bool) (v : Int) : Int := if b then v else 0
def hasB (F T E a : Int) : Bool := riB F T E && decide (F ≤ a ∧ a < T)
theorem ret_any {a b : Value} (h : a = b) : Ending.returned a = .returned b := by rw [h]

set_option maxHeartbeats 400000 in
theorem right_any (F T E : Int) (w : World) :
    Calls Tryz.prog 52 #[spV F T E] w fun e w' => e = .returned (.bool (riB F T E)) ∧ Grow w w' := by
  by_cases h1 : 0 ≤ F
  · by_cases h2 : F ≤ T
    · by_cases h3 : T ≤ E
      · go_enter Tryz.func52, Tryz.ntmps52
        go_wp2
        go_ret
        exact ⟨ret_bool (by simp [riB, h1, h2, h3]), Grow.box _ _⟩
      · skip
        have e : riB F T E = false := by simp [riB]; omega
        have HE := hide e
        clear e
        have h3' : decide (T ≤ E) = false := by simpa using h3
        go_enter Tryz.func52, Tryz.ntmps52
        go_wp2
        go_ret
        exact ⟨ret_bool HE.out.symm, Grow.box _ _⟩
    · skip
      have e : riB F T E = false := by simp [riB]; omega
      have HE := hide e
      clear e
      have h2' : decide (F ≤ T) = false := by simpa using h2
      go_enter Tryz.func52, Tryz.ntmps52
      go_wp2
      go_ret
      exact ⟨ret_bool HE.out.symm, Grow.box _ _⟩
  · skip
    have e : riB F T E = false := by simp [riB]; omega
    have HE := hide e
    clear e
    have h1' : decide (0 ≤ F) = false := by simpa using h1
    go_enter Tryz.func52, Tryz.ntmps52
    go_wp2
    go_ret
    exact ⟨ret_bool HE.out.symm, Grow.box _ _⟩

set_option maxHeartbeats 400000 in
theorem new_any (f n : Int) (w : World) (hf : f ≤ 9223372036854775807) (hn : n ≤ 9223372036854775807) :
    Calls Tryz.prog 60 #[.int .i64 f, .int .i64 n] w fun e w' => e = .returned (.tuple #[spV (nwF f n) (nwF f n) (nwE f n), .int .i64 (nwX f n)]) ∧ Grow w w' := by
  by_cases h1 : f < 0
  · skip
    have HE := hide (show nwX f n = 1 ∧ nwF f n = 0 ∧ nwE f n = 0 by have e : nwB f n = false := by { simp [nwB]; omega }; simp [nwX, nwF, nwE, e])
    go_enter Tryz.func60, Tryz.ntmps60
    go_wp2
    go_returns
    exact ⟨ret_any (by rw [HE.out.1, HE.out.2.1, HE.out.2.2]), Grow.box _ _⟩
  · by_cases h2 : n < 0
    · skip
      have HE := hide (show nwX f n = 1 ∧ nwF f n = 0 ∧ nwE f n = 0 by have e : nwB f n = false := by { simp [nwB]; omega }; simp [nwX, nwF, nwE, e])
      go_enter Tryz.func60, Tryz.ntmps60
      go_wp2
      go_returns
      exact ⟨ret_any (by rw [HE.out.1, HE.out.2.1, HE.out.2.2]), Grow.box _ _⟩
    · by_cases h3 : 4096 - f < n
      · by_cases h4 : 4096 < f
        · skip
          have HE := hide (show nwX f n = 1 ∧ nwF f n = 0 ∧ nwE f n = 0 by have e : nwB f n = false := by { simp [nwB]; omega }; simp [nwX, nwF, nwE, e])
          go_enter Tryz.func60, Tryz.ntmps60
          go_wp2
          go_returns
          exact ⟨ret_any (by rw [HE.out.1, HE.out.2.1, HE.out.2.2]), Grow.box _ _⟩
        · skip
          have HE := hide (show nwX f n = 1 ∧ nwF f n = 0 ∧ nwE f n = 0 by have e : nwB f n = false := by { simp [nwB]; omega }; simp [nwX, nwF, nwE, e])
          go_enter Tryz.func60, Tryz.ntmps60
          go_wp2
          go_returns
          exact ⟨ret_any (by rw [HE.out.1, HE.out.2.1, HE.out.2.2]), Grow.box _ _⟩
      · have HE := hide (show nwX f n = 0 ∧ nwF f n = f ∧ nwE f n = f + n by have e : nwB f n = true := by { simp [nwB]; omega }; simp [nwX, nwF, nwE, e])
        go_enter Tryz.func60, Tryz.ntmps60
        go_wp2
        go_returns
        exact ⟨ret_any (by rw [HE.out.1, HE.out.2.1, HE.out.2.2]), Grow.box _ _⟩

theorem _root_.Go.Proofs.YtogfjclmohpjkaaGreatDoor.Grow.two (w : World) (o o' : Obj) : Grow w ((w.alloc o).alloc o') := (Grow.box _ _).alloc _
theorem _root_.Go.Proofs.YtogfjclmohpjkaaGreatDoor.Grow.put {w w' : World} (c : Grow w w') {b i : Nat} (hb : w.heap.size ≤ b) (u : Value) : Grow w (w'.setCell ⟨b, i, none⟩ u) :=
  Chg.setCell c (fun h => absurd h (by show ¬ b < w.heap.size; omega)) u

set_option maxHeartbeats 400000 in
theorem used_any (F T E : Int) (w : World) :
    Calls Tryz.prog 20 #[spV F T E] w fun e w' => e = .returned (.int .i64 (orZ (riB F T E) (T - F))) ∧ Grow w w' := by
  by_cases h : riB F T E = true
  · obtain ⟨b1, b2, b3, b4⟩ := ri_true h
    have HE := hide (show orZ (riB F T E) (T - F) = T - F by simp [orZ, h])
    have hs := Blk.new w 34 [.int .i64 F, .int .i64 T, .int .i64 E]
    have cs := Grow.box w (.cells [.int .i64 F, .int .i64 T, .int .i64 E].toArray 34)
    go_enter Tryz.func20, Tryz.ntmps20
    go_wp2_with fail
    generalize w.alloc (.cells #[.int .i64 F, .int .i64 T, .int .i64 E] 34) = w0 at *
    refine (right_any F T E _).mono ?_
    rintro e w1 ⟨rfl, c1⟩
    replace hs := hs.chg c1 id
    replace cs := cs.trans c1
    generalize w.heap.size = s at *
    have a0 : w1.cell? ⟨s, 0, none⟩ = some (.int .i64 F) := hs.cell 0
    have a1 : w1.cell? ⟨s, 1, none⟩ = some (.int .i64 T) := hs.cell 1
    have a2 : w1.cell? ⟨s, 2, none⟩ = some (.int .i64 E) := hs.cell 2
    clear hs c1
    go_wp2
    go_ret
    exact ⟨ret_int HE.out.symm, cs⟩
  · have h' : riB F T E = false := by simpa using h
    have HE := hide (show orZ (riB F T E) (T - F) = 0 by simp [orZ, h])
    clear h
    have hs := Blk.new w 34 [.int .i64 F, .int .i64 T, .int .i64 E]
    have cs := Grow.box w (.cells [.int .i64 F, .int .i64 T, .int .i64 E].toArray 34)
    go_enter Tryz.func20, Tryz.ntmps20
    go_wp2_with fail
    generalize w.alloc (.cells #[.int .i64 F, .int .i64 T, .int .i64 E] 34) = w0 at *
    refine (right_any F T E _).mono ?_
    rintro e w1 ⟨rfl, c1⟩
    replace hs := hs.chg c1 id
    replace cs := cs.trans c1
    generalize w.heap.size = s at *
    have a0 : w1.cell? ⟨s, 0, none⟩ = some (.int .i64 F) := hs.cell 0
    have a1 : w1.cell? ⟨s, 1, none⟩ = some (.int .i64 T) := hs.cell 1
    have a2 : w1.cell? ⟨s, 2, none⟩ = some (.int .i64 E) := hs.cell 2
    clear hs c1
    go_wp2
    go_ret
    exact ⟨ret_int HE.out.symm, cs⟩

set_option maxHeartbeats 400000 in
theorem room_any (F T E : Int) (w : World) :
    Calls Tryz.prog 21 #[spV F T E] w fun e w' => e = .returned (.int .i64 (orZ (riB F T E) (E - T))) ∧ Grow w w' := by
  by_cases h : riB F T E = true
  · obtain ⟨b1, b2, b3, b4⟩ := ri_true h
    have HE := hide (show orZ (riB F T E) (E - T) = E - T by simp [orZ, h])
    have hs := Blk.new w 34 [.int .i64 F, .int .i64 T, .int .i64 E]
    have cs := Grow.box w (.cells [.int .i64 F, .int .i64 T, .int .i64 E].toArray 34)
    go_enter Tryz.func21, Tryz.ntmps21
    go_wp2_with fail
    generalize w.alloc (.cells #[.int .i64 F, .int .i64 T, .int .i64 E] 34) = w0 at *
    refine (right_any F T E _).mono ?_
    rintro e w1 ⟨rfl, c1⟩
    replace hs := hs.chg c1 id
    replace cs := cs.trans c1
    generalize w.heap.size = s at *
    have a0 : w1.cell? ⟨s, 0, none⟩ = some (.int .i64 F) := hs.cell 0
    have a1 : w1.cell? ⟨s, 1, none⟩ = some (.int .i64 T) := hs.cell 1
    have a2 : w1.cell? ⟨s, 2, none⟩ = some (.int .i64 E) := hs.cell 2
    clear hs c1
    go_wp2
    go_ret
    exact ⟨ret_int HE.out.symm, cs⟩
  · have h' : riB F T E = false := by simpa using h
    have HE := hide (show orZ (riB F T E) (E - T) = 0 by simp [orZ, h])
    clear h
    have hs := Blk.new w 34 [.int .i64 F, .int .i64 T, .int .i64 E]
    have cs := Grow.box w (.cells [.int .i64 F, .int .i64 T, .int .i64 E].toArray 34)
    go_enter Tryz.func21, Tryz.ntmps21
    go_wp2_with fail
    generalize w.alloc (.cells #[.int .i64 F, .int .i64 T, .int .i64 E] 34) = w0 at *
    refine (right_any F T E _).mono ?_
    rintro e w1 ⟨rfl, c1⟩
    replace hs := hs.chg c1 id
    replace cs := cs.trans c1
    generalize w.heap.size = s at *
    have a0 : w1.cell? ⟨s, 0, none⟩ = some (.int .i64 F) := hs.cell 0
    have a1 : w1.cell? ⟨s, 1, none⟩ = some (.int .i64 T) := hs.cell 1
    have a2 : w1.cell? ⟨s, 2, none⟩ = some (.int .i64 E) := hs.cell 2
    clear hs c1
    go_wp2
    go_ret
    exact ⟨ret_int HE.out.symm, cs⟩

set_option maxHeartbeats 400000 in
theorem has_any (F T E a : Int) (w : World) :
    Calls Tryz.prog 19 #[spV F T E, .int .i64 a] w fun e w' => e = .returned (.bool (hasB F T E a)) ∧ Grow w w' := by
  by_cases h : riB F T E = true
  · by_cases h1 : F ≤ a
    · have HE := hide (show hasB F T E a = decide (a < T) by simp [hasB, h, h1])
      have hs := Blk.new w 34 [.int .i64 F, .int .i64 T, .int .i64 E]
      have cs := Grow.box w (.cells [.int .i64 F, .int .i64 T, .int .i64 E].toArray 34)
      go_enter Tryz.func19, Tryz.ntmps19
      go_wp2_with fail
      generalize w.alloc (.cells #[.int .i64 F, .int .i64 T, .int .i64 E] 34) = w0 at *
      refine (right_any F T E _).mono ?_
      rintro e w1 ⟨rfl, c1⟩
      replace hs := hs.chg c1 id
      replace cs := cs.trans c1
      generalize w.heap.size = s at *
      have a0 : w1.cell? ⟨s, 0, none⟩ = some (.int .i64 F) := hs.cell 0
      have a1 : w1.cell? ⟨s, 1, none⟩ = some (.int .i64 T) := hs.cell 1
      have a2 : w1.cell? ⟨s, 2, none⟩ = some (.int .i64 E) := hs.cell 2
      clear hs c1
      go_wp2
      go_ret
      exact ⟨ret_bool HE.out.symm, cs⟩
    · have HE := hide (show hasB F T E a = false by simp [hasB, h1])
      have h1' : decide (F ≤ a) = false := by simpa using h1
      clear h1
      have hs := Blk.new w 34 [.int .i64 F, .int .i64 T, .int .i64 E]
      have cs := Grow.box w (.cells [.int .i64 F, .int .i64 T, .int .i64 E].toArray 34)
      go_enter Tryz.func19, Tryz.ntmps19
      go_wp2_with fail
      generalize w.alloc (.cells #[.int .i64 F, .int .i64 T, .int .i64 E] 34) = w0 at *
      refine (right_any F T E _).mono ?_
      rintro e w1 ⟨rfl, c1⟩
      replace hs := hs.chg c1 id
      replace cs := cs.trans c1
      generalize w.heap.size = s at *
      have a0 : w1.cell? ⟨s, 0, none⟩ = some (.int .i64 F) := hs.cell 0
      have a1 : w1.cell? ⟨s, 1, none⟩ = some (.int .i64 T) := hs.cell 1
      have a2 : w1.cell? ⟨s, 2, none⟩ = some (.int .i64 E) := hs.cell 2
      clear hs c1
      go_wp2
      go_ret
      exact ⟨ret_bool HE.out.symm, cs⟩
  · have h' : riB F T E = false := by simpa using h
    have HE := hide (show hasB F T E a = false by simp [hasB, h'])
    clear h
    have hs := Blk.new w 34 [.int .i64 F, .int .i64 T, .int .i64 E]
    have cs := Grow.box w (.cells [.int .i64 F, .int .i64 T, .int .i64 E].toArray 34)
    go_enter Tryz.func19, Tryz.ntmps19
    go_wp2_with fail
    generalize w.alloc (.cells #[.int .i64 F, .int .i64 T, .int .i64 E] 34) = w0 at *
    refine (right_any F T E _).mono ?_
    rintro e w1 ⟨rfl, c1⟩
    replace hs := hs.chg c1 id
    replace cs := cs.trans c1
    generalize w.heap.size = s at *
    have a0 : w1.cell? ⟨s, 0, none⟩ = some (.int .i64 F) := hs.cell 0
    have a1 : w1.cell? ⟨s, 1, none⟩ = some (.int .i64 T) := hs.cell 1
    have a2 : w1.cell? ⟨s, 2, none⟩ = some (.int .i64 E) := hs.cell 2
    clear hs c1
    go_wp2
    go_ret
    exact ⟨ret_bool HE.out.symm, cs⟩

set_option maxHeartbeats 1000000 in
theorem empty_any (F T E : Int) (w : World) :
    Calls Tryz.prog 81 #[spV F T E] w fun e w' => e = .returned (spV (orZ (riB F T E) F) (orZ (riB F T E) F) (orZ (riB F T E) E)) ∧ Grow w w' := by
  by_cases h : riB F T E = true
  · have HE := hide (show orZ (riB F T E) F = F ∧ orZ (riB F T E) E = E by simp [orZ, h])
    have hs := (Blk.new w 34 [.int .i64 F, .int .i64 T, .int .i64 E]).alloc (.cells [.int .i64 0, .int .i64 0, .int .i64 0].toArray 34)
    have hr := Blk.new (w.alloc (.cells [.int .i64 F, .int .i64 T, .int .i64 E].toArray 34)) 34 [.int .i64 0, .int .i64 0, .int .i64 0]
    have cs := Grow.two w (.cells [.int .i64 F, .int .i64 T, .int .i64 E].toArray 34) (.cells [.int .i64 0, .int .i64 0, .int .i64 0].toArray 34)
    rw [World.size_alloc] at hr
    have hw : w.heap.size ≤ w.heap.size := Nat.le_refl _
    go_enter Tryz.func81, Tryz.ntmps81
    go_wp2_with fail
    generalize (w.alloc (.cells #[.int .i64 F, .int .i64 T, .int .i64 E] 34)).alloc (.cells #[.int .i64 0, .int .i64 0, .int .i64 0] 34) = w0 at *
    obtain ⟨s, hS⟩ : ∃ s, s = w.heap.size := ⟨_, rfl⟩
    rw [← hS] at hs hr
    try rw [← hS]
    refine (right_any F T E _).mono ?_
    rintro e w1 ⟨rfl, c1⟩
    replace hs := hs.chg c1 id
    replace hr := hr.chg c1 id
    replace cs := cs.trans c1
    have a0 : w1.cell? ⟨s, 0, none⟩ = some (.int .i64 F) := hs.cell 0
    have a1 : w1.cell? ⟨s, 1, none⟩ = some (.int .i64 T) := hs.cell 1
    have a2 : w1.cell? ⟨s, 2, none⟩ = some (.int .i64 E) := hs.cell 2
    have sf0 := hs.frozen 0
    have sf1 := hs.frozen 1
    have sf2 := hs.frozen 2
    have r0 : w1.cell? ⟨s + 1, 0, none⟩ = some (.int .i64 0) := hr.cell 0
    have r1 : w1.cell? ⟨s + 1, 1, none⟩ = some (.int .i64 0) := hr.cell 1
    have r2 : w1.cell? ⟨s + 1, 2, none⟩ = some (.int .i64 0) := hr.cell 2
    have rf0 := hr.frozen 0
    have rf1 := hr.frozen 1
    have rf2 := hr.frozen 2
    have HS := hide hS
    clear hs hr c1 hw hS
    go_wp2
    (try simp only [Exit.inBlock, Exit.then])
    refine bodyPost_ret (v := spV F F E) (by simp [results, Tryz.results81, go_sem, r0, r1, r2]) rfl ?_
    exact ⟨ret_any (by rw [HE.out.1, HE.out.2]), by have := HS.out; repeat (first | exact cs | refine Grow.put ?_ (by omega) _)⟩
  · have h' : riB F T E = false := by simpa using h
    have HE := hide (show orZ (riB F T E) F = 0 ∧ orZ (riB F T E) E = 0 by simp [orZ, h])
    clear h
    have hs := (Blk.new w 34 [.int .i64 F, .int .i64 T, .int .i64 E]).alloc (.cells [.int .i64 0, .int .i64 0, .int .i64 0].toArray 34)
    have hr := Blk.new (w.alloc (.cells [.int .i64 F, .int .i64 T, .int .i64 E].toArray 34)) 34 [.int .i64 0, .int .i64 0, .int .i64 0]
    have cs := Grow.two w (.cells [.int .i64 F, .int .i64 T, .int .i64 E].toArray 34) (.cells [.int .i64 0, .int .i64 0, .int .i64 0].toArray 34)
    rw [World.size_alloc] at hr
    have hw : w.heap.size ≤ w.heap.size := Nat.le_refl _
    go_enter Tryz.func81, Tryz.ntmps81
    go_wp2_with fail
    generalize (w.alloc (.cells #[.int .i64 F, .int .i64 T, .int .i64 E] 34)).alloc (.cells #[.int .i64 0, .int .i64 0, .int .i64 0] 34) = w0 at *
    obtain ⟨s, hS⟩ : ∃ s, s = w.heap.size := ⟨_, rfl⟩
    rw [← hS] at hs hr
    try rw [← hS]
    refine (right_any F T E _).mono ?_
    rintro e w1 ⟨rfl, c1⟩
    replace hs := hs.chg c1 id
    replace hr := hr.chg c1 id
    replace cs := cs.trans c1
    have a0 : w1.cell? ⟨s, 0, none⟩ = some (.int .i64 F) := hs.cell 0
    have a1 : w1.cell? ⟨s, 1, none⟩ = some (.int .i64 T) := hs.cell 1
    have a2 : w1.cell? ⟨s, 2, none⟩ = some (.int .i64 E) := hs.cell 2
    have sf0 := hs.frozen 0
    have sf1 := hs.frozen 1
    have sf2 := hs.frozen 2
    have r0 : w1.cell? ⟨s + 1, 0, none⟩ = some (.int .i64 0) := hr.cell 0
    have r1 : w1.cell? ⟨s + 1, 1, none⟩ = some (.int .i64 0) := hr.cell 1
    have r2 : w1.cell? ⟨s + 1, 2, none⟩ = some (.int .i64 0) := hr.cell 2
    have rf0 := hr.frozen 0
    have rf1 := hr.frozen 1
    have rf2 := hr.frozen 2
    have HS := hide hS
    clear hs hr c1 hw hS
    go_wp2
    (try simp only [Exit.inBlock, Exit.then])
    refine bodyPost_ret (v := spV 0 0 0) (by simp [results, Tryz.results81, go_sem, r0, r1, r2]) rfl ?_
    exact ⟨ret_any (by rw [HE.out.1, HE.out.2]), by have := HS.out; repeat (first | exact cs | refine Grow.put ?_ (by omega) _)⟩

end Go.Proofs.YtogfjclmohpjkaaGreatDoor.L2
/- What Take of package space, and of package gleaningref02, answers, and that 'awake' of the laws answers true. Conditions: the numbers given fit their kinds. -/
namespace Go.Proofs.YtogfjclmohpjkaaGreatDoor.L2
open Go.ChangeShapes Go.WideShapes Go.ChangeAt Go.RowKit
set_option linter.unusedVariables false
set_option maxRecDepth 100000

theorem room_ok (F T E : Int) (w : World) (h : riB F T E = true) :
    Calls Tryz.prog 21 #[spV F T E] w fun e w' => e = .returned (.int .i64 (E - T)) ∧ Grow w w' :=
  (room_any F T E w).mono fun _ _ ⟨he, hg⟩ => ⟨by rw [he, h]; rfl, hg⟩
theorem tk_no {F T E n : Int} (h : n < 1 ∨ riB F T E = false) : tkX F T E n = 1 := by simp [tkX, h]
theorem tk_full {F T E n : Int} (h1 : 1 ≤ n) (h2 : riB F T E = true) (h3 : E - T < n) : tkX F T E n = 3 := by
  unfold tkX
  rw [if_neg (by simp [h2]; omega), if_pos h3]
theorem tk_ok {F T E n : Int} (h1 : 1 ≤ n) (h2 : riB F T E = true) (h3 : n ≤ E - T) : tkX F T E n = 0 := by
  unfold tkX
  rw [if_neg (by simp [h2]; omega), if_neg (by omega)]
theorem tk_tuple {x y T a b c : Int} (h : x = y) (h1 : tkI y T = a) {F : Int} (h2 : tkI y F = b) {S E d : Int} (h3 : tkI y S = c) (h4 : tkI y E = d) :
    Value.tuple #[.int .i64 a, spV b c d, .int .i64 y] = .tuple #[.int .i64 (tkI x T), spV (tkI x F) (tkI x S) (tkI x E), .int .i64 x] := by
  subst h h1 h2 h3 h4
  rfl

set_option maxHeartbeats 1000000 in
theorem take_any (F T E n : Int) (w : World) (hn : n ≤ 9223372036854775807) :
    Calls Tryz.prog 107 #[spV F T E, .int .i64 n] w fun e w' => e = .returned (.tuple #[.int .i64 (tkI (tkX F T E n) T), spV (tkI (tkX F T E n) F) (tkI (tkX F T E n) (T + n)) (tkI (tkX F T E n) E), .int .i64 (tkX F T E n)]) ∧ Grow w w' := by
  by_cases h1 : n < 1
  · have HE := hide (tk_no (F := F) (T := T) (E := E) (.inl h1))
    go_enter Tryz.func107, Tryz.ntmps107
    go_wp2
    go_returns
    exact ⟨ret_any (tk_tuple HE.out (by simp [tkI]) (by simp [tkI]) (by simp [tkI]) (by simp [tkI])), Grow.two _ _ _⟩
  · by_cases h2 : riB F T E = true
    · obtain ⟨b1, b2, b3, b4⟩ := ri_true h2
      by_cases h3 : E - T < n
      · have HE := hide (tk_full (n := n) (by omega) h2 h3)
        have hs := (Blk.new w 34 [.int .i64 F, .int .i64 T, .int .i64 E]).alloc (.cells [.int .i64 0, .int .i64 0, .int .i64 0].toArray 34)
        have hr := Blk.new (w.alloc (.cells [.int .i64 F, .int .i64 T, .int .i64 E].toArray 34)) 34 [.int .i64 0, .int .i64 0, .int .i64 0]
        have cs := Grow.two w (.cells [.int .i64 F, .int .i64 T, .int .i64 E].toArray 34) (.cells [.int .i64 0, .int .i64 0, .int .i64 0].toArray 34)
        rw [World.size_alloc] at hr
        go_enter Tryz.func107, Tryz.ntmps107
        go_wp2_with fail
        generalize (w.alloc (.cells #[.int .i64 F, .int .i64 T, .int .i64 E] 34)).alloc (.cells #[.int .i64 0, .int .i64 0, .int .i64 0] 34) = w0 at *
        obtain ⟨s, hS⟩ : ∃ s, s = w.heap.size := ⟨_, rfl⟩
        rw [← hS] at hs hr
        try rw [← hS]
        have HS := hide hS
        clear hS
        refine (right_any F T E _).mono ?_
        rintro e w1 ⟨rfl, c1⟩
        replace hs := hs.chg c1 id
        replace hr := hr.chg c1 id
        replace cs := cs.trans c1
        clear c1
        have a0 : w1.cell? ⟨s, 0, none⟩ = some (.int .i64 F) := hs.cell 0
        have a1 : w1.cell? ⟨s, 1, none⟩ = some (.int .i64 T) := hs.cell 1
        have a2 : w1.cell? ⟨s, 2, none⟩ = some (.int .i64 E) := hs.cell 2
        have sf0 := hs.frozen 0
        have sf1 := hs.frozen 1
        have sf2 := hs.frozen 2
        have r0 : w1.cell? ⟨s + 1, 0, none⟩ = some (.int .i64 0) := hr.cell 0
        have r1 : w1.cell? ⟨s + 1, 1, none⟩ = some (.int .i64 0) := hr.cell 1
        have r2 : w1.cell? ⟨s + 1, 2, none⟩ = some (.int .i64 0) := hr.cell 2
        have rf0 := hr.frozen 0
        have rf1 := hr.frozen 1
        have rf2 := hr.frozen 2
        have HB := hide hs
        have HR := hide hr
        clear hs hr
        go_wp2_with fail
        refine (room_ok F T E _ h2).mono ?_
        rintro e w2 ⟨rfl, c2⟩
        have hs := HB.out.chg c2 id
        have hr := HR.out.chg c2 id
        replace cs := cs.trans c2
        clear a0 a1 a2 sf0 sf1 sf2 r0 r1 r2 rf0 rf1 rf2
        clear c2 HB HR
        have a0 : w2.cell? ⟨s, 0, none⟩ = some (.int .i64 F) := hs.cell 0
        have a1 : w2.cell? ⟨s, 1, none⟩ = some (.int .i64 T) := hs.cell 1
        have a2 : w2.cell? ⟨s, 2, none⟩ = some (.int .i64 E) := hs.cell 2
        have sf0 := hs.frozen 0
        have sf1 := hs.frozen 1
        have sf2 := hs.frozen 2
        have r0 : w2.cell? ⟨s + 1, 0, none⟩ = some (.int .i64 0) := hr.cell 0
        have r1 : w2.cell? ⟨s + 1, 1, none⟩ = some (.int .i64 0) := hr.cell 1
        have r2 : w2.cell? ⟨s + 1, 2, none⟩ = some (.int .i64 0) := hr.cell 2
        have rf0 := hr.frozen 0
        have rf1 := hr.frozen 1
        have rf2 := hr.frozen 2
        go_wp2
        (try simp only [Exit.inBlock, Exit.then])
        refine bodyPost_ret (v := .tuple #[.int .i64 0, spV 0 0 0, .int .i64 3]) (by simp [results, Tryz.results107, go_sem, r0, r1, r2]) rfl ?_
        exact ⟨ret_any (tk_tuple HE.out (by simp [tkI]) (by simp [tkI]) (by simp [tkI]) (by simp [tkI])), by have := HS.out; repeat (first | exact cs | exact Chg.drew ‹_› | refine Chg.drew ?_ | refine Chg.drewN ?_ _ | refine Grow.put ?_ (by omega) _)⟩
      · have HE := hide (tk_ok (n := n) (by omega) h2 (by omega))
        have hs := (Blk.new w 34 [.int .i64 F, .int .i64 T, .int .i64 E]).alloc (.cells [.int .i64 0, .int .i64 0, .int .i64 0].toArray 34)
        have hr := Blk.new (w.alloc (.cells [.int .i64 F, .int .i64 T, .int .i64 E].toArray 34)) 34 [.int .i64 0, .int .i64 0, .int .i64 0]
        have cs := Grow.two w (.cells [.int .i64 F, .int .i64 T, .int .i64 E].toArray 34) (.cells [.int .i64 0, .int .i64 0, .int .i64 0].toArray 34)
        rw [World.size_alloc] at hr
        go_enter Tryz.func107, Tryz.ntmps107
        go_wp2_with fail
        generalize (w.alloc (.cells #[.int .i64 F, .int .i64 T, .int .i64 E] 34)).alloc (.cells #[.int .i64 0, .int .i64 0, .int .i64 0] 34) = w0 at *
        obtain ⟨s, hS⟩ : ∃ s, s = w.heap.size := ⟨_, rfl⟩
        rw [← hS] at hs hr
        try rw [← hS]
        have HS := hide hS
        clear hS
        refine (right_any F T E _).mono ?_
        rintro e w1 ⟨rfl, c1⟩
        replace hs := hs.chg c1 id
        replace hr := hr.chg c1 id
        replace cs := cs.trans c1
        clear c1
        have a0 : w1.cell? ⟨s, 0, none⟩ = some (.int .i64 F) := hs.cell 0
        have a1 : w1.cell? ⟨s, 1, none⟩ = some (.int .i64 T) := hs.cell 1
        have a2 : w1.cell? ⟨s, 2, none⟩ = some (.int .i64 E) := hs.cell 2
        have sf0 := hs.frozen 0
        have sf1 := hs.frozen 1
        have sf2 := hs.frozen 2
        have r0 : w1.cell? ⟨s + 1, 0, none⟩ = some (.int .i64 0) := hr.cell 0
        have r1 : w1.cell? ⟨s + 1, 1, none⟩ = some (.int .i64 0) := hr.cell 1
        have r2 : w1.cell? ⟨s + 1, 2, none⟩ = some (.int .i64 0) := hr.cell 2
        have rf0 := hr.frozen 0
        have rf1 := hr.frozen 1
        have rf2 := hr.frozen 2
        have HB := hide hs
        have HR := hide hr
        clear hs hr
        go_wp2_with fail
        refine (room_ok F T E _ h2).mono ?_
        rintro e w2 ⟨rfl, c2⟩
        have hs := HB.out.chg c2 id
        have hr := HR.out.chg c2 id
        replace cs := cs.trans c2
        clear a0 a1 a2 sf0 sf1 sf2 r0 r1 r2 rf0 rf1 rf2
        clear c2 HB HR
        have a0 : w2.cell? ⟨s, 0, none⟩ = some (.int .i64 F) := hs.cell 0
        have a1 : w2.cell? ⟨s, 1, none⟩ = some (.int .i64 T) := hs.cell 1
        have a2 : w2.cell? ⟨s, 2, none⟩ = some (.int .i64 E) := hs.cell 2
        have sf0 := hs.frozen 0
        have sf1 := hs.frozen 1
        have sf2 := hs.frozen 2
        have r0 : w2.cell? ⟨s + 1, 0, none⟩ = some (.int .i64 0) := hr.cell 0
        have r1 : w2.cell? ⟨s + 1, 1, none⟩ = some (.int .i64 0) := hr.cell 1
        have r2 : w2.cell? ⟨s + 1, 2, none⟩ = some (.int .i64 0) := hr.cell 2
        have rf0 := hr.frozen 0
        have rf1 := hr.frozen 1
        have rf2 := hr.frozen 2
        go_wp2
        go_region
        go_wp2
        (try simp only [Exit.inBlock, Exit.then])
        refine bodyPost_ret (v := .tuple #[.int .i64 T, spV F (T + n) E, .int .i64 0]) (by simp [results, Tryz.results107, go_sem, r0, r1, r2]) rfl ?_
        exact ⟨ret_any (tk_tuple HE.out (by simp [tkI]) (by simp [tkI]) (by simp [tkI]) (by simp [tkI])), by have := HS.out; repeat (first | exact cs | exact Chg.drew ‹_› | refine Chg.drew ?_ | refine Chg.drewN ?_ _ | refine Grow.put ?_ (by omega) _)⟩
    · have h2' : riB F T E = false := by simpa using h2
      have HE := hide (tk_no (n := n) (.inr h2'))
      clear h2
      have hs := (Blk.new w 34 [.int .i64 F, .int .i64 T, .int .i64 E]).alloc (.cells [.int .i64 0, .int .i64 0, .int .i64 0].toArray 34)
      have hr := Blk.new (w.alloc (.cells [.int .i64 F, .int .i64 T, .int .i64 E].toArray 34)) 34 [.int .i64 0, .int .i64 0, .int .i64 0]
      have cs := Grow.two w (.cells [.int .i64 F, .int .i64 T, .int .i64 E].toArray 34) (.cells [.int .i64 0, .int .i64 0, .int .i64 0].toArray 34)
      rw [World.size_alloc] at hr
      go_enter Tryz.func107, Tryz.ntmps107
      go_wp2_with fail
      generalize (w.alloc (.cells #[.int .i64 F, .int .i64 T, .int .i64 E] 34)).alloc (.cells #[.int .i64 0, .int .i64 0, .int .i64 0] 34) = w0 at *
      obtain ⟨s, hS⟩ : ∃ s, s = w.heap.size := ⟨_, rfl⟩
      rw [← hS] at hs hr
      try rw [← hS]
      have HS := hide hS
      clear hS
      refine (right_any F T E _).mono ?_
      rintro e w1 ⟨rfl, c1⟩
      replace hs := hs.chg c1 id
      replace hr := hr.chg c1 id
      replace cs := cs.trans c1
      clear c1
      have a0 : w1.cell? ⟨s, 0, none⟩ = some (.int .i64 F) := hs.cell 0
      have a1 : w1.cell? ⟨s, 1, none⟩ = some (.int .i64 T) := hs.cell 1
      have a2 : w1.cell? ⟨s, 2, none⟩ = some (.int .i64 E) := hs.cell 2
      have sf0 := hs.frozen 0
      have sf1 := hs.frozen 1
      have sf2 := hs.frozen 2
      have r0 : w1.cell? ⟨s + 1, 0, none⟩ = some (.int .i64 0) := hr.cell 0
      have r1 : w1.cell? ⟨s + 1, 1, none⟩ = some (.int .i64 0) := hr.cell 1
      have r2 : w1.cell? ⟨s + 1, 2, none⟩ = some (.int .i64 0) := hr.cell 2
      have rf0 := hr.frozen 0
      have rf1 := hr.frozen 1
      have rf2 := hr.frozen 2
      clear hs hr
      go_wp2
      (try simp only [Exit.inBlock, Exit.then])
      refine bodyPost_ret (v := .tuple #[.int .i64 0, spV 0 0 0, .int .i64 1]) (by simp [results, Tryz.results107, go_sem, r0, r1, r2]) rfl ?_
      exact ⟨ret_any (tk_tuple HE.out (by simp [tkI]) (by simp [tkI]) (by simp [tkI]) (by simp [tkI])), by have := HS.out; repeat (first | exact cs | exact Chg.drew ‹_› | refine Chg.drew ?_ | refine Chg.drewN ?_ _ | refine Grow.put ?_ (by omega) _)⟩

end Go.Proofs.YtogfjclmohpjkaaGreatDoor.L2
/- That 'awake' of the laws of layer 2 answers true, and short forms of the contracts. Conditions: none. -/
namespace Go.Proofs.YtogfjclmohpjkaaGreatDoor.L2
open Go.ChangeShapes Go.WideShapes Go.ChangeAt Go.RowKit
set_option linter.unusedVariables false
set_option maxRecDepth 100000

/-- A block that holds a space. -/
abbrev Sp (w : World) (b : Nat) (F T E : Int) : Prop := Blk w b 34 [.int .i64 F, .int .i64 T, .int .i64 E]

theorem new_ok (f n : Int) (w : World) (h1 : 0 ≤ f) (h2 : 0 ≤ n) (h3 : f + n ≤ 4096) :
    Calls Tryz.prog 60 #[.int .i64 f, .int .i64 n] w fun e w' => e = .returned (.tuple #[spV f f (f + n), .int .i64 0]) ∧ Grow w w' :=
  (new_any f n w (by omega) (by omega)).mono fun _ _ ⟨he, hg⟩ => ⟨by
    have e : nwB f n = true := by simp [nwB]; omega
    rw [he]; simp [nwF, nwE, nwX, e], hg⟩
theorem new_no (f n : Int) (w : World) (h0 : f ≤ 9223372036854775807) (h1 : n ≤ 9223372036854775807) (h : nwB f n = false) :
    Calls Tryz.prog 60 #[.int .i64 f, .int .i64 n] w fun e w' => e = .returned (.tuple #[spV 0 0 0, .int .i64 1]) ∧ Grow w w' :=
  (new_any f n w h0 h1).mono fun _ _ ⟨he, hg⟩ => ⟨by rw [he]; simp [nwF, nwE, nwX, h], hg⟩
theorem take_ok (F T E n : Int) (w : World) (h : riB F T E = true) (h1 : 1 ≤ n) (h2 : n ≤ E - T) :
    Calls Tryz.prog 107 #[spV F T E, .int .i64 n] w fun e w' => e = .returned (.tuple #[.int .i64 T, spV F (T + n) E, .int .i64 0]) ∧ Grow w w' :=
  (take_any F T E n w (by have := ri_true h; omega)).mono fun _ _ ⟨he, hg⟩ => ⟨by rw [he, tk_ok h1 h h2]; simp [tkI], hg⟩
theorem take_full (F T E n : Int) (w : World) (h0 : n ≤ 9223372036854775807) (h : riB F T E = true) (h1 : 1 ≤ n) (h2 : E - T < n) :
    Calls Tryz.prog 107 #[spV F T E, .int .i64 n] w fun e w' => e = .returned (.tuple #[.int .i64 0, spV 0 0 0, .int .i64 3]) ∧ Grow w w' :=
  (take_any F T E n w h0).mono fun _ _ ⟨he, hg⟩ => ⟨by rw [he, tk_full h1 h h2]; simp [tkI], hg⟩
theorem take_no (F T E n : Int) (w : World) (h0 : n ≤ 9223372036854775807) (h : n < 1 ∨ riB F T E = false) :
    Calls Tryz.prog 107 #[spV F T E, .int .i64 n] w fun e w' => e = .returned (.tuple #[.int .i64 0, spV 0 0 0, .int .i64 1]) ∧ Grow w w' :=
  (take_any F T E n w h0).mono fun _ _ ⟨he, hg⟩ => ⟨by rw [he, tk_no h]; simp [tkI], hg⟩
theorem has_is (F T E a : Int) (w : World) {b : Bool} (h : hasB F T E a = b) :
    Calls Tryz.prog 19 #[spV F T E, .int .i64 a] w fun e w' => e = .returned (.bool b) ∧ Grow w w' :=
  (has_any F T E a w).mono fun _ _ ⟨he, hg⟩ => ⟨by rw [he, h], hg⟩
theorem right_is (F T E : Int) (w : World) {b : Bool} (h : riB F T E = b) :
    Calls Tryz.prog 52 #[spV F T E] w fun e w' => e = .returned (.bool b) ∧ Grow w w' :=
  (right_any F T E w).mono fun _ _ ⟨he, hg⟩ => ⟨by rw [he, h], hg⟩
theorem used_ok (F T E : Int) (w : World) (h : riB F T E = true) :
    Calls Tryz.prog 20 #[spV F T E] w fun e w' => e = .returned (.int .i64 (T - F)) ∧ Grow w w' :=
  (used_any F T E w).mono fun _ _ ⟨he, hg⟩ => ⟨by rw [he, h]; rfl, hg⟩
theorem used_no (F T E : Int) (w : World) (h : riB F T E = false) :
    Calls Tryz.prog 20 #[spV F T E] w fun e w' => e = .returned (.int .i64 0) ∧ Grow w w' :=
  (used_any F T E w).mono fun _ _ ⟨he, hg⟩ => ⟨by rw [he, h]; rfl, hg⟩
theorem room_no (F T E : Int) (w : World) (h : riB F T E = false) :
    Calls Tryz.prog 21 #[spV F T E] w fun e w' => e = .returned (.int .i64 0) ∧ Grow w w' :=
  (room_any F T E w).mono fun _ _ ⟨he, hg⟩ => ⟨by rw [he, h]; rfl, hg⟩
theorem empty_ok (F T E : Int) (w : World) (h : riB F T E = true) :
    Calls Tryz.prog 81 #[spV F T E] w fun e w' => e = .returned (spV F F E) ∧ Grow w w' :=
  (empty_any F T E w).mono fun _ _ ⟨he, hg⟩ => ⟨by rw [he, h]; rfl, hg⟩
theorem empty_no (F T E : Int) (w : World) (h : riB F T E = false) :
    Calls Tryz.prog 81 #[spV F T E] w fun e w' => e = .returned (spV 0 0 0) ∧ Grow w w' :=
  (empty_any F T E w).mono fun _ _ ⟨he, hg⟩ => ⟨by rw [he, h]; rfl, hg⟩

theorem used_is (F T E : Int) (w : World) (h : riB F T E = true) {v : Int} (hv : T - F = v) :
    Calls Tryz.prog 20 #[spV F T E] w fun e w' => e = .returned (.int .i64 v) ∧ Grow w w' :=
  (used_ok F T E w h).mono fun _ _ ⟨he, hg⟩ => ⟨by rw [he, hv], hg⟩
theorem room_is (F T E : Int) (w : World) (h : riB F T E = true) {v : Int} (hv : E - T = v) :
    Calls Tryz.prog 21 #[spV F T E] w fun e w' => e = .returned (.int .i64 v) ∧ Grow w w' :=
  (room_ok F T E w h).mono fun _ _ ⟨he, hg⟩ => ⟨by rw [he, hv], hg⟩

theorem _root_.Go.Proofs.YtogfjclmohpjkaaGreatDoor.Blk.cell3 {w : World} {b : Nat} {t : TypeId} {x y z : Value} (h : Blk w b t [x, y, z]) : w.cell? ⟨b, 0, none⟩ = some x ∧ w.cell? ⟨b, 1, none⟩ = some y ∧ w.cell? ⟨b, 2, none⟩ = some z :=
  ⟨h.cell 0, h.cell 1, h.cell 2⟩

end Go.Proofs.YtogfjclmohpjkaaGreatDoor.L2
/- What Split of package space, and of package gleaningref02, answer. Conditions: at most 200 sizes. -/
namespace Go.Proofs.YtogfjclmohpjkaaGreatDoor.L2
open Go.ChangeShapes Go.WideShapes Go.ChangeAt Go.RowKit
set_option linter.unusedVariables false
set_option maxRecDepth 100000

/-- The spaces: their beginnings and ends; none where one can't be. -/
def spl : Int → List Int → Option (List (Int × Int))
  | _, [] => some []
  | f, n :: ns => if nwB f n then (spl (f + n) ns).map ((f, f + n) :: ·) else none
def spCells (l : List (Int × Int)) : List Value := l.flatMap fun p => [.int .i64 p.1, .int .i64 p.1, .int .i64 p.2]
theorem spCells_append (l m : List (Int × Int)) : spCells (l ++ m) = spCells l ++ spCells m := by simp [spCells]
theorem spCells_length (l : List (Int × Int)) : (spCells l).length = l.length * 3 := by
  induction l with
  | nil => rfl
  | cons a l ih => simp only [spCells, List.flatMap_cons, List.length_append, List.length_cons, List.length_nil] at ih ⊢; omega
theorem spCells_get (l : List (Int × Int)) (i : Nat) (a b : Int) (h : l[i]? = some (a, b)) : (spCells l)[i * 3]? = some (.int .i64 a) ∧ (spCells l)[i * 3 + 1]? = some (.int .i64 a) ∧ (spCells l)[i * 3 + 2]? = some (.int .i64 b) := by
  induction l generalizing i with
  | nil => simp at h
  | cons p l ih =>
    cases i with
    | zero => simp at h; subst h; simp [spCells]
    | succ i =>
      have := ih i (by simpa using h)
      simp only [spCells, List.flatMap_cons] at this ⊢
      have e : ∀ j, (i + 1) * 3 + j = (i * 3 + j) + 3 := fun j => by omega
      rw [show (i + 1) * 3 = i * 3 + 3 by omega, show i * 3 + 3 + 1 = i * 3 + 1 + 3 by omega, show i * 3 + 3 + 2 = i * 3 + 2 + 3 by omega]
      simpa using this
theorem spl_step (f n : Int) (ns : List Int) (h : nwB f n = true) : spl f (n :: ns) = (spl (f + n) ns).map ((f, f + n) :: ·) := by simp [spl, h]
theorem spl_no (f n : Int) (ns : List Int) (h : nwB f n = false) : spl f (n :: ns) = none := by simp [spl, h]
theorem spl_next {f fr : Int} {zs : List Int} {k : Nat} {l : List (Int × Int)} (hk : k < zs.length) (h : spl f zs = (spl fr (zs.drop k)).map (l ++ ·)) (hn : nwB fr (zs.getD k 0) = true) :
    spl f zs = (spl (fr + zs.getD k 0) (zs.drop (k + 1))).map ((l ++ [(fr, fr + zs.getD k 0)]) ++ ·) := by
  have e : zs.drop k = zs.getD k 0 :: zs.drop (k + 1) := by
    rw [List.drop_eq_getElem_cons hk]; simp [List.getD_eq_getElem?_getD, hk]
  rw [h, e, spl_step _ _ _ hn, Option.map_map]
  congr 1
  funext x
  simp
theorem spl_stop {f fr : Int} {zs : List Int} {k : Nat} {l : List (Int × Int)} (hk : k < zs.length) (h : spl f zs = (spl fr (zs.drop k)).map (l ++ ·)) (hn : nwB fr (zs.getD k 0) = false) : spl f zs = none := by
  have e : zs.drop k = zs.getD k 0 :: zs.drop (k + 1) := by
    rw [List.drop_eq_getElem_cons hk]; simp [List.getD_eq_getElem?_getD, hk]
  rw [h, e, spl_no _ _ _ hn]; rfl

/-- What Split comes to. -/
def SplitPost (T : TypeId) (f : Int) (zs : List Int) (w : World) (e : Ending) (w' : World) : Prop :=
  (∃ l v, spl f zs = some l ∧ e = .returned (.tuple #[v, .int .i64 0]) ∧ w'.ownsRow w.heap.size T 3 v zs.length (spCells l) ∧ Grow w w') ∨
  (spl f zs = none ∧ e = .returned (.tuple #[.slice none 0 0, .int .i64 1]) ∧ Grow w w')
/-- Where its loop stands. -/
def SplitAt (T : TypeId) (f : Int) (zs : List Int) (w : World) (k : Nat) (fr : Int) (v : Value) (wr : World) : Prop :=
  ∃ l, spl f zs = (spl fr (zs.drop k)).map (l ++ ·) ∧ wr.ownsRow w.heap.size T 3 v k (spCells l) ∧ Grow w wr

theorem Tryz.infoSp : (Tryz.prog.info? 34).map (fun i => (i.zero, i.size, i.bytes)) = some (some (spV 0 0 0), 3, 24) := by kernel_rfl
theorem new_ok' (f n : Int) (w : World) (h1 : 0 ≤ f) (h2 : 0 ≤ n) (h3 : f + n ≤ 4096) :
    Calls Tryz.prog 60 #[.int .i64 f, .int .i64 n] w fun e w' => e = .returned (.tuple #[spV f f (f + n), .int .i64 0]) ∧ Grow w w' := new_ok f n w h1 h2 h3
set_option maxHeartbeats 2000000 in
set_option maxRecDepth 100000 in
theorem split_any (f : Int) (a : Option Addr) (len cap : Nat) (zs : List Int) (w : World) (hf : f ≤ 9223372036854775807) (h0 : IsRow .i64 w a len cap zs) (hl : len ≤ 200) :
    Calls Tryz.prog 28 #[.int .i64 f, .slice a len cap] w (SplitPost 34 f zs w) := by
  have H0 := hide h0
  obtain ⟨hzl, -, -, -, -⟩ := h0
  have HZL := hide hzl
  clear hzl
  obtain ⟨i0, hi0, hz0, hz1, hz2⟩ := info_parts Tryz.infoSp
  have HI := hide hi0
  have HZ0 := hide hz0
  have HZ1 := hide hz1
  have HZ2 := hide hz2
  clear hi0 hz0 hz1 hz2
  go_enter Tryz.func28, Tryz.ntmps28
  go_wp2
  go_loopw [0, 6, 13] (fun fv v i wr => ∃ (k : Nat) (fr : Int), k ≤ len ∧ i = .int .i64 k ∧ fv = .int .i64 fr ∧ fr ≤ 9223372036854775807 ∧ SplitAt 34 f zs w k fr v wr) (fun _ _ i _ => len - (intOf i).toNat)
  case atStart => exact ⟨0, f, Nat.zero_le _, rfl, rfl, hf, [], by simp, World.ownsRow_nil _ _ _ _, Chg.refl _ _⟩
  case round =>
    obtain ⟨k, fr, hk, rfl, rfl, hfr, l, hsp, hown, cc⟩ := hrel
    have HSP := hide hsp
    clear hsp
    by_cases hlt : k < len
    · obtain ⟨ad, rfl, hcell, hwf⟩ := (H0.out.chg cc (fun i hi => id)).at_ hlt
      have bz := bounds_i64 hwf
      obtain ⟨z, hz⟩ : ∃ z : Int, z = zs.getD k 0 := ⟨_, rfl⟩
      rw [← hz] at hcell bz
      have HZ := hide hz
      clear hz hwf
      by_cases hnw : nwB fr z = true
      · have hnw' : 0 ≤ fr ∧ 0 ≤ z ∧ z ≤ 4096 - fr := by simpa [nwB] using hnw
        have HNW := hide hnw
        clear hnw
        go_wp2_with fail
        refine (new_ok' fr z _ (by omega) (by omega) (by omega)).mono ?_
        rintro e w2 ⟨rfl, c2⟩
        have hs := (Blk.new w2 34 [.int .i64 fr, .int .i64 fr, .int .i64 (fr + z)]).alloc (.cells [.int .i64 fr, .int .i64 fr, .int .i64 (fr + z)].toArray 34)
        have hb := Blk.new (w2.alloc (.cells [.int .i64 fr, .int .i64 fr, .int .i64 (fr + z)].toArray 34)) 34 [.int .i64 fr, .int .i64 fr, .int .i64 (fr + z)]
        rw [World.size_alloc] at hb
        have ho := hown
        replace ho := ((own_grow ho c2).alloc (.cells [.int .i64 fr, .int .i64 fr, .int .i64 (fr + z)].toArray 34)).alloc (.cells [.int .i64 fr, .int .i64 fr, .int .i64 (fr + z)].toArray 34)
        have c3 := ((cc.trans c2).alloc (.cells [.int .i64 fr, .int .i64 fr, .int .i64 (fr + z)].toArray 34)).alloc (.cells [.int .i64 fr, .int .i64 fr, .int .i64 (fr + z)].toArray 34)
        have HNO := hide (own_old (own_grow hown c2) (Nat.le_refl _))
        have HS := hide hs
        have HB := hide hb
        have HO := hide ho
        have HC := hide c3
        clear hs hb ho c3 hown
        go_wp2_with (at_builtin; refine wpList_append_own _ rfl _ _ 69 rfl w.heap.size 34 i0 (spV 0 0 0) 3 24 Tryz.underlying69 HI.out HZ0.out HZ1.out HZ2.out rfl (by decide) _ _ _ rfl HO.out ⟨w2.heap.size + 1, 0, none⟩ 1 1 [.int .i64 fr, .int .i64 fr, .int .i64 (fr + z)] rfl rfl ?c1 ?c2 ?c3 ?c4 ?c5 ?_)
        case c1 => intro j u hj; rw [addr_add, Nat.zero_add, HB.out.cell]; exact hj
        case c2 => intro u hu; simp at hu; rcases hu with rfl | rfl <;> rfl
        case c3 => unfold maxLen; omega
        case c4 => omega
        case c5 => exact HC.out.size
        intro v' w3 hown3 hgrow _
        have c3 := Chg.grownOwn HC.out HO.out (Nat.le_refl _) hgrow
        have hs := HS.out.grownOwn hgrow HNO.out
        have HO3 := hide hown3
        have HC3 := hide c3
        clear hgrow hown3 c3 HC HO HNO HB HS cc c2
        obtain ⟨s0, s1, s2⟩ := hs.cell3
        clear hs
        go_wp2
        go_roundw
        case rel =>
          refine ⟨k + 1, fr + z, by omega, by go_num, rfl, by omega, l ++ [(fr, fr + z)], ?_, ?_, HC3.out⟩
          · have := spl_next (by rw [HZL.out]; exact hlt) HSP.out (by rw [← HZ.out]; exact HNW.out)
            rw [← HZ.out] at this
            exact this
          · rw [spCells_append]; exact HO3.out
        case measure => simp [intOf]; omega
      · have HNW := hide (show nwB fr z = false by simpa using hnw)
        clear hnw
        go_wp2_with fail
        refine (new_no fr z _ (by omega) (by omega) HNW.out).mono ?_
        rintro e w2 ⟨rfl, c2⟩
        go_wp2
        go_returns
        exact .inr ⟨spl_stop (by rw [HZL.out]; exact hlt) HSP.out (by rw [← HZ.out]; exact HNW.out), rfl, (cc.trans c2).alloc _⟩
    · obtain rfl : len = k := by omega
      have HO := hide hown
      clear hown
      go_wp2
      go_returns
      refine .inl ⟨l, _, ?_, rfl, by rw [HZL.out]; exact HO.out, cc⟩
      have := HSP.out
      rw [List.drop_eq_nil_of_le (by rw [HZL.out]; exact Nat.le_refl _)] at this
      simpa [spl] using this
end Go.Proofs.YtogfjclmohpjkaaGreatDoor.L2
/- Plain facts about spaces that are split. Conditions: none. -/
namespace Go.Proofs.YtogfjclmohpjkaaGreatDoor.L2
open Go.ChangeShapes Go.WideShapes Go.ChangeAt Go.RowKit
set_option linter.unusedVariables false
set_option maxRecDepth 100000

/-- Where the space number i begins. -/
def ps (f : Int) (zs : List Int) (i : Nat) : Int := f + (zs.take i).sum
theorem ps_zero (f : Int) (zs : List Int) : ps f zs 0 = f := by simp [ps]
theorem ps_succ (f : Int) (zs : List Int) (i : Nat) (h : i < zs.length) : ps f zs (i + 1) = ps f zs i + zs.getD i 0 := by
  unfold ps
  rw [List.take_succ_eq_append_getElem h, List.sum_append]
  simp [List.getD_eq_getElem?_getD, h]
  omega
theorem ps_cons (f n : Int) (zs : List Int) (i : Nat) : ps f (n :: zs) (i + 1) = ps (f + n) zs i := by
  simp [ps]; omega
theorem spl_length {f : Int} {zs : List Int} {l : List (Int × Int)} (h : spl f zs = some l) : l.length = zs.length := by
  induction zs generalizing f l with
  | nil => simp [spl] at h; subst h; rfl
  | cons n zs ih =>
    by_cases hn : nwB f n = true
    · rw [spl_step _ _ _ hn] at h
      obtain ⟨l', h', rfl⟩ := Option.map_eq_some_iff.1 h
      simp [ih h']
    · rw [spl_no _ _ _ (by simpa using hn)] at h; cases h
theorem spl_get {f : Int} {zs : List Int} {l : List (Int × Int)} (h : spl f zs = some l) {i : Nat} (hi : i < zs.length) :
    l[i]? = some (ps f zs i, ps f zs (i + 1)) ∧ 0 ≤ ps f zs i ∧ ps f zs i ≤ ps f zs (i + 1) ∧ ps f zs (i + 1) ≤ 4096 := by
  induction zs generalizing f l i with
  | nil => simp at hi
  | cons n zs ih =>
    by_cases hn : nwB f n = true
    · rw [spl_step _ _ _ hn] at h
      obtain ⟨l', h', rfl⟩ := Option.map_eq_some_iff.1 h
      have hn' : 0 ≤ f ∧ 0 ≤ n ∧ n ≤ 4096 - f := by simpa [nwB] using hn
      cases i with
      | zero => rw [ps_zero, ps_cons, ps_zero]; exact ⟨rfl, by omega, by omega, by omega⟩
      | succ i =>
        rw [ps_cons, ps_cons]
        have := ih h' (i := i) (by simpa using hi)
        simpa using this
    · rw [spl_no _ _ _ (by simpa using hn)] at h; cases h
theorem spl_all (f : Int) (zs : List Int) (m : Nat) (hm : zs.length ≤ m) (h0 : 0 ≤ f) (hf : f + 255 * m ≤ 4096) (hz : ∀ z ∈ zs, 0 ≤ z ∧ z ≤ 255) : ∃ l, spl f zs = some l := by
  induction zs generalizing f m with
  | nil => exact ⟨[], rfl⟩
  | cons n zs ih =>
    have hn := hz n (by simp)
    cases m with
    | zero => simp at hm
    | succ m =>
      obtain ⟨l, hl⟩ := ih (f + n) m (by simpa using hm) (by omega) (by omega) (fun z h => hz z (by simp [h]))
      exact ⟨_, by rw [spl_step _ _ _ (by simp [nwB]; omega), hl]; rfl⟩
theorem own_two {w : World} {base size n cap : Nat} {e : TypeId} {a : Option Addr} {xs : List Value} (h : w.ownsRow base e size (.slice a n cap) n xs) (hn : 0 < n) : ∃ g, a = some ⟨g, 0, none⟩ ∧ g < w.heap.size ∧ n ≤ cap ∧ cap ≤ maxLen := by
  obtain ⟨g, c, hv, _, h1, h2, h3⟩ := own_form h hn
  injection hv with e1 e2 e3
  subst e3
  exact ⟨g, e1, h1, h2, h3⟩
theorem own_sp {w : World} {base g n cap : Nat} {e : TypeId} {l : List (Int × Int)} (h : w.ownsRow base e 3 (.slice (some ⟨g, 0, none⟩) n cap) n (spCells l)) {i : Nat} (hi : i < n) {a b : Int} (hl : l[i]? = some (a, b)) :
    w.cell? ⟨g, i * 3, none⟩ = some (.int .i64 a) ∧ w.cell? ⟨g, i * 3 + 1, none⟩ = some (.int .i64 a) ∧ w.cell? ⟨g, i * 3 + 2, none⟩ = some (.int .i64 b) := by
  obtain ⟨h1, h2, h3⟩ := spCells_get l i a b hl
  rw [h.cellAt _ (by omega), h.cellAt _ (by omega), h.cellAt _ (by omega)]
  exact ⟨h1, h2, h3⟩
end Go.Proofs.YtogfjclmohpjkaaGreatDoor.L2

/- What each call of package mem does to an arena whose words are known. Conditions: the numbers given fit their kinds; an arena has at most 4096 words. -/
import Derived.Test.YtaddomgjjemglaaDoorKit
import Derived.Test.YtaddomgjjemglaaDoorInts
namespace Go.Proofs.YtaddomgjjemglaaDoor.L1
open Go.ChangeShapes Go.WideShapes Go.ChangeAt Go.RowKit
set_option linter.unusedVariables false

/-- The value pv leads to the list '.slice A n n' of words: nil leads to none. -/
def Sl (w : World) (pv : Value) (A : Option Addr) (n : Nat) : Prop :=
  (pv = .pointer none ∧ A = none ∧ n = 0) ∨ ∃ b, pv = .pointer (some ⟨b, 0, none⟩) ∧ w.cell? ⟨b, 0, none⟩ = some (.slice A n n)

abbrev ptr (p : Nat) : Value := .pointer (some ⟨p, 0, none⟩)

theorem Sl.drewN {w : World} {pv : Value} {A : Option Addr} {n : Nat} (h : Sl w pv A n) (k : Nat) : Sl (w.drewN k) pv A n := h
theorem quietly {P : Program} {f : FuncId} {args : Array Value} {w : World} {n : Nat} {v : Value} (h : Calls P f args (w.drewN n) fun e w' => e = .returned v ∧ w.drewN n = w') :
    Calls P f args (w.drewN n) fun e w'' => e = .returned v ∧ ∃ m, w'' = w.drewN m := h.mono fun _ _ ⟨he, hm⟩ => ⟨he, n, hm.symm⟩
/-- Is a stretch there? -/
def exB (n : Nat) (at_ words : Int) : Bool := decide (0 ≤ at_ ∧ 0 ≤ words ∧ words ≤ n - at_)

/-- How many words New makes. -/
def clamp (n : Int) : Nat := (min (max n 0) 4096).toNat

theorem chg_new (w : World) (o o' : Obj) : Chg (fun _ => False) w ((w.alloc o).alloc o') := ((Chg.refl _ _).alloc _).alloc _

/-- The words when the first k of a stretch are filled. -/
def fillTo (xs : List Int) (a : Nat) (v : Int) : Nat → List Int
  | 0 => xs
  | k + 1 => (fillTo xs a v k).set (a + k) v
theorem fillTo_length (xs : List Int) (a : Nat) (v : Int) (k : Nat) : (fillTo xs a v k).length = xs.length := by
  induction k with
  | zero => rfl
  | succ k ih => simp [fillTo, ih]

theorem splice_all {α : Type} (L cs : List α) (h : cs.length = L.length) : splice L 0 cs = cs := by
  simp [splice, h]
theorem _root_.Go.Proofs.YtaddomgjjemglaaDoor.Blk.src {w : World} {g : Nat} {xs : List Int} (h : Blk w g 3 (ints xs)) (a m : Nat) (j : Nat) (v : Value) (hj : (ints ((xs.drop a).take m))[j]? = some v) : w.cell? ((⟨g, a, none⟩ : Addr).add j) = some v := by
  rw [addr_add, h.cell, ← hj]
  simp only [ints, List.getElem?_map, List.getElem?_take, List.getElem?_drop]
  split
  · rfl
  · rename_i hn
    simp [ints, List.getElem?_take, hn] at hj
theorem length_cut (xs : List Int) (a m : Nat) (h : a + m ≤ xs.length) : ((xs.drop a).take m).length = m := by simp; omega

theorem copy_none (dp sp : Option Addr) (dc sc : Nat) (W : World) : (Builtin.copy_ #[23, 23] 3 #[.slice dp 0 dc, .slice sp 0 sc]).run Tryd.prog W = .ok (.int .i64 0) W :=
  run_copy_none (P := Tryd.prog) W _ _ _ 3 dp sp 0 dc 0 sc Tryd.underlying23 Tryd.sizeInt rfl

end Go.Proofs.YtaddomgjjemglaaDoor.L1

/- What each call of package mem does to an arena whose words are known. Conditions: the numbers given fit their kinds; an arena has at most 4096 words. -/
import Derived.Test.YtjfpjnhlnoiekaaGreatKit
import Derived.Test.YtjfpjnhlnoiekaaGreatInts
namespace Go.Proofs.YtjfpjnhlnoiekaaGreat.L1
open Go.ChangeShapes Go.WideShapes Go.ChangeAt Go.RowKit
set_option linter.unusedVariables false

/-- The value pv leads to the list '.slice A n n' of words: nil leads to none. -/
def Sl (w : World) (pv : Value) (A : Option Addr) (n : Nat) : Prop :=
  (pv = .pointer none ∧ A = none ∧ n = 0) ∨ ∃ b, pv = .pointer (some ⟨b, 0, none⟩) ∧ w.cell? ⟨b, 0, none⟩ = some (.slice A n n)

abbrev ptr (p : Nat) : Value := .pointer (some ⟨p, 0, none⟩)

theorem Sl.drewN {w : World} {pv : Value} {A : Option Addr} {n : Nat} (h : Sl w pv A n) (k : Nat) : Sl (w.drewN k) pv A n := h
theorem quietly {P : Program} {f : FuncId} {args : Array Value} {w : World} {n : Nat} {v : Value} (h : Calls P f args (w.drewN n) fun e w' => e = .returned v ∧ w.drewN n = w') :
    Calls P f args (w.drewN n) fun e w'' => e = .returned v ∧ ∃ m, w'' = w.drewN m := h.mono fun _ _ ⟨he, hm⟩ => ⟨he, n, hm.symm⟩
/-- Is a stretch there? -/
def exB (n : Nat) (at_ words : Int) : Bool := decide (0 ≤ at_ ∧ 0 ≤ words ∧ words ≤ n - at_)

/-- How many words New makes. -/
def clamp (n : Int) : Nat := (min (max n 0) 4096).toNat

theorem chg_new (w : World) (o o' : Obj) : Chg (fun _ => False) w ((w.alloc o).alloc o') := ((Chg.refl _ _).alloc _).alloc _

/-- The words when the first k of a stretch are filled. -/
def fillTo (xs : List Int) (a : Nat) (v : Int) : Nat → List Int
  | 0 => xs
  | k + 1 => (fillTo xs a v k).set (a + k) v
theorem fillTo_length (xs : List Int) (a : Nat) (v : Int) (k : Nat) : (fillTo xs a v k).length = xs.length := by
  induction k with
  | zero => rfl
  | succ k ih => simp [fillTo, ih]

theorem splice_all {α : Type} (L cs : List α) (h : cs.length = L.length) : splice L 0 cs = cs := by
  simp [splice, h]
theorem _root_.Go.Proofs.YtjfpjnhlnoiekaaGreat.Blk.src {w : World} {g : Nat} {xs : List Int} (h : Blk w g 3 (ints xs)) (a m : Nat) (j : Nat) (v : Value) (hj : (ints ((xs.drop a).take m))[j]? = some v) : w.cell? ((⟨g, a, none⟩ : Addr).add j) = some v := by
  rw [addr_add, h.cell, ← hj]
  simp only [ints, List.getElem?_map, List.getElem?_take, List.getElem?_drop]
  split
  · rfl
  · rename_i hn
    simp [ints, List.getElem?_take, hn] at hj
theorem length_cut (xs : List Int) (a m : Nat) (h : a + m ≤ xs.length) : ((xs.drop a).take m).length = m := by simp; omega

theorem copy_none (dp sp : Option Addr) (dc sc : Nat) (W : World) : (Builtin.copy_ #[27, 27] 3 #[.slice dp 0 dc, .slice sp 0 sc]).run Tryz.prog W = .ok (.int .i64 0) W :=
  run_copy_none (P := Tryz.prog) W _ _ _ 3 dp sp 0 dc 0 sc Tryz.underlying27 Tryz.sizeInt rfl

end Go.Proofs.YtjfpjnhlnoiekaaGreat.L1
/- What Move of package mem does to an arena whose words are known, and that the statements' own first look is true. Conditions: as in the text before. -/
namespace Go.Proofs.YtjfpjnhlnoiekaaGreat.L1
open Go.ChangeShapes Go.WideShapes Go.ChangeAt Go.RowKit
set_option linter.unusedVariables false

end Go.Proofs.YtjfpjnhlnoiekaaGreat.L1
/- What the calls of package gleaningref01 (the plain arena) do. Conditions: lists of at most 2^40 words. -/
namespace Go.Proofs.YtjfpjnhlnoiekaaGreat.L1
open Go.ChangeShapes Go.WideShapes Go.ChangeAt Go.RowKit
set_option linter.unusedVariables false

/-- The list '.slice a n _' reads as xs. -/
def Rd (w : World) (a : Option Addr) (n : Nat) (xs : List Int) : Prop :=
  xs.length = n ∧ (0 < n → ∃ x : Addr, a = some x ∧ ∀ i, i < n → w.cell? (x.add i) = some (.int .i64 (xs.getD i 0)))
theorem Rd.at_ {w : World} {a : Option Addr} {n : Nat} {xs : List Int} (h : Rd w a n xs) {i : Nat} (hi : i < n) : ∃ x : Addr, a = some x ∧ w.cell? (x.add i) = some (.int .i64 (xs.getD i 0)) := by
  obtain ⟨x, e, hx⟩ := h.2 (by omega)
  exact ⟨x, e, hx i hi⟩
theorem Rd.of_blk {w : World} {g : Nat} {xs : List Int} {n : Nat} (h : Blk w g 3 (ints xs)) (hn : xs.length = n) : Rd w (some ⟨g, 0, none⟩) n xs :=
  ⟨hn, fun _ => ⟨_, rfl, fun i hi => by rw [addr_add, Nat.zero_add, h.cell, ints_get _ _ (by omega)]⟩⟩
theorem Rd.of_cut {w : World} {g : Nat} {xs : List Int} {a m : Nat} (h : Blk w g 3 (ints xs)) (hn : a + m ≤ xs.length) : Rd w (some ⟨g, a, none⟩) m ((xs.drop a).take m) :=
  ⟨by simp; omega, fun _ => ⟨_, rfl, fun i hi => by
    rw [addr_add, h.cell, ints_get _ _ (by omega)]
    simp [List.getD_eq_getElem?_getD, hi]⟩⟩
theorem Rd.nothing {w : World} {a : Option Addr} : Rd w a 0 [] := ⟨rfl, fun h => absurd h (by omega)⟩

set_option maxHeartbeats 400000 in
theorem same_quiet (a b : Option Addr) (n c d : Nat) (xs : List Int) (w : World) (h1 : Rd w a n xs) (h2 : Rd w b n xs) (hn : n ≤ 1099511627776) :
    Calls Tryz.prog 10 #[.slice a n c, .slice b n d] w fun e w' => e = .returned (.bool true) ∧ ∃ m, w' = w.drewN m := by
  have H1 := hide h1
  have H2 := hide h2
  clear h1 h2
  go_enter Tryz.func10, Tryz.ntmps10
  go_wp2
  go_loopw [13] (fun i wr => ∃ k q : Nat, k ≤ n ∧ i = .int .i64 k ∧ wr = w.drewN q) (fun i _ => n - (intOf i).toNat)
  case atStart => exact ⟨0, 0, Nat.zero_le _, rfl, rfl⟩
  case round =>
    obtain ⟨k, q, hk, rfl, rfl⟩ := hrel
    by_cases hlt : k < n
    · obtain ⟨x, rfl, hx⟩ := H1.out.at_ hlt
      obtain ⟨y, rfl, hy⟩ := H2.out.at_ hlt
      generalize xs.getD k 0 = z at *
      have hi : (k : Int) < n := by omega
      go_wp2
      go_quiet (fail)
      go_wp2
      go_roundw
      case rel => exact ⟨k + 1, _, by omega, by go_num, rfl⟩
      case measure => simp [intOf]; omega
    · go_wp2
      go_ret
      exact ⟨rfl, _, rfl⟩

theorem same_yes (a b : Option Addr) (n c d : Nat) (xs : List Int) (w : World) (h1 : Rd w a n xs) (h2 : Rd w b n xs) (hn : n ≤ 1099511627776) :
    Calls Tryz.prog 10 #[.slice a n c, .slice b n d] w fun e w' => e = .returned (.bool true) ∧ Chg (fun _ => False) w w' :=
  (same_quiet a b n c d xs w h1 h2 hn).mono fun _ _ ⟨he, m, hm⟩ => ⟨he, by rw [hm]; exact (Chg.refl _ _).drewN _⟩
theorem Rd.drewN {w : World} {a : Option Addr} {n : Nat} {xs : List Int} (h : Rd w a n xs) (k : Nat) : Rd (w.drewN k) a n xs := h

/-- The error's number; the words behind a Store, a Fill, a Move. -/
def er (b : Bool) : Int := if b then 0 else 2
def stL (xs : List Int) (i v : Int) : List Int := if exB xs.length i 1 then xs.set i.toNat v else xs
def fiL (xs : List Int) (i m v : Int) : List Int := if exB xs.length i m then fillTo xs i.toNat v m.toNat else xs
def mvL (xs : List Int) (i j m : Int) : List Int := if exB xs.length i m && exB xs.length j m then splice xs i.toNat ((xs.drop j.toNat).take m.toNat) else xs

end Go.Proofs.YtjfpjnhlnoiekaaGreat.L1

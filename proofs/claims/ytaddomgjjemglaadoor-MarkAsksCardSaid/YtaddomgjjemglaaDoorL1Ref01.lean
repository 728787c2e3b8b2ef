/- What the calls of package gleaningref01 (the plain arena) do. Conditions: lists of at most 2^40 words. -/
import Derived.Test.YtaddomgjjemglaaDoorL1Mem2
namespace Go.Proofs.YtaddomgjjemglaaDoor.L1
open Go.ChangeShapes Go.WideShapes Go.ChangeAt Go.RowKit
set_option linter.unusedVariables false

/-- The list '.slice a n _' reads as xs. -/
def Rd (w : World) (a : Option Addr) (n : Nat) (xs : List Int) : Prop :=
  xs.length = n ∧ (0 < n → ∃ x : Addr, a = some x ∧ ∀ i, i < n → w.cell? (x.add i) = some (.int .i64 (xs.getD i 0)))
theorem Rd.at_ {w : World} {a : Option Addr} {n : Nat} {xs : List Int} (h : Rd w a n xs) {i : Nat} (hi : i < n) : ∃ x : Addr, a = some x ∧ w.cell? (x.add i) = some (.int .i64 (xs.getD i 0)) := by
  obtain ⟨x, e, hx⟩ := h.2 (by omega)
  exact ⟨x, e, hx i hi⟩
theorem Rd.of_blk {w : World} {g : Nat} {xs : List Int} {n : Nat} (h : Blk w g 3 (ints xs)) (hn : xs.length = n) : Rd w (some ⟨g, 0, none⟩) n xs :=
  ⟨hn, fun _ => ⟨_, rfl, fun i hi => by rw [addr_add, Nat.zero_add, h.cell, ints_get _ _ (by omega)]⟩⟩
theorem Rd.of_cut {w : World} {g : Nat} {xs : List Int} {a m : Nat} (h : Blk w g 3 (ints xs)) (hn : a + m ≤ xs.length) : Rd w (some ⟨g, a, none⟩) m ((xs.drop a).take m) :=
  ⟨by simp; omega, fun _ => ⟨_, rfl, fun i hi => by
    rw [addr_add, h.cell, ints_get _ _ (by omega)]
    simp [List.getD_eq_getElem?_getD, hi]⟩⟩
theorem Rd.nothing {w : World} {a : Option Addr} : Rd w a 0 [] := ⟨rfl, fun h => absurd h (by omega)⟩

theorem Rd.drewN {w : World} {a : Option Addr} {n : Nat} {xs : List Int} (h : Rd w a n xs) (k : Nat) : Rd (w.drewN k) a n xs := h

/-- The error's number; the words behind a Store, a Fill, a Move. -/
def er (b : Bool) : Int := if b then 0 else 2
def stL (xs : List Int) (i v : Int) : List Int := if exB xs.length i 1 then xs.set i.toNat v else xs
def fiL (xs : List Int) (i m v : Int) : List Int := if exB xs.length i m then fillTo xs i.toNat v m.toNat else xs
def mvL (xs : List Int) (i j m : Int) : List Int := if exB xs.length i m && exB xs.length j m then splice xs i.toNat ((xs.drop j.toNat).take m.toNat) else xs

end Go.Proofs.YtaddomgjjemglaaDoor.L1

/- What QueueFifo does: lists of what went in and what came out. Conditions: none. -/
import Derived.Test.YtgaoodjlcjmomaaL12Fg
namespace Go.Proofs.Ytgaoodjlcjmomaa.L12
open Go.ChangeShapes Go.WideShapes Go.ChangeAt Go.RowKit
set_option linter.unusedVariables false
theorem Try.infoQL : (Try.prog.info? 25).map (fun i => (i.zero, i.size, i.bytes)) = some (some (.slice none 0 0), 1, 24) := by kernel_rfl
abbrev nil5 : Array Value := #[.slice none 0 0, .slice none 0 0, .slice none 0 0, .slice none 0 0, .slice none 0 0]
/-- make([][]int, 5). -/
theorem mk_five (W : World) :
    (Instr.makeSlice 51 (.int .i64 5) (.int .i64 5)).run Try.prog W = .ok (.slice (some ⟨W.heap.size, 0, none⟩) 5 5) (W.alloc (.cells nil5 25)) := by
  obtain ⟨i, hi, hz, hs, hb⟩ := info_parts Try.infoQL
  rw [run_make (P := Try.prog) W 51 25 i _ Try.underlying51 hi hz .i64 .i64 5 5 (by decide) (Int.le_refl _) (by rw [hb]; decide) (by omega)]
  have e : madeCells (Value.slice none 0 0).cells ((5 : Int).toNat * i.size) = nil5 := by
    apply Array.ext'
    rw [hs]
    show (madeCells #[.slice none 0 0] 5).toList = _
    rw [toList_madeCells_one]
    rfl
  rw [e]
  rfl
section
variable {Q In Out : Nat → List Int} {E Sn : List Int} {X : Nat} {x : Int}
/-- What went in came out, or is still there. -/
def Ff (Q In Out : Nat → List Int) : Prop := ∀ k, k < 4 → In (k + 1) = Out (k + 1) ++ Q k
theorem ff_poll (h : Ff Q In Out) (hX : X < 4) {l : List Int} (hq : Q X = x :: l) : Ff (upd Q X l) In (upd Out (X + 1) (Out (X + 1) ++ [x])) := fun k hk => by
  by_cases e : k = X
  · subst e
    rw [upd_at, upd_at, h k hk, hq]
    simp
  · rw [upd_ne _ _ e, upd_ne _ _ (by omega)]
    exact h k hk
theorem ff_put (h : Ff Q In Out) (hX : X < 4) : Ff (upd Q X (Q X ++ [x])) (upd In (X + 1) (In (X + 1) ++ [x])) Out := fun k hk => by
  by_cases e : k = X
  · subst e
    rw [upd_at, upd_at, h k hk, List.append_assoc]
  · rw [upd_ne _ _ e, upd_ne _ _ (by omega)]
    exact h k hk
theorem few5 {N : Nat} {i : Nat} (h : ∀ k, k < 5 → (Q k).length ≤ N) (x : Int) : ∀ k, k < 5 → (upd Q i (Q i ++ [x]) k).length ≤ N + 1 := fun k hk => by
  by_cases e : k = i
  · subst e
    rw [upd_at]
    have := h k hk
    simp; omega
  · rw [upd_ne _ _ e]
    have := h k hk
    omega
end
end Go.Proofs.Ytgaoodjlcjmomaa.L12

/- Lists of calls that come in. Conditions: none. -/
import Derived.Test.YtgaoodjlcjmomaaL12Many
import Derived.Test.YtgaoodjlcjmomaaOpen
namespace Go.Proofs.Ytgaoodjlcjmomaa.L12
open Go.ChangeShapes Go.WideShapes Go.ChangeAt Go.RowKit
set_option linter.unusedVariables false
/-- A list of calls that came in. -/
abbrev IsOps (w : World) (a : Option Addr) (len cap : Nat) (rows : List (List Value)) : Prop := IsRecs [some .i64, some .i64, some .i64] w a len cap rows
theorem IsOps.one {w : World} {a : Option Addr} {len cap : Nat} {rows : List (List Value)} (h : IsOps w a len cap rows) {i : Nat} (hi : i < len) :
    ∃ b off K G X, a = some ⟨b, off, none⟩ ∧ (w.cell? ⟨b, off + i * 3, none⟩ = some (.int .i64 K) ∧ w.cell? ⟨b, off + i * 3 + 1, none⟩ = some (.int .i64 G) ∧ w.cell? ⟨b, off + i * 3 + 2, none⟩ = some (.int .i64 X)) ∧
      In64 K ∧ In64 G ∧ In64 X := by
  obtain ⟨b, off, e, hc, hf⟩ := h.at_ hi
  obtain ⟨K, r1, e1, w1, hf⟩ := fits_int hf
  obtain ⟨G, r2, e2, w2, hf⟩ := fits_int hf
  obtain ⟨X, r3, e3, w3, hf⟩ := fits_int hf
  rw [e1, e2, e3] at hc
  exact ⟨b, off, K, G, X, e, ⟨hc 0 _ rfl, hc 1 _ rfl, hc 2 _ rfl⟩, w1, w2, w3⟩
theorem IsOps.grow {w w' : World} {a : Option Addr} {len cap : Nat} {rows : List (List Value)} (h : IsOps w a len cap rows) (c : Grow w w') : IsOps w' a len cap rows := IsRecs.chg h c fun _ _ => id
theorem open_ops {H : Type} {enc : TypeId × Value → H} {w : World} {base : Nat} {held : Bool} {r : Reach} {b0 : Nat} {v : Value} {d : DataW H} {p : List MemPlace}
    (hv : Value.okWide Try.prog w r b0 22 v) (h : DataW.Trod enc Try.prog w base (fun _ => true) held 22 v d p) : ∃ a len cap rows, v = .slice a len cap ∧ IsOps w a len cap rows :=
  open_recs _ Try.underlying22 Try.underlying34 (by kernel_rfl) (by kernel_rfl) (by kernel_rfl) (by decide) hv h
theorem u64_pos (G : Int) : 0 ≤ IntKind.u64.wrap G := by
  simp [IntKind.wrap, IntKind.signed, IntKind.bits]
  omega
/-- A queue's number, of any number. -/
theorem q_of (G : Int) : ∃ X : Nat, X < 4 ∧ wrap64 (1 + wrap64 ((IntKind.u64.wrap G).tmod 4)) = (X : Int) + 1 := by
  have h0 := u64_pos G
  have h1 : (IntKind.u64.wrap G).tmod 4 = IntKind.u64.wrap G % 4 := Int.tmod_eq_emod_of_nonneg h0
  rw [h1]
  generalize IntKind.u64.wrap G = u at *
  refine ⟨(u % 4).toNat, by omega, ?_⟩
  rw [wrap64_id (u % 4) (by omega), wrap64_id _ (by omega)]
  omega
/-- Lengths: of the lists, before. -/
def wl (Q : Nat → List Int) (j : Nat) : List Int := [0, if 0 < j then ((Q 0).length : Int) else 0, if 1 < j then ((Q 1).length : Int) else 0, if 2 < j then ((Q 2).length : Int) else 0, if 3 < j then ((Q 3).length : Int) else 0]
theorem wl_set (Q : Nat → List Int) {j : Nat} (h : j < 4) : (wl Q j).set (j + 1) ((Q j).length : Int) = wl Q (j + 1) := by
  rcases below5 (show j < 5 by omega) with rfl | rfl | rfl | rfl | rfl
  · simp [wl]
  · simp [wl]
  · simp [wl]
  · simp [wl]
  · omega
theorem wl_get (Q : Nat → List Int) {j : Nat} (h : j < 4) : (wl Q 4)[j + 1]? = some ((Q j).length : Int) := by
  rcases below5 (show j < 5 by omega) with rfl | rfl | rfl | rfl | rfl
  · simp [wl]
  · simp [wl]
  · simp [wl]
  · simp [wl]
  · omega
end Go.Proofs.Ytgaoodjlcjmomaa.L12

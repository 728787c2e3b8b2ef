/- That the program is awake, and short forms. Conditions: none. -/
import Derived.Test.YtjofdamobnemcaaL5Ask
namespace Go.Proofs.Ytjofdamobnemcaa.L5
open Go.ChangeShapes Go.WideShapes Go.ChangeAt Go.RowKit
set_option linter.unusedVariables false

/-- New of classes that can be together; of others. -/
theorem new_yes {a : Option Addr} {len cap : Nat} {cs : List Cl} (w : World) (h : IsCls w a len cap cs) (hl : len ≤ 100) (hX : newX cs = 0) :
    Calls Try.prog 15 #[.slice a len cap] w fun e w' => ∃ g v, e = .returned (.tuple #[.pointer (some ⟨g, 0, none⟩), .int .i64 0]) ∧ Tb w' w.heap.size (some ⟨g, 0, none⟩) v cs ∧ Grow w w' :=
  (new_any a len cap cs w h hl).mono fun e w' ⟨hc, hp⟩ => by
    rcases hp with ⟨_, g, v, he, ht⟩ | ⟨hn, _⟩
    · exact ⟨g, v, he, ht, hc⟩
    · exact absurd hX hn
theorem new_no {a : Option Addr} {len cap : Nat} {cs : List Cl} (w : World) (h : IsCls w a len cap cs) (hl : len ≤ 100) {X : Int} (hX : newX cs = X) (h0 : X ≠ 0) :
    Calls Try.prog 15 #[.slice a len cap] w fun e w' => e = .returned (.tuple #[.pointer none, .int .i64 X]) ∧ Grow w w' :=
  (new_any a len cap cs w h hl).mono fun e w' ⟨hc, hp⟩ => by
    rcases hp with ⟨hn, _⟩ | ⟨_, he⟩
    · exact absurd (hX.symm.trans hn) h0
    · rw [hX] at he; exact ⟨he, hc⟩
theorem words_is {w : World} {base : Nat} {p : Option Addr} {v : Value} {cs : List Cl} {n l V X : Int} (h : Tb w base p v cs) (hl : cs.length ≤ 100) (hall : cs.all Cl.rt = true) (hV : woV (clAt cs n) l = V) (hX : shX (clAt cs n) l = X) :
    Calls Try.prog 33 #[.pointer p, .int .i64 n, .int .i64 l] w fun e w' => e = .returned (.tuple #[.int .i64 V, .int .i64 X]) ∧ Grow w w' := by
  have h' := words_any h hl hall l n
  rwa [hV, hX] at h'
theorem holds_is {w : World} {base : Nat} {p : Option Addr} {v : Value} {cs : List Cl} {n l : Int} {b : Bool} (h : Tb w base p v cs) (hl : cs.length ≤ 100) (hb : hoB (clAt cs n) l = b) :
    Calls Try.prog 55 #[.pointer p, .int .i64 n, .int .i64 l] w fun e w' => e = .returned (.bool b) ∧ Grow w w' := by
  have h' := holds_any h hl l n
  rwa [hb] at h'

set_option maxRecDepth 100000 in
/-- A list of classes that is an argument. -/
theorem open_cls {H : Type} {enc : TypeId × Value → H} {W : World} {base : Nat} {held : Bool} {r : Reach} {b0 : Nat} {v : Value} {d : DataW H} {p : List MemPlace}
    (hv : Value.okWide Try.prog W r b0 22 v) (h : DataW.Trod enc Try.prog W base (fun _ => true) held 22 v d p) : ∃ a len cap cs, v = .slice a len cap ∧ IsCls W a len cap cs := by
  obtain ⟨a, len, cap, rows, rfl, hr⟩ := open_recs [some .i64, some .i64, some .i64, none] Try.underlying22 Try.underlying54 (by kernel_rfl) (by kernel_rfl) (by kernel_rfl) (by decide) hv h
  obtain ⟨cs, hc⟩ := hr.cls
  exact ⟨a, len, cap, cs, rfl, hc⟩
theorem sameC (K R D K' R' D' : Int) (f f' : Bool) (W : World) :
    (Op.equalIn 10000 54 (.agg #[.int .i64 K, .int .i64 R, .int .i64 D, .bool f]) (.agg #[.int .i64 K', .int .i64 R', .int .i64 D', .bool f'])).run Try.prog W = .ok (decide (K = K' ∧ R = R' ∧ D = D' ∧ f = f')) W := by
  go_simp
  by_cases h1 : K = K' <;> by_cases h2 : R = R' <;> by_cases h3 : D = D' <;> cases f <;> cases f' <;> simp [h1, h2, h3, go_sem]
theorem nil_cap {H : Type} {enc : TypeId × Value → H} {W : World} {base : Nat} {held : Bool} {t e : TypeId} {P : Program} {len cap : Nat} {d : DataW H} {p : List MemPlace} (ht : P.underlying t = some (.slice e))
    (h : DataW.Trod enc P W base (fun _ => true) held t (.slice none len cap) d p) : cap = 0 := by
  obtain ⟨fuel, hf⟩ := h
  rcases Go.Deep.open_slice ht hf with ⟨h0, _⟩ | ⟨x, l, c, m, n, D, Pl, hcs, _⟩
  · simp [Value.cells] at h0; omega
  · simp [Value.cells] at hcs
set_option maxRecDepth 100000 in
theorem open_cls0 {H : Type} {enc : TypeId × Value → H} {W : World} {base : Nat} {held : Bool} {r : Reach} {b0 : Nat} {v : Value} {d : DataW H} {p : List MemPlace}
    (hv : Value.okWide Try.prog W r b0 22 v) (h : DataW.Trod enc Try.prog W base (fun _ => true) held 22 v d p) : ∃ a len cap cs, v = .slice a len cap ∧ (IsCls W a len cap cs ∧ (a = none → cap = 0)) := by
  obtain ⟨a, len, cap, cs, rfl, hc⟩ := open_cls hv h
  exact ⟨a, len, cap, cs, rfl, hc, fun e => by subst e; exact nil_cap Try.underlying22 h⟩
end Go.Proofs.Ytjofdamobnemcaa.L5

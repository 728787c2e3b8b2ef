/- Plain facts about spaces that are split. Conditions: none. -/
import Derived.Test.YtbnnoelioiafdaaSplit
namespace Go.Proofs.Ytbnnoelioiafdaa
open Go.ChangeShapes Go.WideShapes Go.ChangeAt Go.RowKit
set_option linter.unusedVariables false

/-- Where the space number i begins. -/
def ps (f : Int) (zs : List Int) (i : Nat) : Int := f + (zs.take i).sum
theorem ps_zero (f : Int) (zs : List Int) : ps f zs 0 = f := by simp [ps]
theorem ps_succ (f : Int) (zs : List Int) (i : Nat) (h : i < zs.length) : ps f zs (i + 1) = ps f zs i + zs.getD i 0 := by
  unfold ps
  rw [List.take_succ_eq_append_getElem h, List.sum_append]
  simp [List.getD_eq_getElem?_getD, h]
  omega
theorem ps_cons (f n : Int) (zs : List Int) (i : Nat) : ps f (n :: zs) (i + 1) = ps (f + n) zs i := by
  simp [ps]; omega
theorem spl_length {f : Int} {zs : List Int} {l : List (Int × Int)} (h : spl f zs = some l) : l.length = zs.length := by
  induction zs generalizing f l with
  | nil => simp [spl] at h; subst h; rfl
  | cons n zs ih =>
    by_cases hn : nwB f n = true
    · rw [spl_step _ _ _ hn] at h
      obtain ⟨l', h', rfl⟩ := Option.map_eq_some_iff.1 h
      simp [ih h']
    · rw [spl_no _ _ _ (by simpa using hn)] at h; cases h
theorem spl_get {f : Int} {zs : List Int} {l : List (Int × Int)} (h : spl f zs = some l) {i : Nat} (hi : i < zs.length) :
    l[i]? = some (ps f zs i, ps f zs (i + 1)) ∧ 0 ≤ ps f zs i ∧ ps f zs i ≤ ps f zs (i + 1) ∧ ps f zs (i + 1) ≤ 4096 := by
  induction zs generalizing f l i with
  | nil => simp at hi
  | cons n zs ih =>
    by_cases hn : nwB f n = true
    · rw [spl_step _ _ _ hn] at h
      obtain ⟨l', h', rfl⟩ := Option.map_eq_some_iff.1 h
      have hn' : 0 ≤ f ∧ 0 ≤ n ∧ n ≤ 4096 - f := by simpa [nwB] using hn
      cases i with
      | zero => rw [ps_zero, ps_cons, ps_zero]; exact ⟨rfl, by omega, by omega, by omega⟩
      | succ i =>
        rw [ps_cons, ps_cons]
        have := ih h' (i := i) (by simpa using hi)
        simpa using this
    · rw [spl_no _ _ _ (by simpa using hn)] at h; cases h
theorem spl_all (f : Int) (zs : List Int) (m : Nat) (hm : zs.length ≤ m) (h0 : 0 ≤ f) (hf : f + 255 * m ≤ 4096) (hz : ∀ z ∈ zs, 0 ≤ z ∧ z ≤ 255) : ∃ l, spl f zs = some l := by
  induction zs generalizing f m with
  | nil => exact ⟨[], rfl⟩
  | cons n zs ih =>
    have hn := hz n (by simp)
    cases m with
    | zero => simp at hm
    | succ m =>
      obtain ⟨l, hl⟩ := ih (f + n) m (by simpa using hm) (by omega) (by omega) (fun z h => hz z (by simp [h]))
      exact ⟨_, by rw [spl_step _ _ _ (by simp [nwB]; omega), hl]; rfl⟩
theorem own_two {w : World} {base size n cap : Nat} {e : TypeId} {a : Option Addr} {xs : List Value} (h : w.ownsRow base e size (.slice a n cap) n xs) (hn : 0 < n) : ∃ g, a = some ⟨g, 0, none⟩ ∧ g < w.heap.size ∧ n ≤ cap ∧ cap ≤ maxLen := by
  obtain ⟨g, c, hv, _, h1, h2, h3⟩ := own_form h hn
  injection hv with e1 e2 e3
  subst e3
  exact ⟨g, e1, h1, h2, h3⟩
theorem own_sp {w : World} {base g n cap : Nat} {e : TypeId} {l : List (Int × Int)} (h : w.ownsRow base e 3 (.slice (some ⟨g, 0, none⟩) n cap) n (spCells l)) {i : Nat} (hi : i < n) {a b : Int} (hl : l[i]? = some (a, b)) :
    w.cell? ⟨g, i * 3, none⟩ = some (.int .i64 a) ∧ w.cell? ⟨g, i * 3 + 1, none⟩ = some (.int .i64 a) ∧ w.cell? ⟨g, i * 3 + 2, none⟩ = some (.int .i64 b) := by
  obtain ⟨h1, h2, h3⟩ := spCells_get l i a b hl
  rw [h.cellAt _ (by omega), h.cellAt _ (by omega), h.cellAt _ (by omega)]
  exact ⟨h1, h2, h3⟩
end Go.Proofs.Ytbnnoelioiafdaa

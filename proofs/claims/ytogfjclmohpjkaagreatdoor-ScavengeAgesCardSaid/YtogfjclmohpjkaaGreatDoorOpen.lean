/- How arguments that are structs of numbers and bools, and lists of these, are read. Conditions: each field takes one cell. -/
import Derived.Test.YtogfjclmohpjkaaGreatDoorKit
import Derived.Deep.Slices
import Derived.Deep.Fields
namespace Go.Proofs.YtogfjclmohpjkaaGreatDoor
open Go.ChangeShapes Go.WideShapes Go.ChangeAt Go.RowKit Go.Deep
set_option linter.unusedVariables false

/-- What a field is: an integer of a kind, or a bool. -/
def fits : List (Option IntKind) → List Value → Prop
  | [], [] => True
  | some k :: ks, v :: vs => (∃ n, v = .int k n ∧ (Lit.int k n).wf = true) ∧ fits ks vs
  | none :: ks, v :: vs => (∃ b, v = .bool b) ∧ fits ks vs
  | _, _ => False
def kindOf (P : Program) (f : Field) : Option (Option IntKind) := match P.underlying f.type with
  | some (.int k) => some (some k)
  | some .bool => some none
  | _ => none
def kindsOf (P : Program) : List Field → Option (List (Option IntKind))
  | [] => some []
  | f :: fs => match kindOf P f, kindsOf P fs with
    | some k, some ks => some (k :: ks)
    | _, _ => none

section
variable {H : Type} {enc : TypeId × Value → H} {P : Program} {w : World} {base : Nat} {spare : Nat → Bool} {held : Bool}
theorem fits_of (fs : List Field) : ∀ (ks : List (Option IntKind)) (cs : List Value), kindsOf P fs = some ks → cs.length = fs.length →
    (∀ (j : Nat) (f : Field), fs[j]? = some f → ∃ (c : Value) (n : Nat) (y : DataW H × List MemPlace), cs[j]? = some c ∧ DataW.trod enc P w base spare held n f.type [c] = some y) → fits ks cs := by
  induction fs with
  | nil =>
    intro ks cs hk hl _
    simp [kindsOf] at hk
    subst hk
    cases cs with
    | nil => exact trivial
    | cons _ _ => simp at hl
  | cons f fs ih =>
    intro ks cs hk hl hf
    cases cs with
    | nil => simp at hl
    | cons c cs =>
      simp only [kindsOf] at hk
      split at hk
      · rename_i k ks' hk1 hk2
        simp at hk
        subst hk
        have h0 := hf 0 f rfl
        obtain ⟨c', n, y, hc, ht⟩ := h0
        simp at hc
        subst hc
        have hr := ih ks' cs hk2 (by simpa using hl) (fun j g hg => by simpa using hf (j + 1) g (by simpa using hg))
        unfold kindOf at hk1
        split at hk1
        · rename_i k' hu
          simp at hk1
          subst hk1
          obtain ⟨m, e, _, hw⟩ := DataW.trod_int hu ht
          simp at e
          exact ⟨⟨m, e, hw⟩, hr⟩
        · rename_i hu
          simp at hk1
          subst hk1
          obtain ⟨b, e, _⟩ := DataW.trod_bool hu ht
          simp at e
          exact ⟨⟨b, e⟩, hr⟩
        · cases hk1
      · cases hk

theorem struct_cells {t : TypeId} {fs : Array Field} {fuel : Nat} {cs : List Value} {x : DataW H × List MemPlace} (ht : P.underlying t = some (.struct fs)) (hone : oneCellFields P fs = true) (hC : P.cellsOf t = fs.size)
    (h : DataW.trod enc P w base spare held fuel t cs = some x) :
    cs.length = fs.size ∧ ∀ (j : Nat) (f : Field), fs[j]? = some f → ∃ (c : Value) (n : Nat) (y : DataW H × List MemPlace), cs[j]? = some c ∧ DataW.trod enc P w base spare held n f.type [c] = some y := by
  obtain ⟨ys, n, _, _, hlen, hyl, hf⟩ := DataW.trod_struct ht h
  refine ⟨by omega, fun j f hj => ?_⟩
  obtain ⟨ho, hk⟩ := hone_of hone j f hj
  have hjl : j < fs.size := (Array.getElem?_eq_some_iff.1 hj).1
  have h1 := hf j f hj
  rw [ho, hk, List.drop_eq_getElem_cons (by omega)] at h1
  refine ⟨_, n, _, List.getElem?_eq_getElem (by omega), h1.trans (List.getElem?_eq_getElem (by omega))⟩

/-- A struct by value. -/
theorem open_rec {r : Reach} {b0 : Nat} {t : TypeId} {fs : Array Field} {v : Value} {d : DataW H} {p : List MemPlace} (ks : List (Option IntKind)) (ht : P.underlying t = some (.struct fs)) (hone : oneCellFields P fs = true) (hC : P.cellsOf t = fs.size)
    (hks : kindsOf P fs.toList = some ks) (hv : Value.okWide P w r b0 t v) (h : DataW.Trod enc P w base spare held t v d p) : ∃ cs : List Value, v = .agg cs.toArray ∧ fits ks cs := by
  obtain ⟨cs, rfl, hsz⟩ := okWide_struct ht hv
  obtain ⟨fuel, hf⟩ := h
  obtain ⟨hl, hg⟩ := struct_cells ht hone hC hf
  refine ⟨cs.toList, by simp, fits_of (enc := enc) (w := w) (base := base) (spare := spare) (held := held) fs.toList ks cs.toList hks (by simpa [Value.cells] using hl) (fun j f hj => ?_)⟩
  simpa [Value.cells] using hg j f (by simpa using hj)

/-- A list of structs that came in. -/
def IsRecs (ks : List (Option IntKind)) (w : World) (a : Option Addr) (len cap : Nat) (rows : List (List Value)) : Prop :=
  rows.length = len ∧ len ≤ cap ∧ cap ≤ maxLen ∧ (0 < len → ∃ b off, a = some ⟨b, off, none⟩ ∧ ∀ i, i < len → ∀ j c, (rows.getD i [])[j]? = some c → w.cell? ⟨b, off + i * ks.length + j, none⟩ = some c) ∧ ∀ i, i < len → fits ks (rows.getD i [])
end

theorem fits_int {k : IntKind} {ks : List (Option IntKind)} {cs : List Value} (h : fits (some k :: ks) cs) : ∃ n cs', cs = .int k n :: cs' ∧ (Lit.int k n).wf = true ∧ fits ks cs' := by
  cases cs with
  | nil => exact absurd h (by simp [fits])
  | cons v vs =>
    obtain ⟨⟨n, rfl, hw⟩, hr⟩ := h
    exact ⟨n, vs, rfl, hw, hr⟩
theorem fits_bool {ks : List (Option IntKind)} {cs : List Value} (h : fits (none :: ks) cs) : ∃ b cs', cs = .bool b :: cs' ∧ fits ks cs' := by
  cases cs with
  | nil => exact absurd h (by simp [fits])
  | cons v vs =>
    obtain ⟨⟨b, rfl⟩, hr⟩ := h
    exact ⟨b, vs, rfl, hr⟩
theorem fits_nil {cs : List Value} (h : fits [] cs) : cs = [] := by
  cases cs with
  | nil => rfl
  | cons v vs => exact absurd h (by simp [fits])

theorem fits_length : ∀ (ks : List (Option IntKind)) (cs : List Value), fits ks cs → cs.length = ks.length
  | [], [], _ => rfl
  | some k :: ks, v :: vs, h => by simpa using fits_length ks vs h.2
  | none :: ks, v :: vs, h => by simpa using fits_length ks vs h.2
theorem kinds_length {P : Program} : ∀ (fs : List Field) (ks : List (Option IntKind)), kindsOf P fs = some ks → ks.length = fs.length
  | [], ks, h => by simp [kindsOf] at h; subst h; rfl
  | f :: fs, ks, h => by
    simp only [kindsOf] at h
    split at h
    · rename_i hk
      simp at h
      subst h
      simpa using kinds_length fs _ hk
    · cases h

theorem add_add (x : Addr) (i j : Nat) : (x.add i).add j = x.add (i + j) := by
  unfold Addr.add
  by_cases hi : i = 0 <;> by_cases hj : j = 0 <;> simp [hi, hj, Nat.add_assoc]

theorem list_of {α : Type} (Q : Nat → α → Prop) (d : α) (n : Nat) (h : ∀ i, i < n → ∃ x, Q i x) : ∃ l : List α, l.length = n ∧ ∀ i, i < n → Q i (l.getD i d) := by
  induction n with
  | zero => exact ⟨[], rfl, fun i hi => absurd hi (by omega)⟩
  | succ n ih =>
    obtain ⟨l, hl, hq⟩ := ih fun i hi => h i (by omega)
    obtain ⟨x, hx⟩ := h n (by omega)
    refine ⟨l ++ [x], by simp [hl], fun i hi => ?_⟩
    rcases Nat.lt_or_ge i n with h1 | h1
    · have := hq i h1
      rwa [List.getD_eq_getElem?_getD, List.getElem?_append_left (by omega), ← List.getD_eq_getElem?_getD]
    · obtain rfl : i = n := by omega
      simpa [List.getD_eq_getElem?_getD, hl] using hx

theorem open_recs {H : Type} {enc : TypeId × Value → H} {P : Program} {w : World} {base : Nat} {held : Bool} {r : Reach} {b0 : Nat} {t e : TypeId} {fs : Array Field} {v : Value} {d : DataW H} {p : List MemPlace}
    (ks : List (Option IntKind)) (ht : P.underlying t = some (.slice e)) (he : P.underlying e = some (.struct fs)) (hone : oneCellFields P fs = true) (hC : P.cellsOf e = fs.size) (hks : kindsOf P fs.toList = some ks) (hpos : 0 < fs.size)
    (hv : Value.okWide P w r b0 t v) (h : DataW.Trod enc P w base (fun _ => true) held t v d p) : ∃ a len cap rows, v = .slice a len cap ∧ IsRecs ks w a len cap rows := by
  obtain ⟨a, len, cap, rfl⟩ := okWide_slice ht hv
  obtain ⟨fuel, hf⟩ := h
  have hkl : ks.length = fs.size := by simpa using kinds_length _ _ hks
  rcases open_slice ht hf with ⟨h0, _⟩ | ⟨x, l, c, m, n, D, Pl, hcs, _, hl, hm, hmm, _, hi⟩
  · simp [Value.cells] at h0
    obtain ⟨rfl, rfl, rfl⟩ := h0
    exact ⟨none, 0, 0, [], rfl, rfl, Nat.le_refl _, by simp [maxLen], fun h => absurd h (by omega), fun i hi => absurd hi (by omega)⟩
  · simp [Value.cells] at hcs
    obtain ⟨rfl, rfl, rfl⟩ := hcs
    have hm' : m = cap := by simpa using hmm
    subst hm'
    obtain ⟨rows, hrl, hq⟩ := list_of (fun i cs => w.cells? base (x.add (i * P.cellsOf e)) (P.cellsOf e) = some cs ∧ DataW.trod enc P w base (fun _ => true) held n e cs = some (D i, Pl i)) [] len (fun i him => hi i (by omega))
    have hcell : ∀ i, i < len → ∀ j c, (rows.getD i [])[j]? = some c → w.cell? (x.add (i * ks.length + j)) = some c := by
      intro i him j c hj
      obtain ⟨hc, _⟩ := hq i him
      obtain ⟨_, hcl, hat⟩ := World.cells?_some hc
      have hjl : j < P.cellsOf e := by have := (List.getElem?_eq_some_iff.1 hj).1; omega
      rw [← add_add, hkl, ← hC, hat j hjl, hj]
    refine ⟨_, _, _, rows, rfl, hrl, hl, hm, fun h0 => ?_, fun i him => ?_⟩
    · obtain ⟨hc, _⟩ := hq 0 h0
      obtain ⟨_, hcl, hat⟩ := World.cells?_some hc
      obtain ⟨bb, off, spot⟩ := x
      have h00 := hcell 0 h0 0 _ (List.getElem?_eq_getElem (by omega))
      have hspot : spot = none := by simpa [Addr.add] using World.cell?_spot h00
      subst hspot
      exact ⟨bb, off, rfl, fun i him j c hj => by have := hcell i him j c hj; rwa [addr_add, ← Nat.add_assoc] at this⟩
    · obtain ⟨hc, ht'⟩ := hq i him
      obtain ⟨hl', hg⟩ := struct_cells he hone hC ht'
      exact fits_of fs.toList ks _ hks (by simpa using hl') (fun j f hj => hg j f (by simpa using hj))
theorem IsRecs.at_ {ks : List (Option IntKind)} {w : World} {a : Option Addr} {len cap : Nat} {rows : List (List Value)} (h : IsRecs ks w a len cap rows) {i : Nat} (hi : i < len) :
    ∃ b off, a = some ⟨b, off, none⟩ ∧ (∀ j c, (rows.getD i [])[j]? = some c → w.cell? ⟨b, off + i * ks.length + j, none⟩ = some c) ∧ fits ks (rows.getD i []) := by
  obtain ⟨h1, h2, h3, h4, h5⟩ := h
  obtain ⟨b, off, rfl, hx⟩ := h4 (by omega)
  exact ⟨b, off, rfl, hx i hi, h5 i hi⟩
theorem IsRecs.chg {ks : List (Option IntKind)} {S : Nat → Prop} {w w' : World} {a : Option Addr} {len cap : Nat} {rows : List (List Value)} (h : IsRecs ks w a len cap rows) (c : Chg S w w') (hs : ∀ i, i < w.heap.size → ¬ S i) : IsRecs ks w' a len cap rows := by
  obtain ⟨h1, h2, h3, h4, h5⟩ := h
  refine ⟨h1, h2, h3, fun hl => ?_, h5⟩
  obtain ⟨b, off, rfl, hx⟩ := h4 hl
  exact ⟨b, off, rfl, fun i hi j u hu => c.cell (hx i hi j u hu) (hs _ (cell_lt (hx i hi j u hu)))⟩
end Go.Proofs.YtogfjclmohpjkaaGreatDoor

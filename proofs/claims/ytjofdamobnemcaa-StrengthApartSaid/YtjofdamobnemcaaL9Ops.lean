/- Lists of calls that come in: each with four numbers and a list. Conditions: none. -/
import Derived.Test.YtjofdamobnemcaaOpen
namespace Go.Proofs.Ytjofdamobnemcaa.L9
open Go.ChangeShapes Go.WideShapes Go.ChangeAt Go.RowKit Go.Deep
set_option linter.unusedVariables false

structure Oq where
  k : Int
  a : Int
  b : Int
  c : Int
  la : Option Addr
  ll : Nat
  lc : Nat
  zs : List Int
def Oq.cells (o : Oq) : List Value := [.int .i64 o.k, .int .i64 o.a, .int .i64 o.b, .int .i64 o.c, .slice o.la o.ll o.lc]
abbrev w64 (x : Int) : Prop := (Lit.int .i64 x).wf = true
structure Oq.Ok (w : World) (o : Oq) : Prop where
  k : w64 o.k
  a : w64 o.a
  b : w64 o.b
  c : w64 o.c
  row : IsRow .i64 w o.la o.ll o.lc o.zs
def o0 : Oq := ⟨0, 0, 0, 0, none, 0, 0, []⟩
/-- A list of calls. -/
def IsOps (w : World) (a : Option Addr) (len cap : Nat) (l : List Oq) : Prop :=
  l.length = len ∧ len ≤ cap ∧ cap ≤ maxLen ∧ (0 < len → ∃ b off, a = some ⟨b, off, none⟩ ∧ ∀ i, i < len → ∀ j c, ((l.getD i o0).cells)[j]? = some c → w.cell? ⟨b, off + i * 5 + j, none⟩ = some c) ∧ ∀ o ∈ l, o.Ok w
section
variable {w w' : World} {a : Option Addr} {len cap : Nat} {l : List Oq} {S : Nat → Prop}
theorem Oq.Ok.chg {o : Oq} (h : o.Ok w) (c : Chg S w w') (hs : ∀ i, i < w.heap.size → ¬ S i) : o.Ok w' := ⟨h.k, h.a, h.b, h.c, h.row.chg c hs⟩
theorem IsOps.chg (h : IsOps w a len cap l) (c : Chg S w w') (hs : ∀ i, i < w.heap.size → ¬ S i) : IsOps w' a len cap l := by
  obtain ⟨h1, h2, h3, h4, h5⟩ := h
  refine ⟨h1, h2, h3, fun hl => ?_, fun o ho => (h5 o ho).chg c hs⟩
  obtain ⟨b, off, rfl, hx⟩ := h4 hl
  exact ⟨b, off, rfl, fun i hi j u hu => c.cell (hx i hi j u hu) (hs _ (cell_lt (hx i hi j u hu)))⟩
theorem IsOps.at_ (h : IsOps w a len cap l) {i : Nat} (hi : i < len) : ∃ b off, ∃ o : Oq, a = some ⟨b, off, none⟩ ∧ l[i]? = some o ∧ l.getD i o0 = o ∧ o.Ok w ∧
    w.cell? ⟨b, off + i * 5 + 0, none⟩ = some (.int .i64 o.k) ∧ w.cell? ⟨b, off + i * 5 + 1, none⟩ = some (.int .i64 o.a) ∧ w.cell? ⟨b, off + i * 5 + 2, none⟩ = some (.int .i64 o.b) ∧ w.cell? ⟨b, off + i * 5 + 3, none⟩ = some (.int .i64 o.c) ∧ w.cell? ⟨b, off + i * 5 + 4, none⟩ = some (.slice o.la o.ll o.lc) := by
  obtain ⟨h1, h2, h3, h4, h5⟩ := h
  obtain ⟨b, off, rfl, hx⟩ := h4 (by omega)
  have hil : i < l.length := by omega
  refine ⟨b, off, l[i], rfl, List.getElem?_eq_getElem hil, ?_, h5 _ (List.getElem_mem hil), ?_⟩
  · rw [List.getD_eq_getElem?_getD, List.getElem?_eq_getElem hil]; rfl
  · have hx' := hx i hi
    rw [show l.getD i o0 = l[i] by rw [List.getD_eq_getElem?_getD, List.getElem?_eq_getElem hil]; rfl] at hx'
    exact ⟨hx' 0 _ rfl, hx' 1 _ rfl, hx' 2 _ rfl, hx' 3 _ rfl, hx' 4 _ rfl⟩
end
section
variable {H : Type} {enc : TypeId × Value → H} {w : World} {base : Nat} {held : Bool}
end
end Go.Proofs.Ytjofdamobnemcaa.L9

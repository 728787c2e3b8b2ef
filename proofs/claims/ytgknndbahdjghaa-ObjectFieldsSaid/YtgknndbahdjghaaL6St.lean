/- Objects in an arena: what a store is, and what stands at an address, as numbers. Conditions: an arena has at most 4096 words; the classes can be; there are at most 100. -/
import Derived.Test.YtgknndbahdjghaaL1Ref01
import Derived.Test.YtgknndbahdjghaaL4Word
import Derived.Test.YtgknndbahdjghaaL4Of
import Derived.Test.YtgknndbahdjghaaL5Awake
import Derived.Test.YtgknndbahdjghaaL5Ref
namespace Go.Proofs.Ytgknndbahdjghaa.L6
open Go.ChangeShapes Go.WideShapes Go.ChangeAt Go.RowKit
open Go.Proofs.Ytgknndbahdjghaa.L1 (Sl Ar ptr exB)
open Go.Proofs.Ytgknndbahdjghaa.L4 (hdV riB wd wdV wdX ofB ofC ofA ofF ofM ofN ofD ofV ofX set6)
open Go.Proofs.Ytgknndbahdjghaa.L5 (Cl clV rtB Tb clAt shX shR shD woV c0 IsCls newX)
set_option linter.unusedVariables false

theorem ret_any {a b : Value} (h : a = b) : Ending.returned a = .returned b := by rw [h]
abbrev stV (p tp : Option Addr) : Value := .agg #[.pointer p, .pointer tp]
/-- The arena at a pointer has the words xs, in block g; a nil one has none. -/
def Am (w : World) (p : Option Addr) (g : Nat) (xs : List Int) : Prop := (p = none ∧ xs = []) ∨ ∃ b, p = some ⟨b, 0, none⟩ ∧ Ar w b g xs
/-- A store: its arena's words, its table's classes; the words lie in a block of their own. -/
structure St (w : World) (p tp : Option Addr) (g : Nat) (xs : List Int) (cs : List Cl) : Prop where
  ar : Am w p g xs
  tb : ∃ base v, Tb w base tp v cs ∧ ¬ v.ownBlock = some g ∧ ¬ tp = some ⟨g, 0, none⟩
  n : xs.length ≤ 4096
  cl : cs.length ≤ 100
  rt : cs.all Cl.rt = true

section
variable {w w' : World} {p tp : Option Addr} {g : Nat} {xs ys : List Int} {cs : List Cl}
theorem Am.sl (h : Am w p g xs) : ∃ A, Sl w (.pointer p) A xs.length := by
  rcases h with ⟨rfl, rfl⟩ | ⟨b, rfl, h⟩
  · exact ⟨none, .inl ⟨rfl, rfl, rfl⟩⟩
  · exact ⟨_, h.sl⟩
theorem St.grow (h : St w p tp g xs cs) (c : Grow w w') : St w' p tp g xs cs := by
  refine ⟨?_, ?_, h.n, h.cl, h.rt⟩
  · rcases h.ar with ⟨e1, e2⟩ | ⟨b, e, ha⟩
    · exact .inl ⟨e1, e2⟩
    · exact .inr ⟨b, e, ha.chg c id id⟩
  · obtain ⟨base, v, ht, h1, h2⟩ := h.tb
    exact ⟨base, v, ht.grow c, h1, h2⟩
/-- Other words in the same arena. -/
theorem St.put {b : Nat} (h : St w (some ⟨b, 0, none⟩) tp g xs cs) (ha : Ar w' b g ys) (hl : ys.length = xs.length) (c : Chg (· = g) w w') : St w' (some ⟨b, 0, none⟩) tp g ys cs := by
  refine ⟨.inr ⟨b, rfl, ha⟩, ?_, by rw [hl]; exact h.n, h.cl, h.rt⟩
  obtain ⟨base, v, ht, h1, h2⟩ := h.tb
  refine ⟨base, v, ?_, h1, h2⟩
  obtain ⟨t1, t2⟩ := ht
  refine ⟨own_chg t1 c (fun k hk hS => h1 (by rw [hk, hS])), ?_⟩
  rcases t2 with t2 | ⟨k, e, hb, hk⟩
  · exact .inl t2
  · exact .inr ⟨k, e, hb, hk.chg c (fun hS => h2 (by rw [e, hS]))⟩
theorem St.tab (h : St w p tp g xs cs) : ∃ base v, Tb w base tp v cs := by
  obtain ⟨base, v, ht, _⟩ := h.tb
  exact ⟨base, v, ht⟩
end

/-- What stands at an address: its head, its words, its references, its numbers. -/
structure Th where
  C : Int
  A : Int
  F : Int
  m : Bool
  f : Bool
  d : Bool
  w : Int
  r : Int
  n : Int
abbrev Th.v (t : Th) : Value := .agg #[.int .i64 t.C, .int .i64 t.A, .int .i64 t.F, .bool t.m, .bool t.f, .bool t.d, .int .i64 t.w, .int .i64 t.r, .int .i64 t.n]
abbrev Th.cells (t : Th) : List Value := [.int .i64 t.C, .int .i64 t.A, .int .i64 t.F, .bool t.m, .bool t.f, .bool t.d, .int .i64 t.w, .int .i64 t.r, .int .i64 t.n]
def th0 : Th := ⟨0, 0, 0, false, false, false, 0, 0, 0⟩
/-- A word; is there one; are there some words from an address on. -/
def gw (xs : List Int) (i : Int) : Int := xs.getD i.toNat 0
def ldB (xs : List Int) (i : Int) : Bool := decide (0 ≤ i ∧ i < xs.length)
def ldV (xs : List Int) (i : Int) : Int := if ldB xs i then gw xs i else 0
def ldX (xs : List Int) (i : Int) : Int := if ldB xs i then 0 else 2
def oxB (n : Nat) (at_ words : Int) : Bool := decide (1 ≤ at_ ∧ words ≤ n - at_)
/-- What a head at an address says that there is; can it be. -/
def meT (xs : List Int) (cs : List Cl) (i C A F : Int) (m f d : Bool) : Th :=
  if C = 0 ∧ m = true then ⟨C, A, F, m, f, d, 1, 0, 0⟩
  else if i + 1 < xs.length then
    if C = 0 then ⟨C, A, F, m, f, d, gw xs (i + 1), 0, 0⟩
    else ⟨C, A, F, m, f, d, 2 + shR (clAt cs C) (gw xs (i + 1)) + shD (clAt cs C) (gw xs (i + 1)), shR (clAt cs C) (gw xs (i + 1)), shD (clAt cs C) (gw xs (i + 1))⟩
  else th0
def meB (xs : List Int) (cs : List Cl) (i C : Int) (m : Bool) : Bool :=
  if C = 0 ∧ m = true then true
  else if i + 1 < xs.length then
    if C = 0 then decide (2 ≤ gw xs (i + 1)) else decide (shX (clAt cs C) (gw xs (i + 1)) = 0)
  else false
/-- The thing of a word at an address; is there one; the error's number. -/
def woT (xs : List Int) (cs : List Cl) (i : Int) : Th := meT xs cs i (ofC (gw xs i)) (ofA (gw xs i)) (ofF (gw xs i)) (ofM (gw xs i)) (ofN (gw xs i)) (ofD (gw xs i))
def fdB (xs : List Int) (cs : List Cl) (i : Int) : Bool := oxB xs.length i 1 && (ofB (gw xs i) && (meB xs cs i (ofC (gw xs i)) (ofM (gw xs i)) && oxB xs.length i (woT xs cs i).w))
def fdT (xs : List Int) (cs : List Cl) (i : Int) : Th := if fdB xs cs i then woT xs cs i else th0
def fdX (xs : List Int) (cs : List Cl) (i : Int) : Int := if oxB xs.length i 1 then (if fdB xs cs i then 0 else 12) else 2
/-- The same of an object. -/
def obX (xs : List Int) (cs : List Cl) (i : Int) : Int := if fdX xs cs i = 0 then (if (fdT xs cs i).C = 0 then 5 else 0) else fdX xs cs i
def obT (xs : List Int) (cs : List Cl) (i : Int) : Th := if obX xs cs i = 0 then fdT xs cs i else th0

/-- Stores into a block of nine cells. -/
abbrev set9 (w : World) (g : Nat) (a b c d e f x y z : Value) : World := (((set6 w g a b c d e f).setCell ⟨g, 6, none⟩ x).setCell ⟨g, 7, none⟩ y).setCell ⟨g, 8, none⟩ z
section
variable {w w' : World} {g : Nat} {t : TypeId} {a b c d e f x y z a' b' c' d' e' f' x' y' z' : Value}
theorem _root_.Go.Proofs.Ytgknndbahdjghaa.Blk.cell9 (h : Blk w g t [a, b, c, d, e, f, x, y, z]) : w.cell? ⟨g, 0, none⟩ = some a ∧ w.cell? ⟨g, 1, none⟩ = some b ∧ w.cell? ⟨g, 2, none⟩ = some c ∧ w.cell? ⟨g, 3, none⟩ = some d ∧ w.cell? ⟨g, 4, none⟩ = some e ∧ w.cell? ⟨g, 5, none⟩ = some f ∧ w.cell? ⟨g, 6, none⟩ = some x ∧ w.cell? ⟨g, 7, none⟩ = some y ∧ w.cell? ⟨g, 8, none⟩ = some z :=
  ⟨h.cell 0, h.cell 1, h.cell 2, h.cell 3, h.cell 4, h.cell 5, h.cell 6, h.cell 7, h.cell 8⟩
theorem _root_.Go.Proofs.Ytgknndbahdjghaa.Blk.put9 (h : Blk w g t [a', b', c', d', e', f', x', y', z']) (a b c d e f x y z : Value) : Blk (set9 w g a b c d e f x y z) g t [a, b, c, d, e, f, x, y, z] :=
  ((((((((h.set_ 0 a).set_ 1 b).set_ 2 c).set_ 3 d).set_ 4 e).set_ 5 f).set_ 6 x).set_ 7 y).set_ 8 z
theorem _root_.Go.Proofs.Ytgknndbahdjghaa.Blk.far9 {p : Nat} {cs : List Value} (h : Blk w g t cs) (hp : ¬ g = p) (a b c d e f x y z : Value) : Blk (set9 w p a b c d e f x y z) g t cs :=
  (((h.far6 hp a b c d e f).far (p := ⟨p, 6, none⟩) hp x).far (p := ⟨p, 7, none⟩) hp y).far (p := ⟨p, 8, none⟩) hp z
theorem _root_.Go.Proofs.Ytgknndbahdjghaa.Fresh.put9 (h : Fresh w g) (k : Grow w w') (a b c d e f x y z : Value) : Grow w (set9 w' g a b c d e f x y z) :=
  h.put (h.put (h.put (h.put6 k a b c d e f) 6 x) 7 y) 8 z
theorem _root_.Go.Proofs.Ytgknndbahdjghaa.Blk.frozen9 {cs : List Value} (h : Blk w g t cs) : w.frozen? ⟨g, 0, none⟩ = false ∧ w.frozen? ⟨g, 1, none⟩ = false ∧ w.frozen? ⟨g, 2, none⟩ = false ∧ w.frozen? ⟨g, 3, none⟩ = false ∧ w.frozen? ⟨g, 4, none⟩ = false ∧ w.frozen? ⟨g, 5, none⟩ = false ∧ w.frozen? ⟨g, 6, none⟩ = false ∧ w.frozen? ⟨g, 7, none⟩ = false ∧ w.frozen? ⟨g, 8, none⟩ = false :=
  ⟨h.frozen 0, h.frozen 1, h.frozen 2, h.frozen 3, h.frozen 4, h.frozen 5, h.frozen 6, h.frozen 7, h.frozen 8⟩
theorem _root_.Go.Proofs.Ytgknndbahdjghaa.Blk.cell2 (h : Blk w g t [a, b]) : w.cell? ⟨g, 0, none⟩ = some a ∧ w.cell? ⟨g, 1, none⟩ = some b := ⟨h.cell 0, h.cell 1⟩
end
end Go.Proofs.Ytgknndbahdjghaa.L6

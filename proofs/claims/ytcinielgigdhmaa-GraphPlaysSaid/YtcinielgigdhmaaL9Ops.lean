/- Lists of calls that come in: each with four numbers and a list. Conditions: none. -/
import Derived.Test.YtcinielgigdhmaaOpen
namespace Go.Proofs.Ytcinielgigdhmaa.L9
open Go.ChangeShapes Go.WideShapes Go.ChangeAt Go.RowKit Go.Deep
set_option linter.unusedVariables false

structure Oq where
  k : Int
  a : Int
  b : Int
  c : Int
  la : Option Addr
  ll : Nat
  lc : Nat
  zs : List Int
def Oq.cells (o : Oq) : List Value := [.int .i64 o.k, .int .i64 o.a, .int .i64 o.b, .int .i64 o.c, .slice o.la o.ll o.lc]
abbrev w64 (x : Int) : Prop := (Lit.int .i64 x).wf = true
structure Oq.Ok (w : World) (o : Oq) : Prop where
  k : w64 o.k
  a : w64 o.a
  b : w64 o.b
  c : w64 o.c
  row : IsRow .i64 w o.la o.ll o.lc o.zs
def o0 : Oq := ⟨0, 0, 0, 0, none, 0, 0, []⟩
/-- A list of calls. -/
def IsOps (w : World) (a : Option Addr) (len cap : Nat) (l : List Oq) : Prop :=
  l.length = len ∧ len ≤ cap ∧ cap ≤ maxLen ∧ (0 < len → ∃ b off, a = some ⟨b, off, none⟩ ∧ ∀ i, i < len → ∀ j c, ((l.getD i o0).cells)[j]? = some c → w.cell? ⟨b, off + i * 5 + j, none⟩ = some c) ∧ ∀ o ∈ l, o.Ok w
section
variable {w w' : World} {a : Option Addr} {len cap : Nat} {l : List Oq} {S : Nat → Prop}
theorem Oq.Ok.chg {o : Oq} (h : o.Ok w) (c : Chg S w w') (hs : ∀ i, i < w.heap.size → ¬ S i) : o.Ok w' := ⟨h.k, h.a, h.b, h.c, h.row.chg c hs⟩
theorem IsOps.chg (h : IsOps w a len cap l) (c : Chg S w w') (hs : ∀ i, i < w.heap.size → ¬ S i) : IsOps w' a len cap l := by
  obtain ⟨h1, h2, h3, h4, h5⟩ := h
  refine ⟨h1, h2, h3, fun hl => ?_, fun o ho => (h5 o ho).chg c hs⟩
  obtain ⟨b, off, rfl, hx⟩ := h4 hl
  exact ⟨b, off, rfl, fun i hi j u hu => c.cell (hx i hi j u hu) (hs _ (cell_lt (hx i hi j u hu)))⟩
theorem IsOps.at_ (h : IsOps w a len cap l) {i : Nat} (hi : i < len) : ∃ b off, ∃ o : Oq, a = some ⟨b, off, none⟩ ∧ l[i]? = some o ∧ l.getD i o0 = o ∧ o.Ok w ∧
    w.cell? ⟨b, off + i * 5 + 0, none⟩ = some (.int .i64 o.k) ∧ w.cell? ⟨b, off + i * 5 + 1, none⟩ = some (.int .i64 o.a) ∧ w.cell? ⟨b, off + i * 5 + 2, none⟩ = some (.int .i64 o.b) ∧ w.cell? ⟨b, off + i * 5 + 3, none⟩ = some (.int .i64 o.c) ∧ w.cell? ⟨b, off + i * 5 + 4, none⟩ = some (.slice o.la o.ll o.lc) := by
  obtain ⟨h1, h2, h3, h4, h5⟩ := h
  obtain ⟨b, off, rfl, hx⟩ := h4 (by omega)
  have hil : i < l.length := by omega
  refine ⟨b, off, l[i], rfl, List.getElem?_eq_getElem hil, ?_, h5 _ (List.getElem_mem hil), ?_⟩
  · rw [List.getD_eq_getElem?_getD, List.getElem?_eq_getElem hil]; rfl
  · have hx' := hx i hi
    rw [show l.getD i o0 = l[i] by rw [List.getD_eq_getElem?_getD, List.getElem?_eq_getElem hil]; rfl] at hx'
    exact ⟨hx' 0 _ rfl, hx' 1 _ rfl, hx' 2 _ rfl, hx' 3 _ rfl, hx' 4 _ rfl⟩
theorem IsOps.one {g : Nat} {o : Oq} (hb : Blk w g 39 o.cells) (ho : o.Ok w) : IsOps w (some ⟨g, 0, none⟩) 1 1 [o] := by
  refine ⟨rfl, Nat.le_refl _, by simp [maxLen], fun _ => ⟨g, 0, rfl, fun i hi j c hj => ?_⟩, fun q hq => by rw [List.mem_singleton.1 hq]; exact ho⟩
  obtain rfl : i = 0 := by omega
  rw [show 0 + 0 * 5 + j = j by omega, hb.cell]
  exact hj
end
section
variable {H : Type} {enc : TypeId × Value → H} {w : World} {base : Nat} {held : Bool}
theorem op_of {fs : Array Field} (hu : Try.prog.underlying 39 = some (.struct fs)) {cs : List Value} (hl : cs.length = fs.size)
    (hg : ∀ (j : Nat) (f : Field), fs[j]? = some f → ∃ (c : Value) (n : Nat) (y : DataW H × List MemPlace), cs[j]? = some c ∧ DataW.trod enc Try.prog w base (fun _ => true) held n f.type [c] = some y) : ∃ o : Oq, cs = o.cells ∧ o.Ok w := by
  have hu2 := Try.underlying39
  rw [hu] at hu2
  injection hu2 with hu2
  injection hu2 with hu2
  subst hu2
  obtain ⟨c0, n0, y0, e0, t0⟩ := hg 0 _ rfl
  obtain ⟨c1, n1, y1, e1, t1⟩ := hg 1 _ rfl
  obtain ⟨c2, n2, y2, e2, t2⟩ := hg 2 _ rfl
  obtain ⟨c3, n3, y3, e3, t3⟩ := hg 3 _ rfl
  obtain ⟨c4, n4, y4, e4, t4⟩ := hg 4 _ rfl
  obtain ⟨x0, q0, _, w0⟩ := DataW.trod_int Try.underlying3 t0
  obtain ⟨x1, q1, _, w1⟩ := DataW.trod_int Try.underlying3 t1
  obtain ⟨x2, q2, _, w2⟩ := DataW.trod_int Try.underlying3 t2
  obtain ⟨x3, q3, _, w3⟩ := DataW.trod_int Try.underlying3 t3
  simp at q0 q1 q2 q3
  subst q0 q1 q2 q3
  obtain ⟨la, ll, lc, rfl⟩ : ∃ la ll lc, c4 = .slice la ll lc := by
    rcases open_slice Try.underlying37 t4 with ⟨h0, _⟩ | ⟨x, l, c, m, n, D, Pl, hcs, _⟩
    · simp at h0
      exact ⟨_, _, _, h0⟩
    · simp at hcs
      exact ⟨_, _, _, hcs⟩
  obtain ⟨zs, hz⟩ := open_row (a := la) (len := ll) (cap := lc) Try.underlying37 Try.underlying3 (by kernel_rfl) ⟨n4, t4⟩
  refine ⟨⟨x0, x1, x2, x3, la, ll, lc, zs⟩, ?_, w0, w1, w2, w3, hz⟩
  match cs, hl, e0, e1, e2, e3, e4 with
  | [a, b, c, d, e], _, e0, e1, e2, e3, e4 =>
    simp at e0 e1 e2 e3 e4
    subst e0 e1 e2 e3 e4
    rfl
set_option maxRecDepth 100000 in
theorem open_op {r : Reach} {b0 : Nat} {v : Value} {d : DataW H} {p : List MemPlace} (hv : Value.okWide Try.prog w r b0 39 v) (h : DataW.Trod enc Try.prog w base (fun _ => true) held 39 v d p) :
    ∃ o : Oq, v = .agg o.cells.toArray ∧ o.Ok w := by
  obtain ⟨cs, rfl, hsz⟩ := okWide_struct Try.underlying39 hv
  obtain ⟨fuel, hf⟩ := h
  obtain ⟨hl, hg⟩ := struct_cells Try.underlying39 (by kernel_rfl) (by kernel_rfl) hf
  obtain ⟨o, ho, hok⟩ := op_of Try.underlying39 (cs := cs.toList) (by simpa [Value.cells] using hl) (fun j f hj => by simpa [Value.cells] using hg j f hj)
  exact ⟨o, by rw [← ho], hok⟩
set_option maxRecDepth 100000 in
theorem open_ops {r : Reach} {b0 : Nat} {v : Value} {d : DataW H} {p : List MemPlace} (hv : Value.okWide Try.prog w r b0 23 v) (h : DataW.Trod enc Try.prog w base (fun _ => true) held 23 v d p) :
    ∃ a len cap l, v = .slice a len cap ∧ IsOps w a len cap l := by
  obtain ⟨a, len, cap, rfl⟩ := okWide_slice Try.underlying23 hv
  obtain ⟨fuel, hf⟩ := h
  have hC : Try.prog.cellsOf 39 = 5 := by kernel_rfl
  rcases open_slice Try.underlying23 hf with ⟨h0, _⟩ | ⟨x, l, c, m, n, D, Pl, hcs, _, hl, hm, hmm, _, hi⟩
  · simp [Value.cells] at h0
    obtain ⟨rfl, rfl, rfl⟩ := h0
    exact ⟨none, 0, 0, [], rfl, rfl, Nat.le_refl _, by simp [maxLen], fun h => absurd h (by omega), fun o ho => by cases ho⟩
  · simp [Value.cells] at hcs
    obtain ⟨rfl, rfl, rfl⟩ := hcs
    have hm' : m = cap := by simpa using hmm
    subst hm'
    have hq1 : ∀ i, i < len → ∃ o : Oq, w.cells? base (x.add (i * 5)) 5 = some o.cells ∧ o.Ok w := fun i him => by
      obtain ⟨cs, h1, h2⟩ := hi i (by omega)
      rw [hC] at h1
      obtain ⟨hl', hg⟩ := struct_cells Try.underlying39 (by kernel_rfl) (by kernel_rfl) h2
      obtain ⟨o, ho, hok⟩ := op_of Try.underlying39 hl' hg
      exact ⟨o, by rw [← ho]; exact h1, hok⟩
    obtain ⟨ops, hol, hq⟩ := list_of (fun i (o : Oq) => w.cells? base (x.add (i * 5)) 5 = some o.cells ∧ o.Ok w) o0 len hq1
    have hcell : ∀ i, i < len → ∀ j c, ((ops.getD i o0).cells)[j]? = some c → w.cell? (x.add (i * 5 + j)) = some c := by
      intro i him j c hj
      obtain ⟨hc, _⟩ := hq i him
      obtain ⟨_, hcl, hat⟩ := World.cells?_some hc
      have hjl : j < 5 := by have := (List.getElem?_eq_some_iff.1 hj).1; simpa [Oq.cells] using this
      rw [← add_add, hat j hjl, hj]
    refine ⟨_, _, _, ops, rfl, hol, hl, hm, fun h0 => ?_, fun o ho => ?_⟩
    · obtain ⟨bb, off, spot⟩ := x
      have h00 := hcell 0 h0 0 _ rfl
      have hspot : spot = none := by simpa [Addr.add] using World.cell?_spot h00
      subst hspot
      exact ⟨bb, off, rfl, fun i him j c hj => by have := hcell i him j c hj; rwa [addr_add, ← Nat.add_assoc] at this⟩
    · obtain ⟨i, hi', rfl⟩ := List.getElem_of_mem ho
      have := (hq i (by omega)).2
      rwa [List.getD_eq_getElem?_getD, List.getElem?_eq_getElem hi'] at this
end
end Go.Proofs.Ytcinielgigdhmaa.L9

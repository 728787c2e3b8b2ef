/- Worlds of the laws of scavenging as they come in. Conditions: none. -/
import Derived.Test.YtogfjclmohpjkaaGreatDoorOpen
import Derived.Test.YtogfjclmohpjkaaGreatDoorL5A
import Derived.OpenShut
import Derived.Test.YtogfjclmohpjkaaGreatDoorL15A
namespace Go.Proofs.YtogfjclmohpjkaaGreatDoor.L15
open Go.ChangeShapes Go.WideShapes Go.ChangeAt Go.RowKit Go.Deep
open Go.Proofs.YtogfjclmohpjkaaGreatDoor.L5 (Cl IsCls)
set_option linter.unusedVariables false
set_option maxRecDepth 100000

def Tg.cells (t : Tg) : List Value := [.int .u8 t.c, .int .u8 t.a, .int .u8 t.w, .int .u8 t.d]
theorem fits_tg {cs : List Value} (h : fits [some .u8, some .u8, some .u8, some .u8] cs) : ∃ t : Tg, cs = t.cells ∧ t.B := by
  obtain ⟨K, c1, rfl, hK, h1⟩ := fits_int h
  obtain ⟨R, c2, rfl, hR, h2⟩ := fits_int h1
  obtain ⟨D, c3, rfl, hD, h3⟩ := fits_int h2
  obtain ⟨F, c4, rfl, hF, h4⟩ := fits_int h3
  obtain rfl := fits_nil h4
  exact ⟨⟨K, R, D, F⟩, rfl, bounds_u8 hK, bounds_u8 hR, bounds_u8 hD, bounds_u8 hF⟩
/-- A list of things that came in. -/
def IsTgs (w : World) (a : Option Addr) (len cap : Nat) (l : List Tg) : Prop :=
  l.length = len ∧ len ≤ cap ∧ cap ≤ maxLen ∧ (0 < len → ∃ b off, a = some ⟨b, off, none⟩ ∧ ∀ i t, l[i]? = some t → ∀ j c, t.cells[j]? = some c → w.cell? ⟨b, off + i * 4 + j, none⟩ = some c) ∧ ∀ t ∈ l, t.B
section
variable {w w' : World} {a : Option Addr} {len cap : Nat} {l : List Tg} {S : Nat → Prop}
theorem IsTgs.chg (h : IsTgs w a len cap l) (c : Chg S w w') (hs : ∀ i, i < w.heap.size → ¬ S i) : IsTgs w' a len cap l := by
  obtain ⟨h1, h2, h3, h4, h5⟩ := h
  refine ⟨h1, h2, h3, fun hl => ?_, h5⟩
  obtain ⟨b, off, rfl, hx⟩ := h4 hl
  exact ⟨b, off, rfl, fun i t hi j u hu => c.cell (hx i t hi j u hu) (hs _ (cell_lt (hx i t hi j u hu)))⟩
theorem IsTgs.at_ (h : IsTgs w a len cap l) {i : Nat} (hi : i < len) : ∃ b off, ∃ t : Tg, a = some ⟨b, off, none⟩ ∧ l[i]? = some t ∧ t.B ∧
    w.cell? ⟨b, off + i * 4, none⟩ = some (.int .u8 t.c) ∧ w.cell? ⟨b, off + i * 4 + 1, none⟩ = some (.int .u8 t.a) ∧ w.cell? ⟨b, off + i * 4 + 2, none⟩ = some (.int .u8 t.w) ∧ w.cell? ⟨b, off + i * 4 + 3, none⟩ = some (.int .u8 t.d) := by
  obtain ⟨h1, h2, h3, h4, h5⟩ := h
  obtain ⟨b, off, rfl, hx⟩ := h4 (by omega)
  have hil : i < l.length := by omega
  have hg := hx i l[i] (List.getElem?_eq_getElem hil)
  exact ⟨b, off, l[i], rfl, List.getElem?_eq_getElem hil, h5 _ (List.getElem_mem hil), hg 0 _ rfl, hg 1 _ rfl, hg 2 _ rfl, hg 3 _ rfl⟩
theorem _root_.Go.Proofs.YtogfjclmohpjkaaGreatDoor.IsRecs.tgs {rows : List (List Value)} (h : IsRecs [some .u8, some .u8, some .u8, some .u8] w a len cap rows) : ∃ l, IsTgs w a len cap l := by
  obtain ⟨h1, h2, h3, h4, h5⟩ := h
  obtain ⟨l, hl, hq⟩ := list_of (fun i (t : Tg) => rows.getD i [] = t.cells ∧ t.B) ⟨0, 0, 0, 0⟩ len (fun i hi => fits_tg (h5 i hi))
  refine ⟨l, hl, h2, h3, fun h0 => ?_, fun t ht => ?_⟩
  · obtain ⟨b, off, rfl, hx⟩ := h4 h0
    refine ⟨b, off, rfl, fun i t hc => ?_⟩
    have hi : i < len := by rw [← hl]; exact (List.getElem?_eq_some_iff.1 hc).1
    obtain ⟨e, _⟩ := hq i hi
    rw [show l.getD i ⟨0, 0, 0, 0⟩ = t by rw [List.getD_eq_getElem?_getD, hc]; rfl] at e
    have hx' := hx i hi
    rw [e] at hx'
    exact hx'
  · obtain ⟨i, hi, rfl⟩ := List.getElem_of_mem ht
    have := (hq i (by omega)).2
    simpa [List.getD_eq_getElem?_getD, hi] using this
end
structure Tr where
  a : Int
  b : Int
  c : Int
def Tr.cells (t : Tr) : List Value := [.int .u8 t.a, .int .u8 t.b, .int .u8 t.c]
def Tr.Ok (t : Tr) : Prop := (0 ≤ t.a ∧ t.a ≤ 255) ∧ (0 ≤ t.b ∧ t.b ≤ 255) ∧ (0 ≤ t.c ∧ t.c ≤ 255)
/-- A list of threes that came in. -/
def IsTri (w : World) (a : Option Addr) (len cap : Nat) (l : List Tr) : Prop :=
  l.length = len ∧ len ≤ cap ∧ cap ≤ maxLen ∧ (0 < len → ∃ b off, a = some ⟨b, off, none⟩ ∧ ∀ i t, l[i]? = some t → ∀ j c, t.cells[j]? = some c → w.cell? ⟨b, off + i * 3 + j, none⟩ = some c) ∧ ∀ t ∈ l, t.Ok
section
variable {w w' : World} {a : Option Addr} {len cap : Nat} {l : List Tr} {S : Nat → Prop}
theorem IsTri.chg (h : IsTri w a len cap l) (c : Chg S w w') (hs : ∀ i, i < w.heap.size → ¬ S i) : IsTri w' a len cap l := by
  obtain ⟨h1, h2, h3, h4, h5⟩ := h
  refine ⟨h1, h2, h3, fun hl => ?_, h5⟩
  obtain ⟨b, off, rfl, hx⟩ := h4 hl
  exact ⟨b, off, rfl, fun i t hi j u hu => c.cell (hx i t hi j u hu) (hs _ (cell_lt (hx i t hi j u hu)))⟩
theorem IsTri.at_ (h : IsTri w a len cap l) {i : Nat} (hi : i < len) : ∃ b off, ∃ t : Tr, a = some ⟨b, off, none⟩ ∧ l[i]? = some t ∧ t.Ok ∧
    w.cell? ⟨b, off + i * 3, none⟩ = some (.int .u8 t.a) ∧ w.cell? ⟨b, off + i * 3 + 1, none⟩ = some (.int .u8 t.b) ∧ w.cell? ⟨b, off + i * 3 + 2, none⟩ = some (.int .u8 t.c) := by
  obtain ⟨h1, h2, h3, h4, h5⟩ := h
  obtain ⟨b, off, rfl, hx⟩ := h4 (by omega)
  have hil : i < l.length := by omega
  have hg := hx i l[i] (List.getElem?_eq_getElem hil)
  exact ⟨b, off, l[i], rfl, List.getElem?_eq_getElem hil, h5 _ (List.getElem_mem hil), hg 0 _ rfl, hg 1 _ rfl, hg 2 _ rfl⟩
end
section
variable {H : Type} {enc : TypeId × Value → H} {P : Program} {w : World} {base : Nat} {held : Bool}
theorem tri_of {n : Nat} {cs : List Value} {x : DataW H × List MemPlace} (h : DataW.trod enc Tryz.prog w base (fun _ => true) held n 77 cs = some x) : ∃ t : Tr, cs = t.cells ∧ t.Ok := by
  obtain ⟨xs, m, _, _, hl, hxl, hi⟩ := DataW.trod_array Tryz.underlying77 h
  have hC : Tryz.prog.cellsOf 77 = 3 := by kernel_rfl
  have hE : Tryz.prog.cellsOf 5 = 1 := by kernel_rfl
  rw [hC] at hl
  rw [hE] at hi
  match cs, hl with
  | [c0, c1, c2], _ =>
    have h0 := hi 0 (by omega)
    have h1 := hi 1 (by omega)
    have h2 := hi 2 (by omega)
    rw [List.getElem?_eq_getElem (by omega)] at h0 h1 h2
    obtain ⟨x0, e0, _, w0⟩ := DataW.trod_int Tryz.underlying5 h0
    obtain ⟨x1, e1, _, w1⟩ := DataW.trod_int Tryz.underlying5 h1
    obtain ⟨x2, e2, _, w2⟩ := DataW.trod_int Tryz.underlying5 h2
    simp at e0 e1 e2
    subst e0 e1 e2
    exact ⟨⟨x0, x1, x2⟩, rfl, bounds_u8 w0, bounds_u8 w1, bounds_u8 w2⟩
theorem open_tri {a : Option Addr} {len cap : Nat} {d : DataW H} {p : List MemPlace} (h : DataW.Trod enc Tryz.prog w base (fun _ => true) held 24 (.slice a len cap) d p) : ∃ l, IsTri w a len cap l := by
  obtain ⟨fuel, hf⟩ := h
  have hC : Tryz.prog.cellsOf 77 = 3 := by kernel_rfl
  rcases open_slice Tryz.underlying24 hf with ⟨h0, _⟩ | ⟨x, l, c, m, n, D, Pl, hcs, _, hl, hm, hmm, _, hi⟩
  · simp [Value.cells] at h0
    obtain ⟨rfl, rfl, rfl⟩ := h0
    exact ⟨[], rfl, Nat.le_refl _, by simp [maxLen], fun h => absurd h (by omega), fun t ht => by cases ht⟩
  · simp [Value.cells] at hcs
    obtain ⟨rfl, rfl, rfl⟩ := hcs
    have hm' : m = cap := by simpa using hmm
    subst hm'
    have hq1 : ∀ i, i < len → ∃ t : Tr, w.cells? base (x.add (i * 3)) 3 = some t.cells ∧ t.Ok := fun i him => by
      obtain ⟨cs, h1, h2⟩ := hi i (by omega)
      rw [hC] at h1
      obtain ⟨t, ht, hok⟩ := tri_of h2
      exact ⟨t, by rw [← ht]; exact h1, hok⟩
    obtain ⟨ts, hol, hq⟩ := list_of (fun i (t : Tr) => w.cells? base (x.add (i * 3)) 3 = some t.cells ∧ t.Ok) ⟨0, 0, 0⟩ len hq1
    have hcell : ∀ i t, ts[i]? = some t → ∀ j c, t.cells[j]? = some c → w.cell? (x.add (i * 3 + j)) = some c := by
      intro i t hit j c hj
      have him : i < len := by rw [← hol]; exact (List.getElem?_eq_some_iff.1 hit).1
      obtain ⟨hc, _⟩ := hq i him
      rw [List.getD_eq_getElem?_getD, hit] at hc
      obtain ⟨_, hcl, hat⟩ := World.cells?_some hc
      have hjl : j < 3 := by have := (List.getElem?_eq_some_iff.1 hj).1; simpa [Tr.cells] using this
      rw [← add_add, hat j hjl]
      exact hj
    refine ⟨ts, hol, hl, hm, fun h0 => ?_, fun t ht => ?_⟩
    · obtain ⟨bb, off, spot⟩ := x
      have h00 := hcell 0 ts[0] (List.getElem?_eq_getElem (by omega)) 0 _ rfl
      have hspot : spot = none := by simpa [Addr.add] using World.cell?_spot h00
      subst hspot
      exact ⟨bb, off, rfl, fun i t hit j c hj => by have := hcell i t hit j c hj; rwa [addr_add, ← Nat.add_assoc] at this⟩
    · obtain ⟨i, hi', rfl⟩ := List.getElem_of_mem ht
      have := (hq i (by omega)).2
      rwa [List.getD_eq_getElem?_getD, List.getElem?_eq_getElem hi'] at this
/-- As open_recs, of a list whose form is known. -/
theorem open_recsF {t e : TypeId} {fs : Array Field} {a : Option Addr} {len cap : Nat} {d : DataW H} {p : List MemPlace}
    (ks : List (Option IntKind)) (ht : P.underlying t = some (.slice e)) (he : P.underlying e = some (.struct fs)) (hone : oneCellFields P fs = true) (hC : P.cellsOf e = fs.size) (hks : kindsOf P fs.toList = some ks) (hpos : 0 < fs.size)
    (h : DataW.Trod enc P w base (fun _ => true) held t (.slice a len cap) d p) : ∃ rows, IsRecs ks w a len cap rows := by
  obtain ⟨fuel, hf⟩ := h
  have hkl : ks.length = fs.size := by simpa using kinds_length _ _ hks
  rcases open_slice ht hf with ⟨h0, _⟩ | ⟨x, l, c, m, n, D, Pl, hcs, _, hl, hm, hmm, _, hi⟩
  · simp [Value.cells] at h0
    obtain ⟨rfl, rfl, rfl⟩ := h0
    exact ⟨[], rfl, Nat.le_refl _, by simp [maxLen], fun h => absurd h (by omega), fun i hi => absurd hi (by omega)⟩
  · simp [Value.cells] at hcs
    obtain ⟨rfl, rfl, rfl⟩ := hcs
    have hm' : m = cap := by simpa using hmm
    subst hm'
    obtain ⟨rows, hrl, hq⟩ := list_of (fun i cs => w.cells? base (x.add (i * P.cellsOf e)) (P.cellsOf e) = some cs ∧ DataW.trod enc P w base (fun _ => true) held n e cs = some (D i, Pl i)) [] len (fun i him => hi i (by omega))
    have hcell : ∀ i, i < len → ∀ j c, (rows.getD i [])[j]? = some c → w.cell? (x.add (i * ks.length + j)) = some c := by
      intro i him j c hj
      obtain ⟨hc, _⟩ := hq i him
      obtain ⟨_, hcl, hat⟩ := World.cells?_some hc
      have hjl : j < P.cellsOf e := by have := (List.getElem?_eq_some_iff.1 hj).1; omega
      rw [← add_add, hkl, ← hC, hat j hjl, hj]
    refine ⟨rows, hrl, hl, hm, fun h0 => ?_, fun i him => ?_⟩
    · obtain ⟨hc, _⟩ := hq 0 h0
      obtain ⟨_, hcl, hat⟩ := World.cells?_some hc
      obtain ⟨bb, off, spot⟩ := x
      have h00 := hcell 0 h0 0 _ (List.getElem?_eq_getElem (by omega))
      have hspot : spot = none := by simpa [Addr.add] using World.cell?_spot h00
      subst hspot
      exact ⟨bb, off, rfl, fun i him j c hj => by have := hcell i him j c hj; rwa [addr_add, ← Nat.add_assoc] at this⟩
    · obtain ⟨hc, ht'⟩ := hq i him
      obtain ⟨hl', hg⟩ := struct_cells he hone hC ht'
      exact fits_of fs.toList ks _ hks (by simpa using hl') (fun j f hj => hg j f (by simpa using hj))
theorem open_clF {a : Option Addr} {len cap : Nat} {d : DataW H} {p : List MemPlace} (h : DataW.Trod enc Tryz.prog w base (fun _ => true) held 22 (.slice a len cap) d p) : ∃ cs, IsCls w a len cap cs := by
  obtain ⟨rows, hr⟩ := open_recsF [some .i64, some .i64, some .i64, none] Tryz.underlying22 Tryz.underlying82 (by kernel_rfl) (by kernel_rfl) (by kernel_rfl) (by decide) h
  exact hr.cls
theorem open_tgF {a : Option Addr} {len cap : Nat} {d : DataW H} {p : List MemPlace} (h : DataW.Trod enc Tryz.prog w base (fun _ => true) held 23 (.slice a len cap) d p) : ∃ l, IsTgs w a len cap l := by
  obtain ⟨rows, hr⟩ := open_recsF [some .u8, some .u8, some .u8, some .u8] Tryz.underlying23 Tryz.underlying76 (by kernel_rfl) (by kernel_rfl) (by kernel_rfl) (by decide) h
  exact hr.tgs
theorem num_form {k : IntKind} {fuel : Nat} {t : TypeId} {c : Value} {x : DataW H × List MemPlace} (ht : P.underlying t = some (.int k)) (h : DataW.trod enc P w base (fun _ => true) held fuel t [c] = some x) : ∃ n, c = .int k n ∧ (Lit.int k n).wf = true := by
  obtain ⟨n, e, _, hw⟩ := DataW.trod_int ht h
  simp at e
  exact ⟨n, e, hw⟩
theorem sl_form {fuel : Nat} {t e : TypeId} {c : Value} {x : DataW H × List MemPlace} (ht : P.underlying t = some (.slice e)) (h : DataW.trod enc P w base (fun _ => true) held fuel t [c] = some x) : ∃ a l k, c = .slice a l k := by
  rcases open_slice ht h with ⟨h0, _⟩ | ⟨x, l, c, m, n, D, Pl, hcs, _⟩
  · simp at h0
    exact ⟨_, _, _, h0⟩
  · simp at hcs
    exact ⟨_, _, _, hcs⟩
/-- A world that came in. -/
structure Wo where
  ca : Option Addr
  cl : Nat
  cc : Nat
  ta : Option Addr
  tl : Nat
  tc : Nat
  ra : Option Addr
  rl : Nat
  rc : Nat
  za : Option Addr
  zl : Nat
  zc : Nat
  hf : Int
  th : Int
abbrev Wo.v (u : Wo) : Value := .agg #[.slice u.ca u.cl u.cc, .slice u.ta u.tl u.tc, .slice u.ra u.rl u.rc, .slice u.za u.zl u.zc, .int .u8 u.hf, .int .u8 u.th]
abbrev Wo.cells (u : Wo) : List Value := [.slice u.ca u.cl u.cc, .slice u.ta u.tl u.tc, .slice u.ra u.rl u.rc, .slice u.za u.zl u.zc, .int .u8 u.hf, .int .u8 u.th]
structure IsWo (w : World) (u : Wo) (cs : List Cl) (gs : List Tg) (ts : List Tr) (zs : List Int) : Prop where
  c : IsCls w u.ca u.cl u.cc cs
  t : IsTgs w u.ta u.tl u.tc gs
  r : IsTri w u.ra u.rl u.rc ts
  z : IsRow .u8 w u.za u.zl u.zc zs
  hb : 0 ≤ u.hf ∧ u.hf ≤ 255
  tb : 0 ≤ u.th ∧ u.th ≤ 255
theorem IsWo.chg {w w' : World} {u : Wo} {cs : List Cl} {gs : List Tg} {ts : List Tr} {zs : List Int} {S : Nat → Prop} (h : IsWo w u cs gs ts zs) (c : Chg S w w') (hs : ∀ i, i < w.heap.size → ¬ S i) : IsWo w' u cs gs ts zs :=
  ⟨h.c.chg c hs, h.t.chg c hs, h.r.chg c hs, h.z.chg c hs, h.hb, h.tb⟩
set_option maxRecDepth 100000 in
theorem open_world {r : Reach} {b0 : Nat} {v : Value} {d : DataW H} {p : List MemPlace} (hv : Value.okWide Tryz.prog w r b0 27 v) (h : DataW.Trod enc Tryz.prog w base (fun _ => true) held 27 v d p) :
    ∃ u cs gs ts zs, v = Wo.v u ∧ IsWo w u cs gs ts zs := by
  obtain ⟨cs, rfl, hsz⟩ := okWide_struct Tryz.underlying27 hv
  obtain ⟨fuel, hf⟩ := h
  obtain ⟨hl, hg⟩ := struct_cells Tryz.underlying27 (by kernel_rfl) (by kernel_rfl) hf
  replace hl : cs.toList.length = 6 := by simpa [Value.cells] using hl
  obtain ⟨c0, n0, y0, e0, t0⟩ := hg 0 _ rfl
  obtain ⟨c1, n1, y1, e1, t1⟩ := hg 1 _ rfl
  obtain ⟨c2, n2, y2, e2, t2⟩ := hg 2 _ rfl
  obtain ⟨c3, n3, y3, e3, t3⟩ := hg 3 _ rfl
  obtain ⟨c4, n4, y4, e4, t4⟩ := hg 4 _ rfl
  obtain ⟨c5, n5, y5, e5, t5⟩ := hg 5 _ rfl
  obtain ⟨ca, cl, cc, rfl⟩ := sl_form Tryz.underlying22 t0
  obtain ⟨ta, tl, tc, rfl⟩ := sl_form Tryz.underlying23 t1
  obtain ⟨ra, rl, rc, rfl⟩ := sl_form Tryz.underlying24 t2
  obtain ⟨za, zl, zc, rfl⟩ := sl_form Tryz.underlying25 t3
  obtain ⟨hf', rfl, wh⟩ := num_form Tryz.underlying5 t4
  obtain ⟨th, rfl, wt⟩ := num_form Tryz.underlying5 t5
  obtain ⟨L, hL⟩ := open_clF (a := ca) (len := cl) (cap := cc) ⟨n0, t0⟩
  obtain ⟨gs, hgs⟩ := open_tgF (a := ta) (len := tl) (cap := tc) ⟨n1, t1⟩
  obtain ⟨ts, ht⟩ := open_tri (a := ra) (len := rl) (cap := rc) ⟨n2, t2⟩
  obtain ⟨zs, hz⟩ := open_row (a := za) (len := zl) (cap := zc) Tryz.underlying25 Tryz.underlying5 (by kernel_rfl) ⟨n3, t3⟩
  refine ⟨⟨ca, cl, cc, ta, tl, tc, ra, rl, rc, za, zl, zc, hf', th⟩, L, gs, ts, zs, ?_, hL, hgs, ht, hz, bounds_u8 wh, bounds_u8 wt⟩
  have e : cs = cs.toList.toArray := by simp
  rw [e]
  simp only [Value.cells] at e0 e1 e2 e3 e4 e5
  match cs.toList, hl, e0, e1, e2, e3, e4, e5 with
  | [a, b, c, d, f, g], _, e0, e1, e2, e3, e4, e5 =>
    simp at e0 e1 e2 e3 e4 e5
    subst e0 e1 e2 e3 e4 e5
    rfl
end
end Go.Proofs.YtogfjclmohpjkaaGreatDoor.L15

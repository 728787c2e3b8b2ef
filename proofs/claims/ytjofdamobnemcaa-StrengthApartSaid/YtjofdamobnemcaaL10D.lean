/- Graphs as they come in; the graphs that the laws make of them. Conditions: as each part says. -/
import Derived.Test.YtjofdamobnemcaaOpen
import Derived.Test.YtjofdamobnemcaaL5Awake
import Derived.OpenShut
import Derived.Test.YtjofdamobnemcaaL9SameG
import Derived.Test.YtjofdamobnemcaaL9Start
import Derived.Deep.RegionHeld3
import Derived.Deep.LoopGhost
/- Graphs as they come in: classes, the classes' numbers, references, each of three small numbers. Conditions: none. -/
namespace Go.Proofs.Ytjofdamobnemcaa.L10
open Go.ChangeShapes Go.WideShapes Go.ChangeAt Go.RowKit Go.Deep
open Go.Proofs.Ytjofdamobnemcaa.L5 (Cl IsCls)
set_option linter.unusedVariables false

structure Tr where
  a : Int
  b : Int
  c : Int
def Tr.cells (t : Tr) : List Value := [.int .u8 t.a, .int .u8 t.b, .int .u8 t.c]
def Tr.Ok (t : Tr) : Prop := (0 ≤ t.a ∧ t.a ≤ 255) ∧ (0 ≤ t.b ∧ t.b ≤ 255) ∧ (0 ≤ t.c ∧ t.c ≤ 255)
/-- A list of threes that came in. -/
def IsTri (w : World) (a : Option Addr) (len cap : Nat) (l : List Tr) : Prop :=
  l.length = len ∧ len ≤ cap ∧ cap ≤ maxLen ∧ (0 < len → ∃ b off, a = some ⟨b, off, none⟩ ∧ ∀ i t, l[i]? = some t → ∀ j c, t.cells[j]? = some c → w.cell? ⟨b, off + i * 3 + j, none⟩ = some c) ∧ ∀ t ∈ l, t.Ok
section
variable {w w' : World} {a : Option Addr} {len cap : Nat} {l : List Tr} {S : Nat → Prop}
theorem IsTri.chg (h : IsTri w a len cap l) (c : Chg S w w') (hs : ∀ i, i < w.heap.size → ¬ S i) : IsTri w' a len cap l := by
  obtain ⟨h1, h2, h3, h4, h5⟩ := h
  refine ⟨h1, h2, h3, fun hl => ?_, h5⟩
  obtain ⟨b, off, rfl, hx⟩ := h4 hl
  exact ⟨b, off, rfl, fun i t hi j u hu => c.cell (hx i t hi j u hu) (hs _ (cell_lt (hx i t hi j u hu)))⟩
theorem IsTri.at_ (h : IsTri w a len cap l) {i : Nat} (hi : i < len) : ∃ b off, ∃ t : Tr, a = some ⟨b, off, none⟩ ∧ l[i]? = some t ∧ t.Ok ∧
    w.cell? ⟨b, off + i * 3, none⟩ = some (.int .u8 t.a) ∧ w.cell? ⟨b, off + i * 3 + 1, none⟩ = some (.int .u8 t.b) ∧ w.cell? ⟨b, off + i * 3 + 2, none⟩ = some (.int .u8 t.c) := by
  obtain ⟨h1, h2, h3, h4, h5⟩ := h
  obtain ⟨b, off, rfl, hx⟩ := h4 (by omega)
  have hil : i < l.length := by omega
  have hg := hx i l[i] (List.getElem?_eq_getElem hil)
  exact ⟨b, off, l[i], rfl, List.getElem?_eq_getElem hil, h5 _ (List.getElem_mem hil), hg 0 _ rfl, hg 1 _ rfl, hg 2 _ rfl⟩
end
section
variable {H : Type} {enc : TypeId × Value → H} {P : Program} {w : World} {base : Nat} {held : Bool}
theorem tri_of {n : Nat} {cs : List Value} {x : DataW H × List MemPlace} (h : DataW.trod enc Try.prog w base (fun _ => true) held n 57 cs = some x) : ∃ t : Tr, cs = t.cells ∧ t.Ok := by
  obtain ⟨xs, m, _, _, hl, hxl, hi⟩ := DataW.trod_array Try.underlying57 h
  have hC : Try.prog.cellsOf 57 = 3 := by kernel_rfl
  have hE : Try.prog.cellsOf 5 = 1 := by kernel_rfl
  rw [hC] at hl
  rw [hE] at hi
  match cs, hl with
  | [c0, c1, c2], _ =>
    have h0 := hi 0 (by omega)
    have h1 := hi 1 (by omega)
    have h2 := hi 2 (by omega)
    rw [List.getElem?_eq_getElem (by omega)] at h0 h1 h2
    obtain ⟨x0, e0, _, w0⟩ := DataW.trod_int Try.underlying5 h0
    obtain ⟨x1, e1, _, w1⟩ := DataW.trod_int Try.underlying5 h1
    obtain ⟨x2, e2, _, w2⟩ := DataW.trod_int Try.underlying5 h2
    simp at e0 e1 e2
    subst e0 e1 e2
    exact ⟨⟨x0, x1, x2⟩, rfl, bounds_u8 w0, bounds_u8 w1, bounds_u8 w2⟩
theorem open_tri {a : Option Addr} {len cap : Nat} {d : DataW H} {p : List MemPlace} (h : DataW.Trod enc Try.prog w base (fun _ => true) held 24 (.slice a len cap) d p) : ∃ l, IsTri w a len cap l := by
  obtain ⟨fuel, hf⟩ := h
  have hC : Try.prog.cellsOf 57 = 3 := by kernel_rfl
  rcases open_slice Try.underlying24 hf with ⟨h0, _⟩ | ⟨x, l, c, m, n, D, Pl, hcs, _, hl, hm, hmm, _, hi⟩
  · simp [Value.cells] at h0
    obtain ⟨rfl, rfl, rfl⟩ := h0
    exact ⟨[], rfl, Nat.le_refl _, by simp [maxLen], fun h => absurd h (by omega), fun t ht => by cases ht⟩
  · simp [Value.cells] at hcs
    obtain ⟨rfl, rfl, rfl⟩ := hcs
    have hm' : m = cap := by simpa using hmm
    subst hm'
    have hq1 : ∀ i, i < len → ∃ t : Tr, w.cells? base (x.add (i * 3)) 3 = some t.cells ∧ t.Ok := fun i him => by
      obtain ⟨cs, h1, h2⟩ := hi i (by omega)
      rw [hC] at h1
      obtain ⟨t, ht, hok⟩ := tri_of h2
      exact ⟨t, by rw [← ht]; exact h1, hok⟩
    obtain ⟨ts, hol, hq⟩ := list_of (fun i (t : Tr) => w.cells? base (x.add (i * 3)) 3 = some t.cells ∧ t.Ok) ⟨0, 0, 0⟩ len hq1
    have hcell : ∀ i t, ts[i]? = some t → ∀ j c, t.cells[j]? = some c → w.cell? (x.add (i * 3 + j)) = some c := by
      intro i t hit j c hj
      have him : i < len := by rw [← hol]; exact (List.getElem?_eq_some_iff.1 hit).1
      obtain ⟨hc, _⟩ := hq i him
      rw [List.getD_eq_getElem?_getD, hit] at hc
      obtain ⟨_, hcl, hat⟩ := World.cells?_some hc
      have hjl : j < 3 := by have := (List.getElem?_eq_some_iff.1 hj).1; simpa [Tr.cells] using this
      rw [← add_add, hat j hjl]
      exact hj
    refine ⟨ts, hol, hl, hm, fun h0 => ?_, fun t ht => ?_⟩
    · obtain ⟨bb, off, spot⟩ := x
      have h00 := hcell 0 ts[0] (List.getElem?_eq_getElem (by omega)) 0 _ rfl
      have hspot : spot = none := by simpa [Addr.add] using World.cell?_spot h00
      subst hspot
      exact ⟨bb, off, rfl, fun i t hit j c hj => by have := hcell i t hit j c hj; rwa [addr_add, ← Nat.add_assoc] at this⟩
    · obtain ⟨i, hi', rfl⟩ := List.getElem_of_mem ht
      have := (hq i (by omega)).2
      rwa [List.getD_eq_getElem?_getD, List.getElem?_eq_getElem hi'] at this
/-- As open_recs, of a list whose form is known. -/
theorem open_recsF {t e : TypeId} {fs : Array Field} {a : Option Addr} {len cap : Nat} {d : DataW H} {p : List MemPlace}
    (ks : List (Option IntKind)) (ht : P.underlying t = some (.slice e)) (he : P.underlying e = some (.struct fs)) (hone : oneCellFields P fs = true) (hC : P.cellsOf e = fs.size) (hks : kindsOf P fs.toList = some ks) (hpos : 0 < fs.size)
    (h : DataW.Trod enc P w base (fun _ => true) held t (.slice a len cap) d p) : ∃ rows, IsRecs ks w a len cap rows := by
  obtain ⟨fuel, hf⟩ := h
  have hkl : ks.length = fs.size := by simpa using kinds_length _ _ hks
  rcases open_slice ht hf with ⟨h0, _⟩ | ⟨x, l, c, m, n, D, Pl, hcs, _, hl, hm, hmm, _, hi⟩
  · simp [Value.cells] at h0
    obtain ⟨rfl, rfl, rfl⟩ := h0
    exact ⟨[], rfl, Nat.le_refl _, by simp [maxLen], fun h => absurd h (by omega), fun i hi => absurd hi (by omega)⟩
  · simp [Value.cells] at hcs
    obtain ⟨rfl, rfl, rfl⟩ := hcs
    have hm' : m = cap := by simpa using hmm
    subst hm'
    obtain ⟨rows, hrl, hq⟩ := list_of (fun i cs => w.cells? base (x.add (i * P.cellsOf e)) (P.cellsOf e) = some cs ∧ DataW.trod enc P w base (fun _ => true) held n e cs = some (D i, Pl i)) [] len (fun i him => hi i (by omega))
    have hcell : ∀ i, i < len → ∀ j c, (rows.getD i [])[j]? = some c → w.cell? (x.add (i * ks.length + j)) = some c := by
      intro i him j c hj
      obtain ⟨hc, _⟩ := hq i him
      obtain ⟨_, hcl, hat⟩ := World.cells?_some hc
      have hjl : j < P.cellsOf e := by have := (List.getElem?_eq_some_iff.1 hj).1; omega
      rw [← add_add, hkl, ← hC, hat j hjl, hj]
    refine ⟨rows, hrl, hl, hm, fun h0 => ?_, fun i him => ?_⟩
    · obtain ⟨hc, _⟩ := hq 0 h0
      obtain ⟨_, hcl, hat⟩ := World.cells?_some hc
      obtain ⟨bb, off, spot⟩ := x
      have h00 := hcell 0 h0 0 _ (List.getElem?_eq_getElem (by omega))
      have hspot : spot = none := by simpa [Addr.add] using World.cell?_spot h00
      subst hspot
      exact ⟨bb, off, rfl, fun i him j c hj => by have := hcell i him j c hj; rwa [addr_add, ← Nat.add_assoc] at this⟩
    · obtain ⟨hc, ht'⟩ := hq i him
      obtain ⟨hl', hg⟩ := struct_cells he hone hC ht'
      exact fits_of fs.toList ks _ hks (by simpa using hl') (fun j f hj => hg j f (by simpa using hj))
theorem open_clF {a : Option Addr} {len cap : Nat} {d : DataW H} {p : List MemPlace} (h : DataW.Trod enc Try.prog w base (fun _ => true) held 22 (.slice a len cap) d p) : ∃ cs, IsCls w a len cap cs := by
  obtain ⟨rows, hr⟩ := open_recsF [some .i64, some .i64, some .i64, none] Try.underlying22 Try.underlying54 (by kernel_rfl) (by kernel_rfl) (by kernel_rfl) (by decide) h
  exact hr.cls
/-- A world that came in. -/
structure Wo where
  ca : Option Addr
  cl : Nat
  cc : Nat
  na : Option Addr
  nl : Nat
  nc : Nat
  ra : Option Addr
  rl : Nat
  rc : Nat
abbrev Wo.v (u : Wo) : Value := .agg #[.slice u.ca u.cl u.cc, .slice u.na u.nl u.nc, .slice u.ra u.rl u.rc]
structure IsWo (w : World) (u : Wo) (cs : List Cl) (ns : List Int) (ts : List Tr) : Prop where
  c : IsCls w u.ca u.cl u.cc cs
  n : IsRow .u8 w u.na u.nl u.nc ns
  r : IsTri w u.ra u.rl u.rc ts
theorem IsWo.chg {w w' : World} {u : Wo} {cs : List Cl} {ns : List Int} {ts : List Tr} {S : Nat → Prop} (h : IsWo w u cs ns ts) (c : Chg S w w') (hs : ∀ i, i < w.heap.size → ¬ S i) : IsWo w' u cs ns ts :=
  ⟨h.c.chg c hs, h.n.chg c hs, h.r.chg c hs⟩
theorem sl_form {fuel : Nat} {t e : TypeId} {c : Value} {x : DataW H × List MemPlace} (ht : P.underlying t = some (.slice e)) (h : DataW.trod enc P w base (fun _ => true) held fuel t [c] = some x) : ∃ a l k, c = .slice a l k := by
  rcases open_slice ht h with ⟨h0, _⟩ | ⟨x, l, c, m, n, D, Pl, hcs, _⟩
  · simp at h0
    exact ⟨_, _, _, h0⟩
  · simp at hcs
    exact ⟨_, _, _, hcs⟩
set_option maxRecDepth 100000 in
theorem open_world {r : Reach} {b0 : Nat} {v : Value} {d : DataW H} {p : List MemPlace} (hv : Value.okWide Try.prog w r b0 26 v) (h : DataW.Trod enc Try.prog w base (fun _ => true) held 26 v d p) :
    ∃ u cs ns ts, v = Wo.v u ∧ IsWo w u cs ns ts := by
  obtain ⟨cs, rfl, hsz⟩ := okWide_struct Try.underlying26 hv
  obtain ⟨fuel, hf⟩ := h
  obtain ⟨hl, hg⟩ := struct_cells Try.underlying26 (by kernel_rfl) (by kernel_rfl) hf
  replace hl : cs.toList.length = 3 := by simpa [Value.cells] using hl
  obtain ⟨c0, n0, y0, e0, t0⟩ := hg 0 _ rfl
  obtain ⟨c1, n1, y1, e1, t1⟩ := hg 1 _ rfl
  obtain ⟨c2, n2, y2, e2, t2⟩ := hg 2 _ rfl
  obtain ⟨ca, cl, cc, rfl⟩ := sl_form Try.underlying22 t0
  obtain ⟨na, nl, nc, rfl⟩ := sl_form Try.underlying23 t1
  obtain ⟨ra, rl, rc, rfl⟩ := sl_form Try.underlying24 t2
  obtain ⟨L, hL⟩ := open_clF (a := ca) (len := cl) (cap := cc) ⟨n0, t0⟩
  obtain ⟨ns, hn⟩ := open_row (a := na) (len := nl) (cap := nc) Try.underlying23 Try.underlying5 (by kernel_rfl) ⟨n1, t1⟩
  obtain ⟨ts, ht⟩ := open_tri (a := ra) (len := rl) (cap := rc) ⟨n2, t2⟩
  refine ⟨⟨ca, cl, cc, na, nl, nc, ra, rl, rc⟩, L, ns, ts, ?_, hL, hn, ht⟩
  have e : cs = cs.toList.toArray := by simp
  rw [e]
  simp only [Value.cells] at e0 e1 e2
  match cs.toList, hl, e0, e1, e2 with
  | [a, b, c], _, e0, e1, e2 =>
    simp at e0 e1 e2
    subst e0 e1 e2
    rfl
end
end Go.Proofs.Ytjofdamobnemcaa.L10
/- The graphs that the laws make of a world: the program's and the plain one, both alike. Conditions: none. -/
namespace Go.Proofs.Ytjofdamobnemcaa.L10
open Go.ChangeShapes Go.WideShapes Go.ChangeAt Go.RowKit
open Go.Proofs.Ytjofdamobnemcaa.L9 (Nd nd GS RG Rf Lok In64 Srt nd_some nd_none nd_mem nd_at own_rd ptr Bo Tz new_tz new_gr add_gs add_r setref_gs setref_r adX adL srX srL newNd ins newX_rt)
open Go.Proofs.Ytjofdamobnemcaa.L5 (Cl clAt isRf IsCls newX shX shR shD)
set_option linter.unusedVariables false
theorem rg_new {w : World} {q : Nat} {cv : Value} {z : Nat} (h : Blk w q 43 [cv, .slice none 0 0]) (hz : z ≤ q) : RG w z (· = q) q cv [] :=
  ⟨.slice none 0 0, fun _ => 0, fun _ => 0, fun _ => 0, h, World.ownsRow_nil _ _ _ _, (fun k hk => by cases hk), rfl, rfl, (fun k hk => by subst hk; exact ⟨hz, h.lt⟩), (fun x hx => by cases hx)⟩
/-- The names from 1 on. -/
def nms (k : Nat) : List Int := (List.range k).map fun j : Nat => (j : Int) + 1
theorem nms_succ (k : Nat) : nms (k + 1) = nms k ++ [(k : Int) + 1] := by simp [nms, List.range_succ]
theorem nms_len (k : Nat) : (nms k).length = k := by simp [nms]
section
variable {cs : List Cl} {L : List Nd} {k : Nat} {c : Cl} {K l : Int}
theorem nms_no (h : L.map Nd.id = nms k) : nd L ((k : Int) + 1) = none := by
  cases hn : nd L ((k : Int) + 1) with
  | none => rfl
  | some x =>
    obtain ⟨h1, h2⟩ := nd_some hn
    have : x.id ∈ nms k := by rw [← h]; exact List.mem_map_of_mem h1
    unfold nms at this
    obtain ⟨j, hj, e⟩ := List.mem_map.1 this
    have := List.mem_range.1 hj
    omega
theorem ins_last {x : Nd} (h : ∀ y ∈ L, y.id < x.id) : ins L x = L ++ [x] := by
  unfold ins
  have h1 : L.takeWhile (fun y => decide (y.id < x.id)) = L := by
    induction L with
    | nil => rfl
    | cons a l ih =>
      rw [List.takeWhile_cons, if_pos (by simpa using h a List.mem_cons_self), ih fun y hy => h y (List.mem_cons_of_mem _ hy)]
  have h2 : L.dropWhile (fun y => decide (y.id < x.id)) = [] := by
    induction L with
    | nil => rfl
    | cons a l ih =>
      rw [List.dropWhile_cons, if_pos (by simpa using h a List.mem_cons_self)]
      exact ih (fun y hy => h y (List.mem_cons_of_mem _ hy)) (by
        rw [List.takeWhile_cons, if_pos (by simpa using h a List.mem_cons_self)] at h1
        injection h1)
  rw [h1, h2]
theorem nms_lt (h : L.map Nd.id = nms k) : ∀ y ∈ L, y.id < (k : Int) + 1 := by
  intro y hy
  have : y.id ∈ nms k := by rw [← h]; exact List.mem_map_of_mem hy
  unfold nms at this
  obtain ⟨j, hj, e⟩ := List.mem_map.1 this
  have := List.mem_range.1 hj
  omega
/-- A node more. -/
theorem add_next (h : L.map Nd.id = nms k) (hc : clAt cs K = some c) (hl : l = 0 ∨ (l = 2 ∧ c.k = 2)) : adX cs L ((k : Int) + 1) K l = 0 ∧ (adL cs L ((k : Int) + 1) K l).map Nd.id = nms (k + 1) := by
  have hs : shX (clAt cs K) l = 0 := by
    rw [hc]
    unfold shX
    rcases hl with rfl | ⟨rfl, h2⟩
    · rfl
    · simp [h2]
  have hX : adX cs L ((k : Int) + 1) K l = 0 := by
    unfold adX
    rw [if_neg (by rw [hs]; simp), if_neg]
    rintro (h1 | h1)
    · omega
    · exact h1 (nms_no h)
  refine ⟨hX, ?_⟩
  unfold adL
  rw [if_pos hX, ins_last (fun y hy => nms_lt h y hy), List.map_append, h, nms_succ]
  rfl
theorem nms_at (h : L.map Nd.id = nms k) {j : Nat} (hj : j < k) : ∃ x, L[j]? = some x ∧ x.id = (j : Int) + 1 := by
  have hl : L.length = k := by have := congrArg List.length h; simpa [nms_len] using this
  have hjl : j < L.length := by omega
  refine ⟨L[j], List.getElem?_eq_getElem hjl, ?_⟩
  have : (L.map Nd.id)[j]? = (nms k)[j]? := by rw [h]
  rw [List.getElem?_map, List.getElem?_eq_getElem hjl] at this
  simp [nms, hj] at this
  exact this
end
theorem wr_small (kk : Nat) (h : kk < 64) : wrap64 (kk : Int) = kk ∧ IntKind.i64.wrap (kk : Int) = kk ∧ wrap64 (1 + (kk : Int)) = (kk : Int) + 1 ∧ IntKind.i64.wrap ((kk : Int) + 1 - 1) = kk ∧ wrap64 ((kk : Int) + 1 - 1) = kk := by
  refine ⟨wrap64_id _ (by omega), IntWalk.i64_in _ (by omega), ?_, ?_, ?_⟩
  · rw [wrap64_id _ (by omega)]; omega
  · exact (IntWalk.i64_in _ (by omega)).trans (by omega)
  · rw [wrap64_id _ (by omega)]; omega
theorem rem_is (t : Int) (n : Nat) (hn : 0 < n) : ∃ kk : Nat, t % (n : Int) = kk ∧ kk < n := by
  have h1 := Int.emod_nonneg t (show (n : Int) ≠ 0 by omega)
  have h2 := Int.emod_lt_of_pos t (show (0 : Int) < n by omega)
  exact ⟨(t % (n : Int)).toNat, by omega, by omega⟩
theorem tri_facts (ta tc : Int) (nl : Nat) (h1 : 0 ≤ ta ∧ ta ≤ 255) (h2 : 0 ≤ tc ∧ tc ≤ 255) (hn : nl ≤ 40) :
    IntKind.i64.wrap ta = ta ∧ wrap64 ta = ta ∧ IntKind.i64.wrap tc = tc ∧ wrap64 tc = tc ∧ IntKind.i64.wrap ((nl : Int) + 1) = ((nl + 1 : Nat) : Int) ∧ wrap64 ((nl : Int) + 1) = ((nl + 1 : Nat) : Int) :=
  ⟨IntWalk.i64_in _ (by omega), wrap64_id _ (by omega), IntWalk.i64_in _ (by omega), wrap64_id _ (by omega), (IntWalk.i64_in _ (by omega)).trans (by omega), (wrap64_id _ (by omega)).trans (by omega)⟩
theorem tri_b (tb : Int) (M : Nat) (h1 : 0 ≤ tb ∧ tb ≤ 255) : IntKind.i64.wrap tb = tb ∧ wrap64 tb = tb ∧ 0 ≤ tb :=
  ⟨IntWalk.i64_in _ (by omega), wrap64_id _ (by omega), h1.1⟩
theorem srL_ids (L : List Nd) (i k t : Int) : (srL L i k t).map Nd.id = L.map Nd.id := by
  unfold srL
  split
  · exact L9.updN_ids _ fun _ => rfl
  · rfl
/-- What is referred to has a small name. -/
def Rv (L : List Nd) : Prop := ∀ x ∈ L, ∀ r ∈ x.refs, 0 ≤ r ∧ r ≤ L.length
theorem rv_add {cs : List Cl} {L : List Nd} (h : Rv L) (i c l : Int) : Rv (adL cs L i c l) := by
  unfold adL
  split
  · intro x hx r hr
    have hl : (ins L (newNd cs i c l)).length = L.length + 1 := L9.ins_len _ _
    rcases L9.mem_ins.1 hx with rfl | hx
    · have h0 : r ∈ zeros (shR (clAt cs c) l).toNat := hr
      unfold zeros at h0
      have h1 := List.eq_of_mem_replicate h0
      omega
    · have := h x hx r hr
      omega
  · exact h
theorem rv_set {L : List Nd} (h : Rv L) (i k t : Int) (h0 : 0 ≤ t) (h1 : t ≤ L.length) : Rv (srL L i k t) := by
  unfold srL
  split
  · intro x hx r hr
    have hl := L9.updN_len L i (fun x => { x with refs := x.refs.set k.toNat t })
    rw [hl]
    obtain ⟨y, hy, rfl⟩ := List.mem_map.1 hx
    split at hr
    · rcases List.mem_or_eq_of_mem_set hr with hr | rfl
      · exact h y hy r hr
      · exact ⟨h0, h1⟩
    · exact h y hy r hr
  · exact h
/-- What stands between two calls. -/
structure Mk (w0 w : World) (z p q : Nat) (cv : Value) (cs : List Cl) (k : Nat) (L : List Nd) : Prop where
  bo : Bo w z p q cv cs L
  ids : L.map Nd.id = nms k
  cz : Chg (fun j => z ≤ j) w0 w
  rv : Rv L
section
variable {w : World} {u : Wo} {cs : List Cl} {ns : List Int} {ts : List Tr}
/-- Is there a graph? -/
def good (u : Wo) (cs : List Cl) : Prop := (u.nl ≤ 40 ∧ u.rl ≤ 200) ∧ (u.cl ≠ 0 ∧ u.cl ≤ 63) ∧ newX cs = 0
set_option maxRecDepth 100000 in
set_option maxHeartbeats 2000000 in
theorem made_no (h : IsWo w u cs ns ts) (hg : ¬ good u cs) :
    Calls Try.prog 5 #[Wo.v u] w fun e w' => e = .returned (.tuple #[.pointer none, .pointer none, .bool false]) ∧ Grow w w' := by
  by_cases h1 : 40 < u.nl
  · skip
    have hbx := Blk.new w 26 [.slice u.ca u.cl u.cc, .slice u.na u.nl u.nc, .slice u.ra u.rl u.rc]
    have gB := Grow.box w (.cells [.slice u.ca u.cl u.cc, .slice u.na u.nl u.nc, .slice u.ra u.rl u.rc].toArray 26)
    have HW := hide (h.chg gB fun _ _ => id)
    have k0 := hbx.cell 0
    have k1 := hbx.cell 1
    have k2 := hbx.cell 2
    have HBX := hide hbx
    obtain ⟨ca, cl, cc, na, nl, nc, ra, rl, rc⟩ := u
    dsimp only at *
    clear h hbx
    clear hg
    have q1 : decide ((nl : Int) > 40) = true := by simp; omega
    go_enter Try.func5, Try.ntmps5
    go_wp2
    go_returns
    exact ⟨rfl, gB⟩
  by_cases h2 : 200 < u.rl
  · skip
    have hbx := Blk.new w 26 [.slice u.ca u.cl u.cc, .slice u.na u.nl u.nc, .slice u.ra u.rl u.rc]
    have gB := Grow.box w (.cells [.slice u.ca u.cl u.cc, .slice u.na u.nl u.nc, .slice u.ra u.rl u.rc].toArray 26)
    have HW := hide (h.chg gB fun _ _ => id)
    have k0 := hbx.cell 0
    have k1 := hbx.cell 1
    have k2 := hbx.cell 2
    have HBX := hide hbx
    obtain ⟨ca, cl, cc, na, nl, nc, ra, rl, rc⟩ := u
    dsimp only at *
    clear h hbx
    clear hg
    have q1 : decide ((nl : Int) > 40) = false := by simp; omega
    have q2 : decide ((rl : Int) > 200) = true := by simp; omega
    go_enter Try.func5, Try.ntmps5
    go_wp2
    go_returns
    exact ⟨rfl, gB⟩
  by_cases h3 : u.cl = 0
  · skip
    have hbx := Blk.new w 26 [.slice u.ca u.cl u.cc, .slice u.na u.nl u.nc, .slice u.ra u.rl u.rc]
    have gB := Grow.box w (.cells [.slice u.ca u.cl u.cc, .slice u.na u.nl u.nc, .slice u.ra u.rl u.rc].toArray 26)
    have HW := hide (h.chg gB fun _ _ => id)
    have k0 := hbx.cell 0
    have k1 := hbx.cell 1
    have k2 := hbx.cell 2
    have HBX := hide hbx
    obtain ⟨ca, cl, cc, na, nl, nc, ra, rl, rc⟩ := u
    dsimp only at *
    clear h hbx
    clear hg
    have q1 : decide ((nl : Int) > 40) = false := by simp; omega
    have q2 : decide ((rl : Int) > 200) = false := by simp; omega
    subst h3
    go_enter Try.func5, Try.ntmps5
    go_wp2
    go_returns
    exact ⟨rfl, gB⟩
  by_cases h4 : 63 < u.cl
  · skip
    have hbx := Blk.new w 26 [.slice u.ca u.cl u.cc, .slice u.na u.nl u.nc, .slice u.ra u.rl u.rc]
    have gB := Grow.box w (.cells [.slice u.ca u.cl u.cc, .slice u.na u.nl u.nc, .slice u.ra u.rl u.rc].toArray 26)
    have HW := hide (h.chg gB fun _ _ => id)
    have k0 := hbx.cell 0
    have k1 := hbx.cell 1
    have k2 := hbx.cell 2
    have HBX := hide hbx
    obtain ⟨ca, cl, cc, na, nl, nc, ra, rl, rc⟩ := u
    dsimp only at *
    clear h hbx
    clear hg
    have q1 : decide ((nl : Int) > 40) = false := by simp; omega
    have q2 : decide ((rl : Int) > 200) = false := by simp; omega
    have q3 : ((cl : Int) == 0) = false := by simp; omega
    have q4 : decide ((cl : Int) > 63) = true := by simp; omega
    clear h3
    go_enter Try.func5, Try.ntmps5
    go_wp2
    go_returns
    exact ⟨rfl, gB⟩
  · obtain ⟨X, hX⟩ : ∃ X, newX cs = X := ⟨_, rfl⟩
    have hX0 : X ≠ 0 := fun e => hg ⟨by omega, by omega, by rw [hX, e]⟩
    have q5 : (X != 0) = true := by simpa using hX0
    have HX := hide hX
    have hbx := Blk.new w 26 [.slice u.ca u.cl u.cc, .slice u.na u.nl u.nc, .slice u.ra u.rl u.rc]
    have gB := Grow.box w (.cells [.slice u.ca u.cl u.cc, .slice u.na u.nl u.nc, .slice u.ra u.rl u.rc].toArray 26)
    have HW := hide (h.chg gB fun _ _ => id)
    have k0 := hbx.cell 0
    have k1 := hbx.cell 1
    have k2 := hbx.cell 2
    have HBX := hide hbx
    obtain ⟨ca, cl, cc, na, nl, nc, ra, rl, rc⟩ := u
    dsimp only at *
    clear h hbx
    clear hg hX hX0
    have q1 : decide ((nl : Int) > 40) = false := by simp; omega
    have q2 : decide ((rl : Int) > 200) = false := by simp; omega
    have q3 : ((cl : Int) == 0) = false := by simp; omega
    have q4 : decide ((cl : Int) > 63) = false := by simp; omega
    have HL := hide h4
    clear h3 h1 h2 h4
    go_enter Try.func5, Try.ntmps5
    go_wp2_with fail
    refine (L5.rnew_any _ _ _ _ _ HW.out.c (by have := HL.out; dsimp only; omega)).mono ?_
    rintro e w2 ⟨rfl, c2⟩
    rw [HX.out]
    replace gB := gB.trans c2
    go_wp2
    go_returns
    exact ⟨rfl, gB⟩
theorem Mk.grow {w0 w w' : World} {z p q k : Nat} {cv : Value} {L : List Nd} (h : Mk w0 w z p q cv cs k L) (g : Grow w w') : Mk w0 w' z p q cv cs k L := ⟨h.bo.grow g, h.ids, h.cz.step g fun _ _ h => h.elim, h.rv⟩
set_option maxRecDepth 100000 in
set_option maxHeartbeats 4000000 in
theorem made_yes (h : IsWo w u cs ns ts) (hg : good u cs) :
    Calls Try.prog 5 #[Wo.v u] w fun e w' => ∃ z p q L, e = .returned (.tuple #[ptr p, ptr q, .bool true]) ∧ Bo w' z p q (.slice u.ca u.cl u.cc) cs L ∧ L.map Nd.id = nms u.nl ∧ Rv L ∧ w.heap.size ≤ z ∧ Grow w w' := by
  obtain ⟨⟨h1, h2⟩, ⟨h3, h4⟩, hX⟩ := hg
  have HRT := hide (newX_rt hX)
  have HX := hide hX
  clear hX
  have hbx := Blk.new w 26 [.slice u.ca u.cl u.cc, .slice u.na u.nl u.nc, .slice u.ra u.rl u.rc]
  have gB := Grow.box w (.cells [.slice u.ca u.cl u.cc, .slice u.na u.nl u.nc, .slice u.ra u.rl u.rc].toArray 26)
  have HW := hide (h.chg gB fun _ _ => id)
  have k0 := hbx.cell 0
  have k1 := hbx.cell 1
  have k2 := hbx.cell 2
  have HBX := hide hbx
  obtain ⟨ca, cl, cc, na, nl, nc, ra, rl, rc⟩ := u
  dsimp only at *
  clear h hbx
  have q1 : decide ((nl : Int) > 40) = false := by simp; omega
  have q2 : decide ((rl : Int) > 200) = false := by simp; omega
  have q3 : ((cl : Int) == 0) = false := by simp; omega
  have q4 : decide ((cl : Int) > 63) = false := by simp; omega
  have HL := hide (⟨h1, h2, Nat.pos_of_ne_zero h3, h4⟩ : nl ≤ 40 ∧ rl ≤ 200 ∧ 0 < cl ∧ cl ≤ 63)
  clear h1 h2 h3 h4
  go_enter Try.func5, Try.ntmps5
  go_wp2_with fail
  refine (L5.rnew_any _ _ _ _ _ HW.out.c (by have := HL.out; dsimp only; omega)).mono ?_
  rintro e w2 ⟨rfl, c2⟩
  rw [HX.out]
  replace k0 := Grow.cell c2 k0
  have HW2 := hide (HW.out.chg c2 fun _ _ => id)
  have HB2 := hide (HBX.out.chg c2 id)
  have HG2 := hide (gB.trans c2)
  clear gB c2 k1 k2 q1 q2 q3 q4 HBX HW
  go_wp2_with fail
  refine (new_tz HW2.out.c (by have := HL.out; dsimp only; omega) HX.out).mono ?_
  rintro e w4 ⟨tb, rfl, ht, c4⟩
  replace k0 := Grow.cell c4 k0
  obtain ⟨z, hz⟩ : ∃ z, w4.heap.size = z := ⟨_, rfl⟩
  rw [hz] at ht
  obtain ⟨b, hb⟩ : ∃ b, w.heap.size = b := ⟨_, rfl⟩
  have hbz : b < z := by rw [← hz, ← hb]; exact (HB2.out.chg c4 id).lt
  have HG4 := hide (HG2.out.trans c4)
  have HW4 := hide (HW2.out.chg c4 fun _ _ => id)
  have HB4 := hide (HB2.out.chg c4 id)
  rw [hb] at HB4 k0 ⊢
  have HBZ := hide (And.intro hbz (And.intro hb hz))
  have HCELL := hide (show ∀ W, Chg (fun j => z ≤ j) w4 W → W.cell? ⟨b, 0, none⟩ = some (.slice ca cl cc) ∧ W.cell? ⟨b, 1, none⟩ = some (.slice na nl nc) ∧ W.cell? ⟨b, 2, none⟩ = some (.slice ra rl rc) from fun W c => ⟨c.cell (HB4.out.cell 0) (by show ¬ z ≤ b; omega), c.cell (HB4.out.cell 1) (by show ¬ z ≤ b; omega), c.cell (HB4.out.cell 2) (by show ¬ z ≤ b; omega)⟩)
  have HWW := hide (show ∀ W, Chg (fun j => z ≤ j) w4 W → IsWo W ⟨ca, cl, cc, na, nl, nc, ra, rl, rc⟩ cs ns ts from fun W c => HW4.out.chg c fun i hi h => by rw [← hz] at h; omega)
  have HNG := hide (fun (W : World) (g : Grow w4 W) => new_gr (ht.grow g) (by rw [← hz]; exact g.size))
  have HK := hide (fun (W : World) (g : Grow w4 W) => g.cell k0)
  clear c4 ht hbz hb hz HG2 HB2 HW2
  go_wp2_with fail
  go_region_held3 (fun w' => w'.cell? ⟨b, 0, none⟩ = some (.slice ca cl cc)) (first | assumption | exact HK.out _ ((Chg.refl _ _).drew.trans c5) | exact HK.out _ (Chg.trans (Chg.alloc (Chg.refl _ _).drew _) c5) | (refine HK.out _ ?_ <;> (repeat (first | exact Chg.refl _ _ | exact c5 | exact Chg.trans (Chg.drew (Chg.refl _ _)) c5 | refine Chg.drew ?_ | refine Chg.alloc ?_ _)))) (first | (go_at_call 16; refine Calls.mono (HNG.out _ (by (repeat (first | exact Chg.refl _ _ | refine Chg.drew ?_ | refine Chg.alloc ?_ _)))) ?_; rintro e w5 ⟨p, S, rfl, c5, hg, hs⟩))
  · have hbl := Blk.new w5 43 [.slice ca cl cc, .slice none 0 0]
    have gb5 := Grow.box w5 (.cells [.slice ca cl cc, .slice none 0 0].toArray 43)
    have hz5 : z ≤ w5.heap.size := by have := HBZ.out.2.2; have := c5.size; simp at this; omega
    have HM := hide (⟨⟨S, (· = w5.heap.size), hg.grow gb5, rg_new hbl hz5, fun k hk e => by have := (hg.s hk).2; omega⟩, rfl, ((Chg.refl _ w4).drew.trans (c5.trans gb5)).mono fun _ _ h => h.elim, fun x hx => by cases hx⟩ : Mk w4 (w5.alloc (.cells [.slice ca cl cc, .slice none 0 0].toArray 43)) z p w5.heap.size (.slice ca cl cc) cs 0 [])
    clear hbl gb5 hz5 hg hs c5 HNG HK k0 HW4 HB4
    generalize w5.alloc (.cells #[.slice ca cl cc, .slice none 0 0] 43) = wm at *
    generalize w5.heap.size = q at *
    obtain ⟨k0, k1, k2⟩ := HCELL.out _ HM.out.cz
    go_wp2_with fail
    clear k0 k1 k2
    go_loopw [61] (fun v wr => ∃ (k : Nat) (L : List Nd), k ≤ nl ∧ v = .int .i64 k ∧ Mk w4 wr z p q (.slice ca cl cc) cs k L) (fun v _ => nl - (Go.RowKit.intOf v).toNat)
    case atStart => exact ⟨0, [], Nat.zero_le _, rfl, HM.out⟩
    case round =>
      clear HM
      obtain ⟨k, L, hk, rfl, hmk⟩ := hrel
      rcases Nat.eq_or_lt_of_le hk with hke | hlt
      · have hke2 := hke.symm
        subst hke2
        clear hke hk
        have q1 : decide ((nl : Int) < nl) = false := by simp
        have HM := hide hmk
        clear hmk
        obtain ⟨-, -, k2⟩ := HCELL.out _ HM.out.cz
        go_wp2_with fail
        clear k2 q1
        go_loopw [99] (fun v wr => ∃ (k : Nat) (L : List Nd), k ≤ rl ∧ v = .int .i64 k ∧ Mk w4 wr z p q (.slice ca cl cc) cs nl L) (fun v _ => rl - (Go.RowKit.intOf v).toNat)
        case atStart => exact ⟨0, L, Nat.zero_le _, rfl, HM.out⟩
        case round =>
          clear HM L
          obtain ⟨k, L, hk, rfl, hmk⟩ := hrel
          have HFIN := hide (show ∀ wx, Mk w4 wx z p q (.slice ca cl cc) cs nl L → w.heap.size ≤ z ∧ Grow w wx from fun wx hm => ⟨by have := HBZ.out; omega, HG4.out.step hm.cz fun i hi h => by have := HBZ.out; have := h; omega⟩)
          rcases Nat.eq_or_lt_of_le hk with hke | hlt
          · have hke2 := hke.symm
            subst hke2
            clear hke hk
            have q1 : decide ((rl : Int) < rl) = false := by simp
            have HM := hide hmk
            clear hmk
            go_wp2
            go_returns
            exact ⟨z, p, q, L, rfl, HM.out.bo, HM.out.ids, HM.out.rv, (HFIN.out _ HM.out).1, (HFIN.out _ HM.out).2⟩
          · have q1 : decide ((k : Int) < rl) = true := decide_eq_true (by omega)
            obtain ⟨-, k1, k2⟩ := HCELL.out _ hmk.cz
            have HK := hide hlt
            have hw : IntKind.i64.wrap ((k : Int) + 1) = ((k + 1 : Nat) : Int) := (IntWalk.i64_in _ (by have := HL.out; omega)).trans (by omega)
            by_cases hn0 : nl = 0
            · as_aux_lemma =>
              have q2 : ((nl : Int) == 0) = true := by simp; omega
              have HM := hide hmk
              clear hmk hn0 hlt hk hw
              go_wp2
              go_returns
              exact ⟨z, p, q, L, rfl, HM.out.bo, HM.out.ids, HM.out.rv, (HFIN.out _ HM.out).1, (HFIN.out _ HM.out).2⟩
            · as_aux_lemma =>
              have q2 : ((nl : Int) == 0) = false := by simp; omega
              have hwo := HWW.out _ hmk.cz
              obtain ⟨tb', to', t, hra, -, ⟨ha, hb, hc⟩, x0, x1, x2⟩ := hwo.r.at_ hlt
              dsimp only at hra
              obtain ⟨ta, tbb, tc⟩ := t
              dsimp only at ha hb hc x0 x1 x2
              obtain ⟨aa, haa, hal⟩ := rem_is ta nl (by omega)
              obtain ⟨tt, htt, htl⟩ := rem_is tc (nl + 1) (by omega)
              obtain ⟨N1, hN1⟩ : ∃ N1 : Int, ((nl + 1 : Nat) : Int) = N1 := ⟨_, rfl⟩
              rw [hN1] at htt
              have p0 : N1 ≠ 0 := by omega
              have hlen : L.length = nl := by have := congrArg List.length hmk.ids; rwa [List.length_map, nms_len] at this
              obtain ⟨x, hx, hxi⟩ := nms_at hmk.ids hal
              obtain ⟨S, T, hg, hr, hd⟩ := hmk.bo
              have HLOK := hide hg.lok
              obtain ⟨v, r, d, ow, hrf⟩ := hr
              obtain ⟨gn, vc, rfl, -, -, -, -, -, y2, -⟩ := hrf.at_ hx
              have y1 := hrf.cell1
              rw [hlen] at y1
              have hr : RG wr z T q (.slice ca cl cc) L := ⟨_, _, _, _, hrf⟩
              obtain ⟨M, hM⟩ : ∃ M, x.refs.length = M := ⟨_, rfl⟩
              rw [hM] at y2
              have hM30 : M ≤ 30 := by rw [← hM]; exact (hg.ok (List.mem_of_getElem? hx)).rl
              generalize r x.id = rb at *
              have HAT := hide (⟨hal, htl, ha, hb, hc, hM30, hlen, hN1⟩ : aa < nl ∧ tt < nl + 1 ∧ (0 ≤ ta ∧ ta ≤ 255) ∧ (0 ≤ tbb ∧ tbb ≤ 255) ∧ (0 ≤ tc ∧ tc ≤ 255) ∧ M ≤ 30 ∧ L.length = nl ∧ ((nl + 1 : Nat) : Int) = N1)
              have hll : L.length < 1000000 := by rw [hlen]; have := HL.out; omega
              have HM := hide hmk
              have HD := hide hd
              have HG := hide hg
              have HR := hide hr
              have HY := hide (And.intro y1 y2)
              have HWA := hide (wr_small aa (by have := HL.out; omega))
              have HP8 := hide (show aa < nl from hal)
              have p3 : (0 : Int) ≤ ta := ha.1
              have p4 : (0 : Int) ≤ tc := hc.1
              have p5 : (nl : Int) ≠ 0 := by omega
              have p7 : k < rl := hlt
              obtain ⟨A, hA⟩ : ∃ A : Int, (aa : Int) + 1 = A := ⟨_, rfl⟩
              have HAI := hide (show In64 A from (show (Lit.int .i64 _).wf = true by simp [Lit.wf, IntKind.min, IntKind.max, IntKind.signed, IntKind.bits]; have := HL.out; omega))
              have HTI := hide (show In64 (tt : Int) from (show (Lit.int .i64 _).wf = true by simp [Lit.wf, IntKind.min, IntKind.max, IntKind.signed, IntKind.bits]; have := HL.out; omega))
              have HTB := hide (tri_b tbb M hb)
              obtain ⟨p1, p1', p2, p2', p6, p6'⟩ := tri_facts ta tc nl ha hc (by have := HL.out; omega)
              rw [hN1] at p6 p6'
              have HX1 := hide x1
              have HPA := hide (show wrap64 (1 + (aa : Int)) = A ∧ IntKind.i64.wrap (A - 1) = aa ∧ aa < nl from by
                obtain ⟨-, -, e1, e2, -⟩ := HWA.out
                rw [hA] at e1 e2
                exact ⟨e1, e2, HP8.out⟩)
              subst hra
              clear hmk hwo hlt hk hd hg hr hrf hlen hN1 hM30 hx hxi hM hal htl ha hb hc y1 y2 hn0 HP8 HWA hA x1
              go_wp2_with fail
              go_quiet (fail)
              rw [HPA.out.1, htt]
              have gq : Grow wr (wr.drewN nq) := (Chg.refl (fun _ => False) wr).drewN nq
              have y1 := gq.cell HY.out.1
              have y2 := gq.cell HY.out.2
              have x1 := gq.cell HX1.out
              have k2 := gq.cell k2
              have HGQ := hide gq
              generalize wr.drewN nq = wq at *
              obtain ⟨-, p8, p9⟩ := HPA.out
              clear p1 p1' p2 p2' p3 p4 p5 p6 p6' p0 haa htt x0 x2 k1 HPA q1 q2 HX1 HY gq
              by_cases hM0 : M = 0
              · have q3 : decide ((M : Int) > 0) = false := by simp; omega
                have q4 : ¬ 0 < M := by omega
                have q5 : decide (0 < M) = false := decide_eq_false q4
                have HM2 := hide (HM.out.grow HGQ.out)
                clear hM0 k2 x1
                go_wp2
                go_roundw
                case rel => exact ⟨k + 1, L, HK.out, rfl, HM2.out⟩
                case measure => have := HK.out; simp [Go.RowKit.intOf]; omega
              · have q3 : decide ((M : Int) > 0) = true := by simp; omega
                obtain ⟨bb, hbb, hbl⟩ := rem_is tbb M (by omega)
                have HBI := hide (show In64 (bb : Int) from (show (Lit.int .i64 _).wf = true by simp [Lit.wf, IntKind.min, IntKind.max, IntKind.signed, IntKind.bits]; have := HAT.out.2.2.2.2.2.1; omega))
                obtain ⟨r1, r2, r3⟩ := HTB.out
                have r4 : (M : Int) ≠ 0 := by omega
                have r5 : 0 < M := by omega
                have HS1 := hide (setref_gs (HG.out.grow HGQ.out) HAI.out HBI.out HTI.out)
                have HS2 := hide (fun (W' : World) (c' : Chg S wq W') => setref_r (i := A) (t0 := (bb : Int)) (t := (tt : Int)) ((HR.out.grow HGQ.out).chg c' fun j hj hs => HD.out j hs hj) HLOK.out hll)
                have HIDS := hide (srL_ids L A bb tt)
                have HRV := hide (rv_set HM.out.rv A bb tt (by omega) (by have := HAT.out.2.1; have := HAT.out.2.2.2.2.2.2.1; omega))
                generalize srX L A bb tt = X at *
                generalize srL L A bb tt = L2 at *
                clear hM0 hbl
                go_wp2_with fail
                refine HS1.out.mono ?_
                rintro e w3 ⟨rfl, c3, h3⟩
                have HA2 := hide (HS2.out w3 c3)
                have H3 := hide (And.intro c3 h3)
                clear c3 h3 HS1 HS2 y1 y2 x1 k2 p8 p9 r1 r2 r3 r4 r5 q3
                go_wp2_with fail
                refine HA2.out.mono ?_
                rintro e w5 ⟨rfl, c5, h5⟩
                obtain ⟨c3, h3⟩ := H3.out
                obtain ⟨hb2, hc2⟩ := Bo.two (HG.out.grow HGQ.out) (HR.out.grow HGQ.out) HD.out c3 h3 (fun j hj => .inl hj) c5 h5 (fun j hj => .inl hj)
                have HM2 := hide (⟨hb2, HIDS.out.trans HM.out.ids, (HM.out.cz.step HGQ.out fun _ _ h => h.elim).trans hc2, HRV.out⟩ : Mk w4 w5 z p q (.slice ca cl cc) cs nl L2)
                clear hb2 hc2 h5 h3 c3 c5 HA2 H3 hbb
                go_wp2
                go_roundw
                case rel => exact ⟨k + 1, L2, HK.out, rfl, HM2.out⟩
                case measure => have := HK.out; simp [Go.RowKit.intOf]; omega
      · have q1 : decide ((k : Int) < nl) = true := decide_eq_true (by omega)
        obtain ⟨k0, k1, -⟩ := HCELL.out _ hmk.cz
        have hwo := HWW.out _ hmk.cz
        obtain ⟨xa, hxa, hcx, hwf⟩ := hwo.n.at_ hlt
        dsimp only at hxa
        have hbd := bounds_u8 hwf
        generalize ns.getD k 0 = t at *
        obtain ⟨kk, hkk, hkl⟩ : ∃ kk : Nat, t % (cl : Int) = kk ∧ kk < cl := ⟨(t % (cl : Int)).toNat, by have := Int.emod_nonneg t (show (cl : Int) ≠ 0 by have := HL.out; omega); omega, by have := Int.emod_lt_of_pos t (show (0 : Int) < cl by have := HL.out; omega); have := Int.emod_nonneg t (show (cl : Int) ≠ 0 by have := HL.out; omega); omega⟩
        obtain ⟨cb, co, c, hca, hcc, hat, -⟩ := hwo.c.at_ hkl
        dsimp only at hca
        have hc0 := hat.1
        have hcl : clAt cs ((kk : Int) + 1) = some c := L5.clAt_at hcc
        obtain ⟨S, T, hg, hr, hd⟩ := hmk.bo
        have hll : L.length < 1000000 := by have := congrArg List.length hmk.ids; rw [List.length_map, nms_len] at this; have := HL.out; omega
        have hki : In64 ((k : Int) + 1) := (show (Lit.int .i64 _).wf = true by simp [Lit.wf, IntKind.min, IntKind.max, IntKind.signed, IntKind.bits]; have := HL.out; omega)
        have HS1 := hide (fun (W : World) (g : Grow wr W) (l : Int) => add_gs (hg.grow g) hll hki ((kk : Int) + 1) l)
        have HS2 := hide (fun (W W' : World) (g : Grow wr W) (c' : Chg S W W') (l : Int) => add_r ((hr.grow g).chg c' fun j hj hs => hd j hs hj) (HWW.out W' ((hmk.cz.step g fun _ _ h => h.elim).step c' fun j _ hs => (hg.s hs).1)).c hg.lok HRT.out.1 hll (by have := HL.out; omega) ((k : Int) + 1) ((kk : Int) + 1) l)
        have HMK := hide hmk
        have HK := hide hlt
        have hw0 : IntKind.i64.wrap ((k : Int) + 1) = ((k : Int) + 1) := IntWalk.i64_in _ (by have := HL.out; omega)
        have hw : IntKind.i64.wrap ((k : Int) + 1) = ((k + 1 : Nat) : Int) := (IntWalk.i64_in _ (by have := HL.out; omega)).trans (by omega)
        have hk64 : kk < 64 := by have := HL.out; omega
        have HP8 := hide (show decide ((kk : Int) < (cl : Int)) = true from decide_eq_true (by omega))
        have p1 : IntKind.i64.wrap t = t := IntWalk.i64_in _ (by omega)
        have p2 : ((cl : Int)) ≠ 0 := by have := HL.out; omega
        have p3 : (0 : Int) ≤ t := hbd.1
        have p4 : k < nl := hlt
        have p5 : wrap64 t = t := wrap64_id _ (by omega)
        subst hxa hca
        clear hmk hwo hat hcc hlt hk hwf hbd hki hll
        obtain ⟨K, hK⟩ : ∃ K : Int, (kk : Int) + 1 = K := ⟨_, rfl⟩
        obtain ⟨-, -, p6, p7, -⟩ := wr_small kk hk64
        rw [hK] at p6 p7 hcl HS1 HS2
        have HPP := hide (And.intro p6 (And.intro p7 HP8.out))
        clear hk64 hK p6 p7 HP8
        have HCL := hide hcl
        have HD := hide hd
        clear hcl hd
        by_cases h2 : c.k = 2
        · as_aux_lemma =>
          have HP9 := hide (show (c.k == 2) = true by simpa using h2)
          have HNX := hide (add_next (k := k) (l := 2) HMK.out.ids HCL.out (.inr ⟨rfl, h2⟩))
          clear h2
          generalize c.k = ck at *
          go_wp2_with fail
          go_quiet (fail)
          rw [HPP.out.1]
          clear hcx p1 p2 p3 p4 p5 q1
          obtain ⟨-, p7, p8⟩ := HPP.out
          have gq : Grow wr (wr.drewN nq) := (Chg.refl (fun _ => False) wr).drewN nq
          replace k0 := gq.cell k0
          replace hc0 := gq.cell hc0
          generalize wr.drewN nq = wq at *
          have p9 := HP9.out
          go_wp2_with fail
          refine (HS1.out _ gq 2).mono ?_
          rintro e w3 ⟨rfl, c3, S3, h3, s3⟩
          rw [HNX.out.1]
          have HA2 := hide (HS2.out _ w3 gq c3 2)
          have H3 := hide (And.intro c3 (And.intro h3 s3))
          clear c3 h3 s3 HS1 HS2 hc0 k0 k1 p7 p8 p9
          go_wp2_with fail
          refine HA2.out.mono ?_
          rintro e w5 ⟨rfl, c5, T5, h5, t5⟩
          rw [HNX.out.1]
          obtain ⟨L2, hL2⟩ : ∃ L2, adL cs L ((k : Int) + 1) K 2 = L2 := ⟨_, rfl⟩
          have hids := HNX.out.2
          rw [hL2] at hids h5
          obtain ⟨c3, h3, s3⟩ := H3.out
          rw [hL2] at h3
          obtain ⟨hb2, hc2⟩ := Bo.two (hg.grow gq) (hr.grow gq) HD.out c3 h3 s3 c5 h5 t5
          have HM2 := hide (⟨hb2, hids, (HMK.out.cz.step gq fun _ _ h => h.elim).trans hc2, hL2 ▸ rv_add HMK.out.rv _ _ _⟩ : Mk w4 w5 z p q (.slice (some ⟨cb, co, none⟩) cl cc) cs (k + 1) L2)
          clear hb2 hc2 hids h5 h3 c3 s3 c5 t5 hL2 hg hr HMK HA2 H3 HNX
          go_wp2
          go_roundw
          case rel => exact ⟨k + 1, L2, HK.out, rfl, HM2.out⟩
          case measure => have := HK.out; simp [Go.RowKit.intOf]; omega
        · as_aux_lemma =>
          have HP9 := hide (show (c.k == 2) = false by simpa using h2)
          have HNX := hide (add_next (k := k) (l := 0) HMK.out.ids HCL.out (.inl rfl))
          clear h2
          generalize c.k = ck at *
          go_wp2_with fail
          go_quiet (fail)
          rw [HPP.out.1]
          clear hcx p1 p2 p3 p4 p5 q1
          obtain ⟨-, p7, p8⟩ := HPP.out
          have gq : Grow wr (wr.drewN nq) := (Chg.refl (fun _ => False) wr).drewN nq
          replace k0 := gq.cell k0
          replace hc0 := gq.cell hc0
          generalize wr.drewN nq = wq at *
          have p9 := HP9.out
          go_wp2_with fail
          refine (HS1.out _ gq 0).mono ?_
          rintro e w3 ⟨rfl, c3, S3, h3, s3⟩
          rw [HNX.out.1]
          have HA2 := hide (HS2.out _ w3 gq c3 0)
          have H3 := hide (And.intro c3 (And.intro h3 s3))
          clear c3 h3 s3 HS1 HS2 hc0 k0 k1 p7 p8 p9
          go_wp2_with fail
          refine HA2.out.mono ?_
          rintro e w5 ⟨rfl, c5, T5, h5, t5⟩
          rw [HNX.out.1]
          obtain ⟨L2, hL2⟩ : ∃ L2, adL cs L ((k : Int) + 1) K 0 = L2 := ⟨_, rfl⟩
          have hids := HNX.out.2
          rw [hL2] at hids h5
          obtain ⟨c3, h3, s3⟩ := H3.out
          rw [hL2] at h3
          obtain ⟨hb2, hc2⟩ := Bo.two (hg.grow gq) (hr.grow gq) HD.out c3 h3 s3 c5 h5 t5
          have HM2 := hide (⟨hb2, hids, (HMK.out.cz.step gq fun _ _ h => h.elim).trans hc2, hL2 ▸ rv_add HMK.out.rv _ _ _⟩ : Mk w4 w5 z p q (.slice (some ⟨cb, co, none⟩) cl cc) cs (k + 1) L2)
          clear hb2 hc2 hids h5 h3 c3 s3 c5 t5 hL2 hg hr HMK HA2 H3 HNX
          go_wp2
          go_roundw
          case rel => exact ⟨k + 1, L2, HK.out, rfl, HM2.out⟩
          case measure => have := HK.out; simp [Go.RowKit.intOf]; omega
  · have hbl := (Blk.new w4 43 [.slice ca cl cc, .slice none 0 0]).drew.chg c5 id
    have gb4 : Grow w4 w5 := ((Chg.refl _ w4).alloc _).drew.trans c5
    have hz4 : z ≤ w4.heap.size := by have := HBZ.out.2.2; omega
    have HM := hide (⟨⟨S, (· = w4.heap.size), hg, rg_new hbl hz4, fun k hk e => by have := hs k hk; simp at this; omega⟩, rfl, gb4.mono fun _ _ h => h.elim, fun x hx => by cases hx⟩ : Mk w4 w5 z p w4.heap.size (.slice ca cl cc) cs 0 [])
    clear hbl gb4 hz4 hg hs c5 HNG HK k0 HW4 HB4
    generalize w5 = wm at *
    generalize w4.heap.size = q at *
    obtain ⟨k0, k1, k2⟩ := HCELL.out _ HM.out.cz
    go_wp2_with fail
    clear k0 k1 k2
    go_loopw [61] (fun v wr => ∃ (k : Nat) (L : List Nd), k ≤ nl ∧ v = .int .i64 k ∧ Mk w4 wr z p q (.slice ca cl cc) cs k L) (fun v _ => nl - (Go.RowKit.intOf v).toNat)
    case atStart => exact ⟨0, [], Nat.zero_le _, rfl, HM.out⟩
    case round =>
      clear HM
      obtain ⟨k, L, hk, rfl, hmk⟩ := hrel
      rcases Nat.eq_or_lt_of_le hk with hke | hlt
      · have hke2 := hke.symm
        subst hke2
        clear hke hk
        have q1 : decide ((nl : Int) < nl) = false := by simp
        have HM := hide hmk
        clear hmk
        obtain ⟨-, -, k2⟩ := HCELL.out _ HM.out.cz
        go_wp2_with fail
        clear k2 q1
        go_loopw [99] (fun v wr => ∃ (k : Nat) (L : List Nd), k ≤ rl ∧ v = .int .i64 k ∧ Mk w4 wr z p q (.slice ca cl cc) cs nl L) (fun v _ => rl - (Go.RowKit.intOf v).toNat)
        case atStart => exact ⟨0, L, Nat.zero_le _, rfl, HM.out⟩
        case round =>
          clear HM L
          obtain ⟨k, L, hk, rfl, hmk⟩ := hrel
          have HFIN := hide (show ∀ wx, Mk w4 wx z p q (.slice ca cl cc) cs nl L → w.heap.size ≤ z ∧ Grow w wx from fun wx hm => ⟨by have := HBZ.out; omega, HG4.out.step hm.cz fun i hi h => by have := HBZ.out; have := h; omega⟩)
          rcases Nat.eq_or_lt_of_le hk with hke | hlt
          · have hke2 := hke.symm
            subst hke2
            clear hke hk
            have q1 : decide ((rl : Int) < rl) = false := by simp
            have HM := hide hmk
            clear hmk
            go_wp2
            go_returns
            exact ⟨z, p, q, L, rfl, HM.out.bo, HM.out.ids, HM.out.rv, (HFIN.out _ HM.out).1, (HFIN.out _ HM.out).2⟩
          · have q1 : decide ((k : Int) < rl) = true := decide_eq_true (by omega)
            obtain ⟨-, k1, k2⟩ := HCELL.out _ hmk.cz
            have HK := hide hlt
            have hw : IntKind.i64.wrap ((k : Int) + 1) = ((k + 1 : Nat) : Int) := (IntWalk.i64_in _ (by have := HL.out; omega)).trans (by omega)
            by_cases hn0 : nl = 0
            · as_aux_lemma =>
              have q2 : ((nl : Int) == 0) = true := by simp; omega
              have HM := hide hmk
              clear hmk hn0 hlt hk hw
              go_wp2
              go_returns
              exact ⟨z, p, q, L, rfl, HM.out.bo, HM.out.ids, HM.out.rv, (HFIN.out _ HM.out).1, (HFIN.out _ HM.out).2⟩
            · as_aux_lemma =>
              have q2 : ((nl : Int) == 0) = false := by simp; omega
              have hwo := HWW.out _ hmk.cz
              obtain ⟨tb', to', t, hra, -, ⟨ha, hb, hc⟩, x0, x1, x2⟩ := hwo.r.at_ hlt
              dsimp only at hra
              obtain ⟨ta, tbb, tc⟩ := t
              dsimp only at ha hb hc x0 x1 x2
              obtain ⟨aa, haa, hal⟩ := rem_is ta nl (by omega)
              obtain ⟨tt, htt, htl⟩ := rem_is tc (nl + 1) (by omega)
              obtain ⟨N1, hN1⟩ : ∃ N1 : Int, ((nl + 1 : Nat) : Int) = N1 := ⟨_, rfl⟩
              rw [hN1] at htt
              have p0 : N1 ≠ 0 := by omega
              have hlen : L.length = nl := by have := congrArg List.length hmk.ids; rwa [List.length_map, nms_len] at this
              obtain ⟨x, hx, hxi⟩ := nms_at hmk.ids hal
              obtain ⟨S, T, hg, hr, hd⟩ := hmk.bo
              have HLOK := hide hg.lok
              obtain ⟨v, r, d, ow, hrf⟩ := hr
              obtain ⟨gn, vc, rfl, -, -, -, -, -, y2, -⟩ := hrf.at_ hx
              have y1 := hrf.cell1
              rw [hlen] at y1
              have hr : RG wr z T q (.slice ca cl cc) L := ⟨_, _, _, _, hrf⟩
              obtain ⟨M, hM⟩ : ∃ M, x.refs.length = M := ⟨_, rfl⟩
              rw [hM] at y2
              have hM30 : M ≤ 30 := by rw [← hM]; exact (hg.ok (List.mem_of_getElem? hx)).rl
              generalize r x.id = rb at *
              have HAT := hide (⟨hal, htl, ha, hb, hc, hM30, hlen, hN1⟩ : aa < nl ∧ tt < nl + 1 ∧ (0 ≤ ta ∧ ta ≤ 255) ∧ (0 ≤ tbb ∧ tbb ≤ 255) ∧ (0 ≤ tc ∧ tc ≤ 255) ∧ M ≤ 30 ∧ L.length = nl ∧ ((nl + 1 : Nat) : Int) = N1)
              have hll : L.length < 1000000 := by rw [hlen]; have := HL.out; omega
              have HM := hide hmk
              have HD := hide hd
              have HG := hide hg
              have HR := hide hr
              have HY := hide (And.intro y1 y2)
              have HWA := hide (wr_small aa (by have := HL.out; omega))
              have HP8 := hide (show aa < nl from hal)
              have p3 : (0 : Int) ≤ ta := ha.1
              have p4 : (0 : Int) ≤ tc := hc.1
              have p5 : (nl : Int) ≠ 0 := by omega
              have p7 : k < rl := hlt
              obtain ⟨A, hA⟩ : ∃ A : Int, (aa : Int) + 1 = A := ⟨_, rfl⟩
              have HAI := hide (show In64 A from (show (Lit.int .i64 _).wf = true by simp [Lit.wf, IntKind.min, IntKind.max, IntKind.signed, IntKind.bits]; have := HL.out; omega))
              have HTI := hide (show In64 (tt : Int) from (show (Lit.int .i64 _).wf = true by simp [Lit.wf, IntKind.min, IntKind.max, IntKind.signed, IntKind.bits]; have := HL.out; omega))
              have HTB := hide (tri_b tbb M hb)
              obtain ⟨p1, p1', p2, p2', p6, p6'⟩ := tri_facts ta tc nl ha hc (by have := HL.out; omega)
              rw [hN1] at p6 p6'
              have HX1 := hide x1
              have HPA := hide (show wrap64 (1 + (aa : Int)) = A ∧ IntKind.i64.wrap (A - 1) = aa ∧ aa < nl from by
                obtain ⟨-, -, e1, e2, -⟩ := HWA.out
                rw [hA] at e1 e2
                exact ⟨e1, e2, HP8.out⟩)
              subst hra
              clear hmk hwo hlt hk hd hg hr hrf hlen hN1 hM30 hx hxi hM hal htl ha hb hc y1 y2 hn0 HP8 HWA hA x1
              go_wp2_with fail
              go_quiet (fail)
              rw [HPA.out.1, htt]
              have gq : Grow wr (wr.drewN nq) := (Chg.refl (fun _ => False) wr).drewN nq
              have y1 := gq.cell HY.out.1
              have y2 := gq.cell HY.out.2
              have x1 := gq.cell HX1.out
              have k2 := gq.cell k2
              have HGQ := hide gq
              generalize wr.drewN nq = wq at *
              obtain ⟨-, p8, p9⟩ := HPA.out
              clear p1 p1' p2 p2' p3 p4 p5 p6 p6' p0 haa htt x0 x2 k1 HPA q1 q2 HX1 HY gq
              by_cases hM0 : M = 0
              · have q3 : decide ((M : Int) > 0) = false := by simp; omega
                have q4 : ¬ 0 < M := by omega
                have q5 : decide (0 < M) = false := decide_eq_false q4
                have HM2 := hide (HM.out.grow HGQ.out)
                clear hM0 k2 x1
                go_wp2
                go_roundw
                case rel => exact ⟨k + 1, L, HK.out, rfl, HM2.out⟩
                case measure => have := HK.out; simp [Go.RowKit.intOf]; omega
              · have q3 : decide ((M : Int) > 0) = true := by simp; omega
                obtain ⟨bb, hbb, hbl⟩ := rem_is tbb M (by omega)
                have HBI := hide (show In64 (bb : Int) from (show (Lit.int .i64 _).wf = true by simp [Lit.wf, IntKind.min, IntKind.max, IntKind.signed, IntKind.bits]; have := HAT.out.2.2.2.2.2.1; omega))
                obtain ⟨r1, r2, r3⟩ := HTB.out
                have r4 : (M : Int) ≠ 0 := by omega
                have r5 : 0 < M := by omega
                have HS1 := hide (setref_gs (HG.out.grow HGQ.out) HAI.out HBI.out HTI.out)
                have HS2 := hide (fun (W' : World) (c' : Chg S wq W') => setref_r (i := A) (t0 := (bb : Int)) (t := (tt : Int)) ((HR.out.grow HGQ.out).chg c' fun j hj hs => HD.out j hs hj) HLOK.out hll)
                have HIDS := hide (srL_ids L A bb tt)
                have HRV := hide (rv_set HM.out.rv A bb tt (by omega) (by have := HAT.out.2.1; have := HAT.out.2.2.2.2.2.2.1; omega))
                generalize srX L A bb tt = X at *
                generalize srL L A bb tt = L2 at *
                clear hM0 hbl
                go_wp2_with fail
                refine HS1.out.mono ?_
                rintro e w3 ⟨rfl, c3, h3⟩
                have HA2 := hide (HS2.out w3 c3)
                have H3 := hide (And.intro c3 h3)
                clear c3 h3 HS1 HS2 y1 y2 x1 k2 p8 p9 r1 r2 r3 r4 r5 q3
                go_wp2_with fail
                refine HA2.out.mono ?_
                rintro e w5 ⟨rfl, c5, h5⟩
                obtain ⟨c3, h3⟩ := H3.out
                obtain ⟨hb2, hc2⟩ := Bo.two (HG.out.grow HGQ.out) (HR.out.grow HGQ.out) HD.out c3 h3 (fun j hj => .inl hj) c5 h5 (fun j hj => .inl hj)
                have HM2 := hide (⟨hb2, HIDS.out.trans HM.out.ids, (HM.out.cz.step HGQ.out fun _ _ h => h.elim).trans hc2, HRV.out⟩ : Mk w4 w5 z p q (.slice ca cl cc) cs nl L2)
                clear hb2 hc2 h5 h3 c3 c5 HA2 H3 hbb
                go_wp2
                go_roundw
                case rel => exact ⟨k + 1, L2, HK.out, rfl, HM2.out⟩
                case measure => have := HK.out; simp [Go.RowKit.intOf]; omega
      · have q1 : decide ((k : Int) < nl) = true := decide_eq_true (by omega)
        obtain ⟨k0, k1, -⟩ := HCELL.out _ hmk.cz
        have hwo := HWW.out _ hmk.cz
        obtain ⟨xa, hxa, hcx, hwf⟩ := hwo.n.at_ hlt
        dsimp only at hxa
        have hbd := bounds_u8 hwf
        generalize ns.getD k 0 = t at *
        obtain ⟨kk, hkk, hkl⟩ : ∃ kk : Nat, t % (cl : Int) = kk ∧ kk < cl := ⟨(t % (cl : Int)).toNat, by have := Int.emod_nonneg t (show (cl : Int) ≠ 0 by have := HL.out; omega); omega, by have := Int.emod_lt_of_pos t (show (0 : Int) < cl by have := HL.out; omega); have := Int.emod_nonneg t (show (cl : Int) ≠ 0 by have := HL.out; omega); omega⟩
        obtain ⟨cb, co, c, hca, hcc, hat, -⟩ := hwo.c.at_ hkl
        dsimp only at hca
        have hc0 := hat.1
        have hcl : clAt cs ((kk : Int) + 1) = some c := L5.clAt_at hcc
        obtain ⟨S, T, hg, hr, hd⟩ := hmk.bo
        have hll : L.length < 1000000 := by have := congrArg List.length hmk.ids; rw [List.length_map, nms_len] at this; have := HL.out; omega
        have hki : In64 ((k : Int) + 1) := (show (Lit.int .i64 _).wf = true by simp [Lit.wf, IntKind.min, IntKind.max, IntKind.signed, IntKind.bits]; have := HL.out; omega)
        have HS1 := hide (fun (W : World) (g : Grow wr W) (l : Int) => add_gs (hg.grow g) hll hki ((kk : Int) + 1) l)
        have HS2 := hide (fun (W W' : World) (g : Grow wr W) (c' : Chg S W W') (l : Int) => add_r ((hr.grow g).chg c' fun j hj hs => hd j hs hj) (HWW.out W' ((hmk.cz.step g fun _ _ h => h.elim).step c' fun j _ hs => (hg.s hs).1)).c hg.lok HRT.out.1 hll (by have := HL.out; omega) ((k : Int) + 1) ((kk : Int) + 1) l)
        have HMK := hide hmk
        have HK := hide hlt
        have hw0 : IntKind.i64.wrap ((k : Int) + 1) = ((k : Int) + 1) := IntWalk.i64_in _ (by have := HL.out; omega)
        have hw : IntKind.i64.wrap ((k : Int) + 1) = ((k + 1 : Nat) : Int) := (IntWalk.i64_in _ (by have := HL.out; omega)).trans (by omega)
        have hk64 : kk < 64 := by have := HL.out; omega
        have HP8 := hide (show decide ((kk : Int) < (cl : Int)) = true from decide_eq_true (by omega))
        have p1 : IntKind.i64.wrap t = t := IntWalk.i64_in _ (by omega)
        have p2 : ((cl : Int)) ≠ 0 := by have := HL.out; omega
        have p3 : (0 : Int) ≤ t := hbd.1
        have p4 : k < nl := hlt
        have p5 : wrap64 t = t := wrap64_id _ (by omega)
        subst hxa hca
        clear hmk hwo hat hcc hlt hk hwf hbd hki hll
        obtain ⟨K, hK⟩ : ∃ K : Int, (kk : Int) + 1 = K := ⟨_, rfl⟩
        obtain ⟨-, -, p6, p7, -⟩ := wr_small kk hk64
        rw [hK] at p6 p7 hcl HS1 HS2
        have HPP := hide (And.intro p6 (And.intro p7 HP8.out))
        clear hk64 hK p6 p7 HP8
        have HCL := hide hcl
        have HD := hide hd
        clear hcl hd
        by_cases h2 : c.k = 2
        · as_aux_lemma =>
          have HP9 := hide (show (c.k == 2) = true by simpa using h2)
          have HNX := hide (add_next (k := k) (l := 2) HMK.out.ids HCL.out (.inr ⟨rfl, h2⟩))
          clear h2
          generalize c.k = ck at *
          go_wp2_with fail
          go_quiet (fail)
          rw [HPP.out.1]
          clear hcx p1 p2 p3 p4 p5 q1
          obtain ⟨-, p7, p8⟩ := HPP.out
          have gq : Grow wr (wr.drewN nq) := (Chg.refl (fun _ => False) wr).drewN nq
          replace k0 := gq.cell k0
          replace hc0 := gq.cell hc0
          generalize wr.drewN nq = wq at *
          have p9 := HP9.out
          go_wp2_with fail
          refine (HS1.out _ gq 2).mono ?_
          rintro e w3 ⟨rfl, c3, S3, h3, s3⟩
          rw [HNX.out.1]
          have HA2 := hide (HS2.out _ w3 gq c3 2)
          have H3 := hide (And.intro c3 (And.intro h3 s3))
          clear c3 h3 s3 HS1 HS2 hc0 k0 k1 p7 p8 p9
          go_wp2_with fail
          refine HA2.out.mono ?_
          rintro e w5 ⟨rfl, c5, T5, h5, t5⟩
          rw [HNX.out.1]
          obtain ⟨L2, hL2⟩ : ∃ L2, adL cs L ((k : Int) + 1) K 2 = L2 := ⟨_, rfl⟩
          have hids := HNX.out.2
          rw [hL2] at hids h5
          obtain ⟨c3, h3, s3⟩ := H3.out
          rw [hL2] at h3
          obtain ⟨hb2, hc2⟩ := Bo.two (hg.grow gq) (hr.grow gq) HD.out c3 h3 s3 c5 h5 t5
          have HM2 := hide (⟨hb2, hids, (HMK.out.cz.step gq fun _ _ h => h.elim).trans hc2, hL2 ▸ rv_add HMK.out.rv _ _ _⟩ : Mk w4 w5 z p q (.slice (some ⟨cb, co, none⟩) cl cc) cs (k + 1) L2)
          clear hb2 hc2 hids h5 h3 c3 s3 c5 t5 hL2 hg hr HMK HA2 H3 HNX
          go_wp2
          go_roundw
          case rel => exact ⟨k + 1, L2, HK.out, rfl, HM2.out⟩
          case measure => have := HK.out; simp [Go.RowKit.intOf]; omega
        · as_aux_lemma =>
          have HP9 := hide (show (c.k == 2) = false by simpa using h2)
          have HNX := hide (add_next (k := k) (l := 0) HMK.out.ids HCL.out (.inl rfl))
          clear h2
          generalize c.k = ck at *
          go_wp2_with fail
          go_quiet (fail)
          rw [HPP.out.1]
          clear hcx p1 p2 p3 p4 p5 q1
          obtain ⟨-, p7, p8⟩ := HPP.out
          have gq : Grow wr (wr.drewN nq) := (Chg.refl (fun _ => False) wr).drewN nq
          replace k0 := gq.cell k0
          replace hc0 := gq.cell hc0
          generalize wr.drewN nq = wq at *
          have p9 := HP9.out
          go_wp2_with fail
          refine (HS1.out _ gq 0).mono ?_
          rintro e w3 ⟨rfl, c3, S3, h3, s3⟩
          rw [HNX.out.1]
          have HA2 := hide (HS2.out _ w3 gq c3 0)
          have H3 := hide (And.intro c3 (And.intro h3 s3))
          clear c3 h3 s3 HS1 HS2 hc0 k0 k1 p7 p8 p9
          go_wp2_with fail
          refine HA2.out.mono ?_
          rintro e w5 ⟨rfl, c5, T5, h5, t5⟩
          rw [HNX.out.1]
          obtain ⟨L2, hL2⟩ : ∃ L2, adL cs L ((k : Int) + 1) K 0 = L2 := ⟨_, rfl⟩
          have hids := HNX.out.2
          rw [hL2] at hids h5
          obtain ⟨c3, h3, s3⟩ := H3.out
          rw [hL2] at h3
          obtain ⟨hb2, hc2⟩ := Bo.two (hg.grow gq) (hr.grow gq) HD.out c3 h3 s3 c5 h5 t5
          have HM2 := hide (⟨hb2, hids, (HMK.out.cz.step gq fun _ _ h => h.elim).trans hc2, hL2 ▸ rv_add HMK.out.rv _ _ _⟩ : Mk w4 w5 z p q (.slice (some ⟨cb, co, none⟩) cl cc) cs (k + 1) L2)
          clear hb2 hc2 hids h5 h3 c3 s3 c5 t5 hL2 hg hr HMK HA2 H3 HNX
          go_wp2
          go_roundw
          case rel => exact ⟨k + 1, L2, HK.out, rfl, HM2.out⟩
          case measure => have := HK.out; simp [Go.RowKit.intOf]; omega
end
end Go.Proofs.Ytjofdamobnemcaa.L10

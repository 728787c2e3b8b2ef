/- Graphs as they come in; the graphs that the laws make of them. Conditions: as each part says. -/
import Derived.Test.YtjfpjnhlnoiekaaGreatOpen
import Derived.Test.YtjfpjnhlnoiekaaGreatL5A
import Derived.OpenShut
import Derived.Test.YtjfpjnhlnoiekaaGreatL9D
import Derived.Test.YtjfpjnhlnoiekaaGreatL9B
import Derived.Deep.RegionHeld3
import Derived.Deep.LoopGhost
/- Graphs as they come in: classes, the classes' numbers, references, each of three small numbers. Conditions: none. -/
namespace Go.Proofs.YtjfpjnhlnoiekaaGreat.L10
open Go.ChangeShapes Go.WideShapes Go.ChangeAt Go.RowKit Go.Deep
open Go.Proofs.YtjfpjnhlnoiekaaGreat.L5 (Cl IsCls)
set_option linter.unusedVariables false

structure Tr where
  a : Int
  b : Int
  c : Int
def Tr.cells (t : Tr) : List Value := [.int .u8 t.a, .int .u8 t.b, .int .u8 t.c]
def Tr.Ok (t : Tr) : Prop := (0 ≤ t.a ∧ t.a ≤ 255) ∧ (0 ≤ t.b ∧ t.b ≤ 255) ∧ (0 ≤ t.c ∧ t.c ≤ 255)
/-- A list of threes that came in. -/
def IsTri (w : World) (a : Option Addr) (len cap : Nat) (l : List Tr) : Prop :=
  l.length = len ∧ len ≤ cap ∧ cap ≤ maxLen ∧ (0 < len → ∃ b off, a = some ⟨b, off, none⟩ ∧ ∀ i t, l[i]? = some t → ∀ j c, t.cells[j]? = some c → w.cell? ⟨b, off + i * 3 + j, none⟩ = some c) ∧ ∀ t ∈ l, t.Ok
section
variable {w w' : World} {a : Option Addr} {len cap : Nat} {l : List Tr} {S : Nat → Prop}
theorem IsTri.chg (h : IsTri w a len cap l) (c : Chg S w w') (hs : ∀ i, i < w.heap.size → ¬ S i) : IsTri w' a len cap l := by
  obtain ⟨h1, h2, h3, h4, h5⟩ := h
  refine ⟨h1, h2, h3, fun hl => ?_, h5⟩
  obtain ⟨b, off, rfl, hx⟩ := h4 hl
  exact ⟨b, off, rfl, fun i t hi j u hu => c.cell (hx i t hi j u hu) (hs _ (cell_lt (hx i t hi j u hu)))⟩
theorem IsTri.at_ (h : IsTri w a len cap l) {i : Nat} (hi : i < len) : ∃ b off, ∃ t : Tr, a = some ⟨b, off, none⟩ ∧ l[i]? = some t ∧ t.Ok ∧
    w.cell? ⟨b, off + i * 3, none⟩ = some (.int .u8 t.a) ∧ w.cell? ⟨b, off + i * 3 + 1, none⟩ = some (.int .u8 t.b) ∧ w.cell? ⟨b, off + i * 3 + 2, none⟩ = some (.int .u8 t.c) := by
  obtain ⟨h1, h2, h3, h4, h5⟩ := h
  obtain ⟨b, off, rfl, hx⟩ := h4 (by omega)
  have hil : i < l.length := by omega
  have hg := hx i l[i] (List.getElem?_eq_getElem hil)
  exact ⟨b, off, l[i], rfl, List.getElem?_eq_getElem hil, h5 _ (List.getElem_mem hil), hg 0 _ rfl, hg 1 _ rfl, hg 2 _ rfl⟩
end
section
variable {H : Type} {enc : TypeId × Value → H} {P : Program} {w : World} {base : Nat} {held : Bool}
theorem tri_of {n : Nat} {cs : List Value} {x : DataW H × List MemPlace} (h : DataW.trod enc Tryz.prog w base (fun _ => true) held n 64 cs = some x) : ∃ t : Tr, cs = t.cells ∧ t.Ok := by
  obtain ⟨xs, m, _, _, hl, hxl, hi⟩ := DataW.trod_array Tryz.underlying64 h
  have hC : Tryz.prog.cellsOf 64 = 3 := by kernel_rfl
  have hE : Tryz.prog.cellsOf 5 = 1 := by kernel_rfl
  rw [hC] at hl
  rw [hE] at hi
  match cs, hl with
  | [c0, c1, c2], _ =>
    have h0 := hi 0 (by omega)
    have h1 := hi 1 (by omega)
    have h2 := hi 2 (by omega)
    rw [List.getElem?_eq_getElem (by omega)] at h0 h1 h2
    obtain ⟨x0, e0, _, w0⟩ := DataW.trod_int Tryz.underlying5 h0
    obtain ⟨x1, e1, _, w1⟩ := DataW.trod_int Tryz.underlying5 h1
    obtain ⟨x2, e2, _, w2⟩ := DataW.trod_int Tryz.underlying5 h2
    simp at e0 e1 e2
    subst e0 e1 e2
    exact ⟨⟨x0, x1, x2⟩, rfl, bounds_u8 w0, bounds_u8 w1, bounds_u8 w2⟩
theorem open_tri {a : Option Addr} {len cap : Nat} {d : DataW H} {p : List MemPlace} (h : DataW.Trod enc Tryz.prog w base (fun _ => true) held 24 (.slice a len cap) d p) : ∃ l, IsTri w a len cap l := by
  obtain ⟨fuel, hf⟩ := h
  have hC : Tryz.prog.cellsOf 64 = 3 := by kernel_rfl
  rcases open_slice Tryz.underlying24 hf with ⟨h0, _⟩ | ⟨x, l, c, m, n, D, Pl, hcs, _, hl, hm, hmm, _, hi⟩
  · simp [Value.cells] at h0
    obtain ⟨rfl, rfl, rfl⟩ := h0
    exact ⟨[], rfl, Nat.le_refl _, by simp [maxLen], fun h => absurd h (by omega), fun t ht => by cases ht⟩
  · simp [Value.cells] at hcs
    obtain ⟨rfl, rfl, rfl⟩ := hcs
    have hm' : m = cap := by simpa using hmm
    subst hm'
    have hq1 : ∀ i, i < len → ∃ t : Tr, w.cells? base (x.add (i * 3)) 3 = some t.cells ∧ t.Ok := fun i him => by
      obtain ⟨cs, h1, h2⟩ := hi i (by omega)
      rw [hC] at h1
      obtain ⟨t, ht, hok⟩ := tri_of h2
      exact ⟨t, by rw [← ht]; exact h1, hok⟩
    obtain ⟨ts, hol, hq⟩ := list_of (fun i (t : Tr) => w.cells? base (x.add (i * 3)) 3 = some t.cells ∧ t.Ok) ⟨0, 0, 0⟩ len hq1
    have hcell : ∀ i t, ts[i]? = some t → ∀ j c, t.cells[j]? = some c → w.cell? (x.add (i * 3 + j)) = some c := by
      intro i t hit j c hj
      have him : i < len := by rw [← hol]; exact (List.getElem?_eq_some_iff.1 hit).1
      obtain ⟨hc, _⟩ := hq i him
      rw [List.getD_eq_getElem?_getD, hit] at hc
      obtain ⟨_, hcl, hat⟩ := World.cells?_some hc
      have hjl : j < 3 := by have := (List.getElem?_eq_some_iff.1 hj).1; simpa [Tr.cells] using this
      rw [← add_add, hat j hjl]
      exact hj
    refine ⟨ts, hol, hl, hm, fun h0 => ?_, fun t ht => ?_⟩
    · obtain ⟨bb, off, spot⟩ := x
      have h00 := hcell 0 ts[0] (List.getElem?_eq_getElem (by omega)) 0 _ rfl
      have hspot : spot = none := by simpa [Addr.add] using World.cell?_spot h00
      subst hspot
      exact ⟨bb, off, rfl, fun i t hit j c hj => by have := hcell i t hit j c hj; rwa [addr_add, ← Nat.add_assoc] at this⟩
    · obtain ⟨i, hi', rfl⟩ := List.getElem_of_mem ht
      have := (hq i (by omega)).2
      rwa [List.getD_eq_getElem?_getD, List.getElem?_eq_getElem hi'] at this
/-- As open_recs, of a list whose form is known. -/
theorem open_recsF {t e : TypeId} {fs : Array Field} {a : Option Addr} {len cap : Nat} {d : DataW H} {p : List MemPlace}
    (ks : List (Option IntKind)) (ht : P.underlying t = some (.slice e)) (he : P.underlying e = some (.struct fs)) (hone : oneCellFields P fs = true) (hC : P.cellsOf e = fs.size) (hks : kindsOf P fs.toList = some ks) (hpos : 0 < fs.size)
    (h : DataW.Trod enc P w base (fun _ => true) held t (.slice a len cap) d p) : ∃ rows, IsRecs ks w a len cap rows := by
  obtain ⟨fuel, hf⟩ := h
  have hkl : ks.length = fs.size := by simpa using kinds_length _ _ hks
  rcases open_slice ht hf with ⟨h0, _⟩ | ⟨x, l, c, m, n, D, Pl, hcs, _, hl, hm, hmm, _, hi⟩
  · simp [Value.cells] at h0
    obtain ⟨rfl, rfl, rfl⟩ := h0
    exact ⟨[], rfl, Nat.le_refl _, by simp [maxLen], fun h => absurd h (by omega), fun i hi => absurd hi (by omega)⟩
  · simp [Value.cells] at hcs
    obtain ⟨rfl, rfl, rfl⟩ := hcs
    have hm' : m = cap := by simpa using hmm
    subst hm'
    obtain ⟨rows, hrl, hq⟩ := list_of (fun i cs => w.cells? base (x.add (i * P.cellsOf e)) (P.cellsOf e) = some cs ∧ DataW.trod enc P w base (fun _ => true) held n e cs = some (D i, Pl i)) [] len (fun i him => hi i (by omega))
    have hcell : ∀ i, i < len → ∀ j c, (rows.getD i [])[j]? = some c → w.cell? (x.add (i * ks.length + j)) = some c := by
      intro i him j c hj
      obtain ⟨hc, _⟩ := hq i him
      obtain ⟨_, hcl, hat⟩ := World.cells?_some hc
      have hjl : j < P.cellsOf e := by have := (List.getElem?_eq_some_iff.1 hj).1; omega
      rw [← add_add, hkl, ← hC, hat j hjl, hj]
    refine ⟨rows, hrl, hl, hm, fun h0 => ?_, fun i him => ?_⟩
    · obtain ⟨hc, _⟩ := hq 0 h0
      obtain ⟨_, hcl, hat⟩ := World.cells?_some hc
      obtain ⟨bb, off, spot⟩ := x
      have h00 := hcell 0 h0 0 _ (List.getElem?_eq_getElem (by omega))
      have hspot : spot = none := by simpa [Addr.add] using World.cell?_spot h00
      subst hspot
      exact ⟨bb, off, rfl, fun i him j c hj => by have := hcell i him j c hj; rwa [addr_add, ← Nat.add_assoc] at this⟩
    · obtain ⟨hc, ht'⟩ := hq i him
      obtain ⟨hl', hg⟩ := struct_cells he hone hC ht'
      exact fits_of fs.toList ks _ hks (by simpa using hl') (fun j f hj => hg j f (by simpa using hj))
theorem open_clF {a : Option Addr} {len cap : Nat} {d : DataW H} {p : List MemPlace} (h : DataW.Trod enc Tryz.prog w base (fun _ => true) held 22 (.slice a len cap) d p) : ∃ cs, IsCls w a len cap cs := by
  obtain ⟨rows, hr⟩ := open_recsF [some .i64, some .i64, some .i64, none] Tryz.underlying22 Tryz.underlying61 (by kernel_rfl) (by kernel_rfl) (by kernel_rfl) (by decide) h
  exact hr.cls
/-- A world that came in. -/
structure Wo where
  ca : Option Addr
  cl : Nat
  cc : Nat
  na : Option Addr
  nl : Nat
  nc : Nat
  ra : Option Addr
  rl : Nat
  rc : Nat
abbrev Wo.v (u : Wo) : Value := .agg #[.slice u.ca u.cl u.cc, .slice u.na u.nl u.nc, .slice u.ra u.rl u.rc]
structure IsWo (w : World) (u : Wo) (cs : List Cl) (ns : List Int) (ts : List Tr) : Prop where
  c : IsCls w u.ca u.cl u.cc cs
  n : IsRow .u8 w u.na u.nl u.nc ns
  r : IsTri w u.ra u.rl u.rc ts
theorem IsWo.chg {w w' : World} {u : Wo} {cs : List Cl} {ns : List Int} {ts : List Tr} {S : Nat → Prop} (h : IsWo w u cs ns ts) (c : Chg S w w') (hs : ∀ i, i < w.heap.size → ¬ S i) : IsWo w' u cs ns ts :=
  ⟨h.c.chg c hs, h.n.chg c hs, h.r.chg c hs⟩
theorem sl_form {fuel : Nat} {t e : TypeId} {c : Value} {x : DataW H × List MemPlace} (ht : P.underlying t = some (.slice e)) (h : DataW.trod enc P w base (fun _ => true) held fuel t [c] = some x) : ∃ a l k, c = .slice a l k := by
  rcases open_slice ht h with ⟨h0, _⟩ | ⟨x, l, c, m, n, D, Pl, hcs, _⟩
  · simp at h0
    exact ⟨_, _, _, h0⟩
  · simp at hcs
    exact ⟨_, _, _, hcs⟩
end
end Go.Proofs.YtjfpjnhlnoiekaaGreat.L10
/- The graphs that the laws make of a world: the program's and the plain one, both alike. Conditions: none. -/
namespace Go.Proofs.YtjfpjnhlnoiekaaGreat.L10
open Go.ChangeShapes Go.WideShapes Go.ChangeAt Go.RowKit
open Go.Proofs.YtjfpjnhlnoiekaaGreat.L9 (Nd nd GS RG Rf Lok In64 Srt nd_some nd_none nd_mem nd_at own_rd ptr Bo Tz new_tz new_gr add_gs add_r setref_gs setref_r adX adL srX srL newNd ins newX_rt)
open Go.Proofs.YtjfpjnhlnoiekaaGreat.L5 (Cl clAt isRf IsCls newX shX shR shD)
set_option linter.unusedVariables false
theorem rg_new {w : World} {q : Nat} {cv : Value} {z : Nat} (h : Blk w q 43 [cv, .slice none 0 0]) (hz : z ≤ q) : RG w z (· = q) q cv [] :=
  ⟨.slice none 0 0, fun _ => 0, fun _ => 0, fun _ => 0, h, World.ownsRow_nil _ _ _ _, (fun k hk => by cases hk), rfl, rfl, (fun k hk => by subst hk; exact ⟨hz, h.lt⟩), (fun x hx => by cases hx)⟩
/-- The names from 1 on. -/
def nms (k : Nat) : List Int := (List.range k).map fun j : Nat => (j : Int) + 1
theorem nms_succ (k : Nat) : nms (k + 1) = nms k ++ [(k : Int) + 1] := by simp [nms, List.range_succ]
theorem nms_len (k : Nat) : (nms k).length = k := by simp [nms]
section
variable {cs : List Cl} {L : List Nd} {k : Nat} {c : Cl} {K l : Int}
theorem nms_no (h : L.map Nd.id = nms k) : nd L ((k : Int) + 1) = none := by
  cases hn : nd L ((k : Int) + 1) with
  | none => rfl
  | some x =>
    obtain ⟨h1, h2⟩ := nd_some hn
    have : x.id ∈ nms k := by rw [← h]; exact List.mem_map_of_mem h1
    unfold nms at this
    obtain ⟨j, hj, e⟩ := List.mem_map.1 this
    have := List.mem_range.1 hj
    omega
theorem ins_last {x : Nd} (h : ∀ y ∈ L, y.id < x.id) : ins L x = L ++ [x] := by
  unfold ins
  have h1 : L.takeWhile (fun y => decide (y.id < x.id)) = L := by
    induction L with
    | nil => rfl
    | cons a l ih =>
      rw [List.takeWhile_cons, if_pos (by simpa using h a List.mem_cons_self), ih fun y hy => h y (List.mem_cons_of_mem _ hy)]
  have h2 : L.dropWhile (fun y => decide (y.id < x.id)) = [] := by
    induction L with
    | nil => rfl
    | cons a l ih =>
      rw [List.dropWhile_cons, if_pos (by simpa using h a List.mem_cons_self)]
      exact ih (fun y hy => h y (List.mem_cons_of_mem _ hy)) (by
        rw [List.takeWhile_cons, if_pos (by simpa using h a List.mem_cons_self)] at h1
        injection h1)
  rw [h1, h2]
theorem nms_lt (h : L.map Nd.id = nms k) : ∀ y ∈ L, y.id < (k : Int) + 1 := by
  intro y hy
  have : y.id ∈ nms k := by rw [← h]; exact List.mem_map_of_mem hy
  unfold nms at this
  obtain ⟨j, hj, e⟩ := List.mem_map.1 this
  have := List.mem_range.1 hj
  omega
/-- A node more. -/
theorem add_next (h : L.map Nd.id = nms k) (hc : clAt cs K = some c) (hl : l = 0 ∨ (l = 2 ∧ c.k = 2)) : adX cs L ((k : Int) + 1) K l = 0 ∧ (adL cs L ((k : Int) + 1) K l).map Nd.id = nms (k + 1) := by
  have hs : shX (clAt cs K) l = 0 := by
    rw [hc]
    unfold shX
    rcases hl with rfl | ⟨rfl, h2⟩
    · rfl
    · simp [h2]
  have hX : adX cs L ((k : Int) + 1) K l = 0 := by
    unfold adX
    rw [if_neg (by rw [hs]; simp), if_neg]
    rintro (h1 | h1)
    · omega
    · exact h1 (nms_no h)
  refine ⟨hX, ?_⟩
  unfold adL
  rw [if_pos hX, ins_last (fun y hy => nms_lt h y hy), List.map_append, h, nms_succ]
  rfl
theorem nms_at (h : L.map Nd.id = nms k) {j : Nat} (hj : j < k) : ∃ x, L[j]? = some x ∧ x.id = (j : Int) + 1 := by
  have hl : L.length = k := by have := congrArg List.length h; simpa [nms_len] using this
  have hjl : j < L.length := by omega
  refine ⟨L[j], List.getElem?_eq_getElem hjl, ?_⟩
  have : (L.map Nd.id)[j]? = (nms k)[j]? := by rw [h]
  rw [List.getElem?_map, List.getElem?_eq_getElem hjl] at this
  simp [nms, hj] at this
  exact this
end
theorem wr_small (kk : Nat) (h : kk < 64) : wrap64 (kk : Int) = kk ∧ IntKind.i64.wrap (kk : Int) = kk ∧ wrap64 (1 + (kk : Int)) = (kk : Int) + 1 ∧ IntKind.i64.wrap ((kk : Int) + 1 - 1) = kk ∧ wrap64 ((kk : Int) + 1 - 1) = kk := by
  refine ⟨wrap64_id _ (by omega), IntWalk.i64_in _ (by omega), ?_, ?_, ?_⟩
  · rw [wrap64_id _ (by omega)]; omega
  · exact (IntWalk.i64_in _ (by omega)).trans (by omega)
  · rw [wrap64_id _ (by omega)]; omega
theorem rem_is (t : Int) (n : Nat) (hn : 0 < n) : ∃ kk : Nat, t % (n : Int) = kk ∧ kk < n := by
  have h1 := Int.emod_nonneg t (show (n : Int) ≠ 0 by omega)
  have h2 := Int.emod_lt_of_pos t (show (0 : Int) < n by omega)
  exact ⟨(t % (n : Int)).toNat, by omega, by omega⟩
theorem tri_facts (ta tc : Int) (nl : Nat) (h1 : 0 ≤ ta ∧ ta ≤ 255) (h2 : 0 ≤ tc ∧ tc ≤ 255) (hn : nl ≤ 40) :
    IntKind.i64.wrap ta = ta ∧ wrap64 ta = ta ∧ IntKind.i64.wrap tc = tc ∧ wrap64 tc = tc ∧ IntKind.i64.wrap ((nl : Int) + 1) = ((nl + 1 : Nat) : Int) ∧ wrap64 ((nl : Int) + 1) = ((nl + 1 : Nat) : Int) :=
  ⟨IntWalk.i64_in _ (by omega), wrap64_id _ (by omega), IntWalk.i64_in _ (by omega), wrap64_id _ (by omega), (IntWalk.i64_in _ (by omega)).trans (by omega), (wrap64_id _ (by omega)).trans (by omega)⟩
theorem tri_b (tb : Int) (M : Nat) (h1 : 0 ≤ tb ∧ tb ≤ 255) : IntKind.i64.wrap tb = tb ∧ wrap64 tb = tb ∧ 0 ≤ tb :=
  ⟨IntWalk.i64_in _ (by omega), wrap64_id _ (by omega), h1.1⟩
theorem srL_ids (L : List Nd) (i k t : Int) : (srL L i k t).map Nd.id = L.map Nd.id := by
  unfold srL
  split
  · exact L9.updN_ids _ fun _ => rfl
  · rfl
/-- What is referred to has a small name. -/
def Rv (L : List Nd) : Prop := ∀ x ∈ L, ∀ r ∈ x.refs, 0 ≤ r ∧ r ≤ L.length
theorem rv_add {cs : List Cl} {L : List Nd} (h : Rv L) (i c l : Int) : Rv (adL cs L i c l) := by
  unfold adL
  split
  · intro x hx r hr
    have hl : (ins L (newNd cs i c l)).length = L.length + 1 := L9.ins_len _ _
    rcases L9.mem_ins.1 hx with rfl | hx
    · have h0 : r ∈ zeros (shR (clAt cs c) l).toNat := hr
      unfold zeros at h0
      have h1 := List.eq_of_mem_replicate h0
      omega
    · have := h x hx r hr
      omega
  · exact h
theorem rv_set {L : List Nd} (h : Rv L) (i k t : Int) (h0 : 0 ≤ t) (h1 : t ≤ L.length) : Rv (srL L i k t) := by
  unfold srL
  split
  · intro x hx r hr
    have hl := L9.updN_len L i (fun x => { x with refs := x.refs.set k.toNat t })
    rw [hl]
    obtain ⟨y, hy, rfl⟩ := List.mem_map.1 hx
    split at hr
    · rcases List.mem_or_eq_of_mem_set hr with hr | rfl
      · exact h y hy r hr
      · exact ⟨h0, h1⟩
    · exact h y hy r hr
  · exact h
/-- What stands between two calls. -/
structure Mk (w0 w : World) (z p q : Nat) (cv : Value) (cs : List Cl) (k : Nat) (L : List Nd) : Prop where
  bo : Bo w z p q cv cs L
  ids : L.map Nd.id = nms k
  cz : Chg (fun j => z ≤ j) w0 w
  rv : Rv L
section
variable {w : World} {u : Wo} {cs : List Cl} {ns : List Int} {ts : List Tr}
/-- Is there a graph? -/
def good (u : Wo) (cs : List Cl) : Prop := (u.nl ≤ 40 ∧ u.rl ≤ 200) ∧ (u.cl ≠ 0 ∧ u.cl ≤ 63) ∧ newX cs = 0
theorem Mk.grow {w0 w w' : World} {z p q k : Nat} {cv : Value} {L : List Nd} (h : Mk w0 w z p q cv cs k L) (g : Grow w w') : Mk w0 w' z p q cv cs k L := ⟨h.bo.grow g, h.ids, h.cz.step g fun _ _ h => h.elim, h.rv⟩
end
end Go.Proofs.YtjfpjnhlnoiekaaGreat.L10

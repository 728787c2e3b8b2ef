/- The plain graph: what its memory is; At, Kind. Conditions: fewer than 1000000 nodes. -/
import Derived.Test.YtjofdamobnemcaaL9Play
import Derived.Test.YtjofdamobnemcaaL9Tn
import Derived.Test.YtjofdamobnemcaaL5Ref
import Derived.Shelf.SlIter.Collect
namespace Go.Proofs.Ytjofdamobnemcaa.L9
open Go.ChangeShapes Go.WideShapes Go.ChangeAt Go.RowKit
open Go.Proofs.Ytjofdamobnemcaa.L5 (Cl clAt IsCls newX isRf shX shR shD)
set_option linter.unusedVariables false

/-- A node's cells: its references, its numbers in blocks of their own. -/
def ndC (x : Nd) (br bd : Nat) : List Value := [.int .i64 x.id, .int .i64 x.c, .slice (some ⟨br, 0, none⟩) x.refs.length x.refs.length, .slice (some ⟨bd, 0, none⟩) x.data.length x.data.length, .bool x.fin]
def rfC (r d : Int → Nat) (L : List Nd) : List Value := L.flatMap fun x => ndC x (r x.id) (d x.id)
section
variable {r d r' d' : Int → Nat} {L M : List Nd} {x : Nd} {k j : Nat}
theorem rfC_nil : rfC r d [] = [] := rfl
theorem rfC_cons (x : Nd) (L : List Nd) : rfC r d (x :: L) = ndC x (r x.id) (d x.id) ++ rfC r d L := by simp [rfC]
theorem rfC_app (L M : List Nd) : rfC r d (L ++ M) = rfC r d L ++ rfC r d M := by simp [rfC]
theorem rfC_len (L : List Nd) : (rfC r d L).length = L.length * 5 := by
  induction L with
  | nil => rfl
  | cons a l ih => rw [rfC_cons, List.length_append, ih]; simp [ndC]; omega
theorem rfC_at (h : L[k]? = some x) (hj : j < 5) : (rfC r d L)[k * 5 + j]? = (ndC x (r x.id) (d x.id))[j]? := by
  induction L generalizing k with
  | nil => simp at h
  | cons p l ih =>
    have hp : (ndC p (r p.id) (d p.id)).length = 5 := rfl
    cases k with
    | zero =>
      simp at h
      subst h
      rw [rfC_cons, List.getElem?_append_left (by omega)]
      simp
    | succ i =>
      have := ih (k := i) (by simpa using h)
      rw [rfC_cons, List.getElem?_append_right (by omega), hp, show (i + 1) * 5 + j - 5 = i * 5 + j by omega]
      exact this
theorem rfC_one (L : List Nd) : ∀ v ∈ rfC r d L, v.oneCell' = true := by
  intro v hv
  simp only [rfC, List.mem_flatMap, ndC, List.mem_cons, List.not_mem_nil, or_false] at hv
  obtain ⟨c, _, rfl | rfl | rfl | rfl | rfl⟩ := hv <;> rfl
theorem rfC_congr (h : ∀ x ∈ L, r x.id = r' x.id ∧ d x.id = d' x.id) : rfC r d L = rfC r' d' L := by
  induction L with
  | nil => rfl
  | cons a l ih =>
    rw [rfC_cons, rfC_cons, ih fun x hx => h x (List.mem_cons_of_mem _ hx), (h a List.mem_cons_self).1, (h a List.mem_cons_self).2]
end
/-- The plain graph at block q: its list of nodes, v; the nodes' blocks, by r and d; its blocks, T; whose node a block belongs to, by ow. -/
structure Rf (w : World) (z : Nat) (T : Nat → Prop) (q : Nat) (cv v : Value) (r d : Int → Nat) (ow : Nat → Int) (L : List Nd) : Prop where
  blk : Blk w q 43 [cv, v]
  own : w.ownsRow z 45 5 v L.length (rfC r d L)
  ov : ∀ k, v.ownBlock = some k → T k ∧ ow k = 0 ∧ k ≠ q
  tq : T q
  oq : ow q = 0
  t : ∀ k, T k → z ≤ k ∧ k < w.heap.size
  nds : ∀ x ∈ L, (Blk w (r x.id) 3 (ints x.refs) ∧ Blk w (d x.id) 3 (ints x.data)) ∧ (T (r x.id) ∧ T (d x.id)) ∧ (ow (r x.id) = x.id ∧ ow (d x.id) = x.id) ∧ r x.id ≠ d x.id
def RG (w : World) (z : Nat) (T : Nat → Prop) (q : Nat) (cv : Value) (L : List Nd) : Prop := ∃ v r d ow, Rf w z T q cv v r d ow L
/-- The names rise, and all can be. -/
def Lok (cs : List Cl) (L : List Nd) : Prop := Srt L ∧ ∀ x ∈ L, x.Ok cs
section
variable {w w' : World} {z q : Nat} {T U : Nat → Prop} {cv v : Value} {r d : Int → Nat} {ow : Nat → Int} {L : List Nd} {x : Nd} {k : Nat} {i : Int} {cs : List Cl} {a : Option Addr} {len cap : Nat}
theorem GS.lok {p : Nat} {S : Nat → Prop} (h : GS w z S p cs L) : Lok cs L := ⟨h.srt, fun x hx => h.ok hx⟩
theorem Rf.chg (h : Rf w z T q cv v r d ow L) (c : Chg U w w') (hU : ∀ k, T k → ¬ U k) : Rf w' z T q cv v r d ow L :=
  ⟨h.blk.chg c (hU _ h.tq), own_chg h.own c (fun k hk => hU k (h.ov k hk).1), h.ov, h.tq, h.oq, fun k hk => ⟨(h.t k hk).1, Nat.lt_of_lt_of_le (h.t k hk).2 c.size⟩, fun x hx => by
    obtain ⟨⟨h1, h2⟩, ⟨h3, h4⟩, h5⟩ := h.nds x hx
    exact ⟨⟨h1.chg c (hU _ h3), h2.chg c (hU _ h4)⟩, ⟨h3, h4⟩, h5⟩⟩
theorem RG.chg (h : RG w z T q cv L) (c : Chg U w w') (hU : ∀ k, T k → ¬ U k) : RG w' z T q cv L := by
  obtain ⟨v, r, d, ow, h⟩ := h
  exact ⟨v, r, d, ow, h.chg c hU⟩
theorem RG.grow (h : RG w z T q cv L) (c : Grow w w') : RG w' z T q cv L := h.chg c fun _ _ => id
theorem RG.t (h : RG w z T q cv L) (hk : T k) : z ≤ k ∧ k < w.heap.size := by
  obtain ⟨v, r, d, ow, h⟩ := h
  exact h.t k hk
/-- Where a node's cells are. -/
theorem Rf.at_ (h : Rf w z T q cv v r d ow L) (hk : L[k]? = some x) : ∃ g c, v = .slice (some ⟨g, 0, none⟩) L.length c ∧ T g ∧ ow g = 0 ∧ g ≠ q ∧ w.cell? ⟨g, k * 5, none⟩ = some (.int .i64 x.id) ∧ w.cell? ⟨g, k * 5 + 1, none⟩ = some (.int .i64 x.c) ∧
    w.cell? ⟨g, k * 5 + 2, none⟩ = some (.slice (some ⟨r x.id, 0, none⟩) x.refs.length x.refs.length) ∧ w.cell? ⟨g, k * 5 + 3, none⟩ = some (.slice (some ⟨d x.id, 0, none⟩) x.data.length x.data.length) ∧ w.cell? ⟨g, k * 5 + 4, none⟩ = some (.bool x.fin) := by
  have hl : k < L.length := (List.getElem?_eq_some_iff.1 hk).1
  obtain ⟨g, c, hv, _⟩ := own_form h.own (by omega)
  have ho := h.own
  subst hv
  have hg := h.ov g rfl
  refine ⟨g, c, rfl, hg.1, hg.2.1, hg.2.2, ?_, ?_, ?_, ?_, ?_⟩
  · rw [ho.cellAt _ (by omega)]; exact rfC_at (j := 0) hk (by decide)
  · rw [ho.cellAt _ (by omega)]; exact rfC_at (j := 1) hk (by decide)
  · rw [ho.cellAt _ (by omega)]; exact rfC_at (j := 2) hk (by decide)
  · rw [ho.cellAt _ (by omega)]; exact rfC_at (j := 3) hk (by decide)
  · rw [ho.cellAt _ (by omega)]; exact rfC_at (j := 4) hk (by decide)
theorem Rf.at2 {va : Option Addr} {n vc : Nat} (h : Rf w z T q cv (.slice va n vc) r d ow L) (hk : L[k]? = some x) : ∃ g, va = some ⟨g, 0, none⟩ ∧ T g ∧ ow g = 0 ∧ g ≠ q ∧ w.cell? ⟨g, k * 5, none⟩ = some (.int .i64 x.id) ∧ w.cell? ⟨g, k * 5 + 1, none⟩ = some (.int .i64 x.c) ∧
    w.cell? ⟨g, k * 5 + 2, none⟩ = some (.slice (some ⟨r x.id, 0, none⟩) x.refs.length x.refs.length) ∧ w.cell? ⟨g, k * 5 + 3, none⟩ = some (.slice (some ⟨d x.id, 0, none⟩) x.data.length x.data.length) ∧ w.cell? ⟨g, k * 5 + 4, none⟩ = some (.bool x.fin) := by
  obtain ⟨g, c, hv, h'⟩ := h.at_ hk
  injection hv with hv
  exact ⟨g, hv, h'⟩
theorem Rf.cell1 (h : Rf w z T q cv v r d ow L) : w.cell? ⟨q, 1, none⟩ = some v := h.blk.cell 1
theorem Rf.cell0 (h : Rf w z T q cv v r d ow L) : w.cell? ⟨q, 0, none⟩ = some cv := h.blk.cell 0
theorem Rf.val (h : Rf w z T q cv v r d ow L) : ∃ a c, v = .slice a L.length c := own_len h.own
theorem srt_lt (h : Srt L) {j : Nat} {x y : Nd} (hx : L[j]? = some x) (hy : L[k]? = some y) (hjk : j < k) : x.id < y.id := by
  obtain ⟨h1, e1⟩ := List.getElem?_eq_some_iff.1 hx
  obtain ⟨h2, e2⟩ := List.getElem?_eq_some_iff.1 hy
  rw [← e1, ← e2]
  exact List.pairwise_iff_getElem.1 h j k h1 h2 hjk
theorem nd_at (hn : nd L i = some x) : ∃ k, L[k]? = some x ∧ k < L.length := by
  obtain ⟨hx, _⟩ := nd_some hn
  obtain ⟨k, hk, e⟩ := List.getElem_of_mem hx
  exact ⟨k, by rw [List.getElem?_eq_getElem hk, e], hk⟩
set_option maxRecDepth 100000 in
set_option maxHeartbeats 1000000 in
theorem at_yes (h : RG w z T q cv L) (hs : Srt L) (hk : L[k]? = some x) (hl : L.length < 1000000) :
    Calls Try.prog 24 #[ptr q, .int .i64 x.id] w fun e w' => e = .returned (.int .i64 k) ∧ w = w' := by
  obtain ⟨v, r, d, ow, h⟩ := h
  obtain ⟨va, vc, rfl⟩ := h.val
  have H := hide h
  have HS := hide hs
  have HK := hide hk
  have hkl : k < L.length := (List.getElem?_eq_some_iff.1 hk).1
  have c1 := h.cell1
  obtain ⟨n, hn⟩ : ∃ n, L.length = n := ⟨_, rfl⟩
  rw [hn] at c1
  have HN := hide hn
  have HL := hide (show k < n ∧ n < 1000000 by omega)
  clear h hs hk hl hn hkl
  go_enter Try.func24, Try.ntmps24
  go_wp2_with fail
  go_loopw [11] (fun c wr => ∃ j : Nat, j ≤ k ∧ c = .int .i64 j ∧ w = wr) (fun c _ => n - (Go.RowKit.intOf c).toNat)
  case atStart => exact ⟨0, Nat.zero_le _, rfl, rfl⟩
  case round =>
    obtain ⟨j, hj, rfl, rfl⟩ := hrel
    have q1 : decide ((j : Int) < n) = true := decide_eq_true (by have := HL.out; omega)
    have hjn : j < n := by have := HL.out; omega
    obtain ⟨y, hyj⟩ : ∃ y, L[j]? = some y := ⟨_, List.getElem?_eq_getElem (by rw [HN.out]; exact hjn)⟩
    obtain ⟨g, rfl, -, -, -, x0, -⟩ := H.out.at2 hyj
    have hw : IntKind.i64.wrap ((j : Int) + 1) = ((j + 1 : Nat) : Int) := (IntWalk.i64_in _ (by have := HL.out; omega)).trans (by omega)
    have HJ := hide hjn
    rcases Nat.eq_or_lt_of_le hj with hje | hlt
    · subst hje
      obtain rfl : y = x := by have := HK.out; rw [hyj] at this; injection this
      have q2 : (y.id == y.id) = true := by simp
      clear hyj hj
      go_wp2
      go_ret
      exact ⟨rfl, rfl⟩
    · have hne := srt_lt HS.out hyj HK.out hlt
      have q2 : (y.id == x.id) = false := by simp; omega
      have HLT := hide hlt
      clear hyj hj hne hlt
      go_wp2
      go_roundw
      case rel => exact ⟨j + 1, HLT.out, rfl, by first | rfl | trivial⟩
      case measure => have := HJ.out; simp [Go.RowKit.intOf]; omega
set_option maxRecDepth 100000 in
set_option maxHeartbeats 1000000 in
theorem at_no (h : RG w z T q cv L) (hi : nd L i = none) (hl : L.length < 1000000) :
    Calls Try.prog 24 #[ptr q, .int .i64 i] w fun e w' => e = .returned (.int .i64 (-1)) ∧ w = w' := by
  obtain ⟨v, r, d, ow, h⟩ := h
  obtain ⟨va, vc, rfl⟩ := h.val
  have H := hide h
  have HI := hide (nd_none hi)
  have c1 := h.cell1
  obtain ⟨n, hn⟩ : ∃ n, L.length = n := ⟨_, rfl⟩
  rw [hn] at c1
  have HN := hide hn
  have HL := hide (show n < 1000000 by omega)
  clear h hi hl hn
  go_enter Try.func24, Try.ntmps24
  go_wp2_with fail
  go_loopw [11] (fun c wr => ∃ j : Nat, j ≤ n ∧ c = .int .i64 j ∧ w = wr) (fun c _ => n - (Go.RowKit.intOf c).toNat)
  case atStart => exact ⟨0, Nat.zero_le _, rfl, rfl⟩
  case round =>
    obtain ⟨j, hj, rfl, rfl⟩ := hrel
    rcases Nat.eq_or_lt_of_le hj with hje | hlt
    · have q1 : decide ((j : Int) < n) = false := decide_eq_false (by omega)
      subst hje
      clear hj
      go_wp2
      go_ret
      exact ⟨rfl, rfl⟩
    · have q1 : decide ((j : Int) < n) = true := decide_eq_true (by omega)
      obtain ⟨y, hyj⟩ : ∃ y, L[j]? = some y := ⟨_, List.getElem?_eq_getElem (by rw [HN.out]; exact hlt)⟩
      obtain ⟨g, rfl, -, -, -, x0, -⟩ := H.out.at2 hyj
      have hw : IntKind.i64.wrap ((j : Int) + 1) = ((j + 1 : Nat) : Int) := (IntWalk.i64_in _ (by have := HL.out; omega)).trans (by omega)
      have HJ := hide hlt
      have q2 : (y.id == i) = false := by simpa using HI.out y (List.mem_of_getElem? hyj)
      clear hyj hj
      go_wp2
      go_roundw
      case rel => exact ⟨j + 1, HJ.out, rfl, by first | rfl | trivial⟩
      case measure => have := HJ.out; simp [Go.RowKit.intOf]; omega
set_option maxRecDepth 100000 in
set_option maxHeartbeats 1000000 in
theorem kind_r (h : RG w z T q (.slice a len cap) L) (hc : IsCls w a len cap cs) (hk : L[k]? = some x) {c : Cl} (hcl : clAt cs x.c = some c) (hl : L.length < 1000000) (hcap : len < 1000000) :
    Calls Try.prog 44 #[ptr q, .int .i64 k] w fun e w' => e = .returned (.int .i64 c.k) ∧ Grow w w' := by
  obtain ⟨v, r, d, ow, h⟩ := h
  obtain ⟨g, vc, rfl, -, -, -, x0, x1, -⟩ := h.at_ hk
  have hkl : k < L.length := (List.getElem?_eq_some_iff.1 hk).1
  have c0 := h.cell0
  have c1 := h.cell1
  obtain ⟨j, hj, hjl, hjc⟩ := L5.clAt_some hcl
  rw [hc.len] at hjl
  obtain ⟨b, off, c', rfl, hc', hca, -⟩ := hc.at_ hjl
  obtain rfl : c' = c := by rw [hjc] at hc'; injection hc' with e; exact e.symm
  have y0 := hca.1
  obtain ⟨n, hn⟩ : ∃ n, L.length = n := ⟨_, rfl⟩
  rw [hn] at c1 hkl hl
  have q1 : decide ((k : Int) < (n : Int)) = true := decide_eq_true (by omega)
  obtain ⟨K, hK⟩ : ∃ K, x.c = K := ⟨_, rfl⟩
  rw [hK] at x1 hj
  have hw : IntKind.i64.wrap (K - 1) = (j : Int) := (IntWalk.i64_in _ (by omega)).trans (by omega)
  have q2 : decide ((j : Int) < (len : Int)) = true := decide_eq_true (by omega)
  clear h hk hcl hc hc' hca hjc hj x0 hn hK
  go_enter Try.func44, Try.ntmps44
  go_wp2_with fail
  refine wp_region_grow (by kernel_rfl) (by kernel_rfl) ?_
  repeat (
    with_reducible refine wpQuiet_step ?_
    intro K hK
    first
      | ((with_reducible refine quiet_offT rfl ?_ (hK _ ?_)); focus (refine ⟨_, rfl, ?_⟩; with_reducible rfl))
      | ((with_reducible refine quiet_offF rfl ?_ (hK _ ?_)); focus (refine ⟨_, rfl, ?_⟩; with_reducible rfl))
      | ((with_reducible refine quiet_offN rfl ?_ (hK _ ?_)); focus (exact rfl))
      | ((first | with_reducible refine quiet_free rfl ?_ | ((with_reducible refine quiet_on rfl ?_ ?_); focus (refine ⟨_, rfl, ?_⟩; with_reducible rfl)))
         apply Exists.intro
         refine ⟨fun Wq hW => ?_, hK _ ?_⟩
         focus (have q0 := Grow.cell hW c0; have q1 := Grow.cell hW c1; have q2 := Grow.cell hW x1; have q3 := Grow.cell hW y0; go_simp; first | done | with_reducible rfl))
    clear hK K
    simp only [Act.put, List.setIfInBounds_toArray, List.set_cons_zero, List.set_cons_succ])
  with_reducible refine wpQuiet_nil ?_
  intro w5 c5
  go_wp2
  go_ret
  exact ⟨rfl, c5⟩
end
end Go.Proofs.Ytjofdamobnemcaa.L9

/- The plain graph: what its memory is; At, Kind. Conditions: fewer than 1000000 nodes. -/
import Derived.Test.YtjfpjnhlnoiekaaGreatL9B
import Derived.Test.YtjfpjnhlnoiekaaGreatL5A
import Derived.Shelf.SlIter.Collect
import Derived.Deep.RegionHeld3
namespace Go.Proofs.YtjfpjnhlnoiekaaGreat.L9
open Go.ChangeShapes Go.WideShapes Go.ChangeAt Go.RowKit
open Go.Proofs.YtjfpjnhlnoiekaaGreat.L5 (Cl clAt IsCls newX isRf shX shR shD)
set_option linter.unusedVariables false

/-- A node's cells: its references, its numbers in blocks of their own. -/
def ndC (x : Nd) (br bd : Nat) : List Value := [.int .i64 x.id, .int .i64 x.c, .slice (some ⟨br, 0, none⟩) x.refs.length x.refs.length, .slice (some ⟨bd, 0, none⟩) x.data.length x.data.length, .bool x.fin]
def rfC (r d : Int → Nat) (L : List Nd) : List Value := L.flatMap fun x => ndC x (r x.id) (d x.id)
section
variable {r d r' d' : Int → Nat} {L M : List Nd} {x : Nd} {k j : Nat}
theorem rfC_nil : rfC r d [] = [] := rfl
theorem rfC_cons (x : Nd) (L : List Nd) : rfC r d (x :: L) = ndC x (r x.id) (d x.id) ++ rfC r d L := by simp [rfC]
theorem rfC_app (L M : List Nd) : rfC r d (L ++ M) = rfC r d L ++ rfC r d M := by simp [rfC]
theorem rfC_len (L : List Nd) : (rfC r d L).length = L.length * 5 := by
  induction L with
  | nil => rfl
  | cons a l ih => rw [rfC_cons, List.length_append, ih]; simp [ndC]; omega
theorem rfC_at (h : L[k]? = some x) (hj : j < 5) : (rfC r d L)[k * 5 + j]? = (ndC x (r x.id) (d x.id))[j]? := by
  induction L generalizing k with
  | nil => simp at h
  | cons p l ih =>
    have hp : (ndC p (r p.id) (d p.id)).length = 5 := rfl
    cases k with
    | zero =>
      simp at h
      subst h
      rw [rfC_cons, List.getElem?_append_left (by omega)]
      simp
    | succ i =>
      have := ih (k := i) (by simpa using h)
      rw [rfC_cons, List.getElem?_append_right (by omega), hp, show (i + 1) * 5 + j - 5 = i * 5 + j by omega]
      exact this
theorem rfC_one (L : List Nd) : ∀ v ∈ rfC r d L, v.oneCell' = true := by
  intro v hv
  simp only [rfC, List.mem_flatMap, ndC, List.mem_cons, List.not_mem_nil, or_false] at hv
  obtain ⟨c, _, rfl | rfl | rfl | rfl | rfl⟩ := hv <;> rfl
theorem rfC_congr (h : ∀ x ∈ L, r x.id = r' x.id ∧ d x.id = d' x.id) : rfC r d L = rfC r' d' L := by
  induction L with
  | nil => rfl
  | cons a l ih =>
    rw [rfC_cons, rfC_cons, ih fun x hx => h x (List.mem_cons_of_mem _ hx), (h a List.mem_cons_self).1, (h a List.mem_cons_self).2]
end
/-- The plain graph at block q: its list of nodes, v; the nodes' blocks, by r and d; its blocks, T; whose node a block belongs to, by ow. -/
structure Rf (w : World) (z : Nat) (T : Nat → Prop) (q : Nat) (cv v : Value) (r d : Int → Nat) (ow : Nat → Int) (L : List Nd) : Prop where
  blk : Blk w q 43 [cv, v]
  own : w.ownsRow z 38 5 v L.length (rfC r d L)
  ov : ∀ k, v.ownBlock = some k → T k ∧ ow k = 0 ∧ k ≠ q
  tq : T q
  oq : ow q = 0
  t : ∀ k, T k → z ≤ k ∧ k < w.heap.size
  nds : ∀ x ∈ L, (Blk w (r x.id) 3 (ints x.refs) ∧ Blk w (d x.id) 3 (ints x.data)) ∧ (T (r x.id) ∧ T (d x.id)) ∧ (ow (r x.id) = x.id ∧ ow (d x.id) = x.id) ∧ r x.id ≠ d x.id
def RG (w : World) (z : Nat) (T : Nat → Prop) (q : Nat) (cv : Value) (L : List Nd) : Prop := ∃ v r d ow, Rf w z T q cv v r d ow L
/-- The names rise, and all can be. -/
def Lok (cs : List Cl) (L : List Nd) : Prop := Srt L ∧ ∀ x ∈ L, x.Ok cs
section
variable {w w' : World} {z q : Nat} {T U : Nat → Prop} {cv v : Value} {r d : Int → Nat} {ow : Nat → Int} {L : List Nd} {x : Nd} {k : Nat} {i : Int} {cs : List Cl} {a : Option Addr} {len cap : Nat}
theorem GS.lok {p : Nat} {S : Nat → Prop} (h : GS w z S p cs L) : Lok cs L := ⟨h.srt, fun x hx => h.ok hx⟩
theorem Rf.chg (h : Rf w z T q cv v r d ow L) (c : Chg U w w') (hU : ∀ k, T k → ¬ U k) : Rf w' z T q cv v r d ow L :=
  ⟨h.blk.chg c (hU _ h.tq), own_chg h.own c (fun k hk => hU k (h.ov k hk).1), h.ov, h.tq, h.oq, fun k hk => ⟨(h.t k hk).1, Nat.lt_of_lt_of_le (h.t k hk).2 c.size⟩, fun x hx => by
    obtain ⟨⟨h1, h2⟩, ⟨h3, h4⟩, h5⟩ := h.nds x hx
    exact ⟨⟨h1.chg c (hU _ h3), h2.chg c (hU _ h4)⟩, ⟨h3, h4⟩, h5⟩⟩
theorem RG.chg (h : RG w z T q cv L) (c : Chg U w w') (hU : ∀ k, T k → ¬ U k) : RG w' z T q cv L := by
  obtain ⟨v, r, d, ow, h⟩ := h
  exact ⟨v, r, d, ow, h.chg c hU⟩
theorem RG.grow (h : RG w z T q cv L) (c : Grow w w') : RG w' z T q cv L := h.chg c fun _ _ => id
theorem RG.t (h : RG w z T q cv L) (hk : T k) : z ≤ k ∧ k < w.heap.size := by
  obtain ⟨v, r, d, ow, h⟩ := h
  exact h.t k hk
/-- Where a node's cells are. -/
theorem Rf.at_ (h : Rf w z T q cv v r d ow L) (hk : L[k]? = some x) : ∃ g c, v = .slice (some ⟨g, 0, none⟩) L.length c ∧ T g ∧ ow g = 0 ∧ g ≠ q ∧ w.cell? ⟨g, k * 5, none⟩ = some (.int .i64 x.id) ∧ w.cell? ⟨g, k * 5 + 1, none⟩ = some (.int .i64 x.c) ∧
    w.cell? ⟨g, k * 5 + 2, none⟩ = some (.slice (some ⟨r x.id, 0, none⟩) x.refs.length x.refs.length) ∧ w.cell? ⟨g, k * 5 + 3, none⟩ = some (.slice (some ⟨d x.id, 0, none⟩) x.data.length x.data.length) ∧ w.cell? ⟨g, k * 5 + 4, none⟩ = some (.bool x.fin) := by
  have hl : k < L.length := (List.getElem?_eq_some_iff.1 hk).1
  obtain ⟨g, c, hv, _⟩ := own_form h.own (by omega)
  have ho := h.own
  subst hv
  have hg := h.ov g rfl
  refine ⟨g, c, rfl, hg.1, hg.2.1, hg.2.2, ?_, ?_, ?_, ?_, ?_⟩
  · rw [ho.cellAt _ (by omega)]; exact rfC_at (j := 0) hk (by decide)
  · rw [ho.cellAt _ (by omega)]; exact rfC_at (j := 1) hk (by decide)
  · rw [ho.cellAt _ (by omega)]; exact rfC_at (j := 2) hk (by decide)
  · rw [ho.cellAt _ (by omega)]; exact rfC_at (j := 3) hk (by decide)
  · rw [ho.cellAt _ (by omega)]; exact rfC_at (j := 4) hk (by decide)
theorem Rf.at2 {va : Option Addr} {n vc : Nat} (h : Rf w z T q cv (.slice va n vc) r d ow L) (hk : L[k]? = some x) : ∃ g, va = some ⟨g, 0, none⟩ ∧ T g ∧ ow g = 0 ∧ g ≠ q ∧ w.cell? ⟨g, k * 5, none⟩ = some (.int .i64 x.id) ∧ w.cell? ⟨g, k * 5 + 1, none⟩ = some (.int .i64 x.c) ∧
    w.cell? ⟨g, k * 5 + 2, none⟩ = some (.slice (some ⟨r x.id, 0, none⟩) x.refs.length x.refs.length) ∧ w.cell? ⟨g, k * 5 + 3, none⟩ = some (.slice (some ⟨d x.id, 0, none⟩) x.data.length x.data.length) ∧ w.cell? ⟨g, k * 5 + 4, none⟩ = some (.bool x.fin) := by
  obtain ⟨g, c, hv, h'⟩ := h.at_ hk
  injection hv with hv
  exact ⟨g, hv, h'⟩
theorem Rf.cell1 (h : Rf w z T q cv v r d ow L) : w.cell? ⟨q, 1, none⟩ = some v := h.blk.cell 1
theorem Rf.cell0 (h : Rf w z T q cv v r d ow L) : w.cell? ⟨q, 0, none⟩ = some cv := h.blk.cell 0
theorem Rf.val (h : Rf w z T q cv v r d ow L) : ∃ a c, v = .slice a L.length c := own_len h.own
theorem srt_lt (h : Srt L) {j : Nat} {x y : Nd} (hx : L[j]? = some x) (hy : L[k]? = some y) (hjk : j < k) : x.id < y.id := by
  obtain ⟨h1, e1⟩ := List.getElem?_eq_some_iff.1 hx
  obtain ⟨h2, e2⟩ := List.getElem?_eq_some_iff.1 hy
  rw [← e1, ← e2]
  exact List.pairwise_iff_getElem.1 h j k h1 h2 hjk
theorem nd_at (hn : nd L i = some x) : ∃ k, L[k]? = some x ∧ k < L.length := by
  obtain ⟨hx, _⟩ := nd_some hn
  obtain ⟨k, hk, e⟩ := List.getElem_of_mem hx
  exact ⟨k, by rw [List.getElem?_eq_getElem hk, e], hk⟩
set_option maxRecDepth 100000 in
set_option maxHeartbeats 1000000 in
theorem at_yes (h : RG w z T q cv L) (hs : Srt L) (hk : L[k]? = some x) (hl : L.length < 1000000) :
    Calls Tryz.prog 41 #[ptr q, .int .i64 x.id] w fun e w' => e = .returned (.int .i64 k) ∧ w = w' := by
  obtain ⟨v, r, d, ow, h⟩ := h
  obtain ⟨va, vc, rfl⟩ := h.val
  have H := hide h
  have HS := hide hs
  have HK := hide hk
  have hkl : k < L.length := (List.getElem?_eq_some_iff.1 hk).1
  have c1 := h.cell1
  obtain ⟨n, hn⟩ : ∃ n, L.length = n := ⟨_, rfl⟩
  rw [hn] at c1
  have HN := hide hn
  have HL := hide (show k < n ∧ n < 1000000 by omega)
  clear h hs hk hl hn hkl
  go_enter Tryz.func41, Tryz.ntmps41
  go_wp2_with fail
  go_loopw [11] (fun c wr => ∃ j : Nat, j ≤ k ∧ c = .int .i64 j ∧ w = wr) (fun c _ => n - (Go.RowKit.intOf c).toNat)
  case atStart => exact ⟨0, Nat.zero_le _, rfl, rfl⟩
  case round =>
    obtain ⟨j, hj, rfl, rfl⟩ := hrel
    have q1 : decide ((j : Int) < n) = true := decide_eq_true (by have := HL.out; omega)
    have hjn : j < n := by have := HL.out; omega
    obtain ⟨y, hyj⟩ : ∃ y, L[j]? = some y := ⟨_, List.getElem?_eq_getElem (by rw [HN.out]; exact hjn)⟩
    obtain ⟨g, rfl, -, -, -, x0, -⟩ := H.out.at2 hyj
    have hw : IntKind.i64.wrap ((j : Int) + 1) = ((j + 1 : Nat) : Int) := (IntWalk.i64_in _ (by have := HL.out; omega)).trans (by omega)
    have HJ := hide hjn
    rcases Nat.eq_or_lt_of_le hj with hje | hlt
    · subst hje
      obtain rfl : y = x := by have := HK.out; rw [hyj] at this; injection this
      have q2 : (y.id == y.id) = true := by simp
      clear hyj hj
      go_wp2
      go_ret
      exact ⟨rfl, rfl⟩
    · have hne := srt_lt HS.out hyj HK.out hlt
      have q2 : (y.id == x.id) = false := by simp; omega
      have HLT := hide hlt
      clear hyj hj hne hlt
      go_wp2
      go_roundw
      case rel => exact ⟨j + 1, HLT.out, rfl, by first | rfl | trivial⟩
      case measure => have := HJ.out; simp [Go.RowKit.intOf]; omega
set_option maxRecDepth 100000 in
set_option maxHeartbeats 1000000 in
theorem at_no (h : RG w z T q cv L) (hi : nd L i = none) (hl : L.length < 1000000) :
    Calls Tryz.prog 41 #[ptr q, .int .i64 i] w fun e w' => e = .returned (.int .i64 (-1)) ∧ w = w' := by
  obtain ⟨v, r, d, ow, h⟩ := h
  obtain ⟨va, vc, rfl⟩ := h.val
  have H := hide h
  have HI := hide (nd_none hi)
  have c1 := h.cell1
  obtain ⟨n, hn⟩ : ∃ n, L.length = n := ⟨_, rfl⟩
  rw [hn] at c1
  have HN := hide hn
  have HL := hide (show n < 1000000 by omega)
  clear h hi hl hn
  go_enter Tryz.func41, Tryz.ntmps41
  go_wp2_with fail
  go_loopw [11] (fun c wr => ∃ j : Nat, j ≤ n ∧ c = .int .i64 j ∧ w = wr) (fun c _ => n - (Go.RowKit.intOf c).toNat)
  case atStart => exact ⟨0, Nat.zero_le _, rfl, rfl⟩
  case round =>
    obtain ⟨j, hj, rfl, rfl⟩ := hrel
    rcases Nat.eq_or_lt_of_le hj with hje | hlt
    · have q1 : decide ((j : Int) < n) = false := decide_eq_false (by omega)
      subst hje
      clear hj
      go_wp2
      go_ret
      exact ⟨rfl, rfl⟩
    · have q1 : decide ((j : Int) < n) = true := decide_eq_true (by omega)
      obtain ⟨y, hyj⟩ : ∃ y, L[j]? = some y := ⟨_, List.getElem?_eq_getElem (by rw [HN.out]; exact hlt)⟩
      obtain ⟨g, rfl, -, -, -, x0, -⟩ := H.out.at2 hyj
      have hw : IntKind.i64.wrap ((j : Int) + 1) = ((j + 1 : Nat) : Int) := (IntWalk.i64_in _ (by have := HL.out; omega)).trans (by omega)
      have HJ := hide hlt
      have q2 : (y.id == i) = false := by simpa using HI.out y (List.mem_of_getElem? hyj)
      clear hyj hj
      go_wp2
      go_roundw
      case rel => exact ⟨j + 1, HJ.out, rfl, by first | rfl | trivial⟩
      case measure => have := HJ.out; simp [Go.RowKit.intOf]; omega
set_option maxRecDepth 100000 in
set_option maxHeartbeats 1000000 in
theorem kind_r (h : RG w z T q (.slice a len cap) L) (hc : IsCls w a len cap cs) (hk : L[k]? = some x) {c : Cl} (hcl : clAt cs x.c = some c) (hl : L.length < 1000000) (hcap : len < 1000000) :
    Calls Tryz.prog 59 #[ptr q, .int .i64 k] w fun e w' => e = .returned (.int .i64 c.k) ∧ Grow w w' := by
  obtain ⟨v, r, d, ow, h⟩ := h
  obtain ⟨g, vc, rfl, -, -, -, x0, x1, -⟩ := h.at_ hk
  have hkl : k < L.length := (List.getElem?_eq_some_iff.1 hk).1
  have c0 := h.cell0
  have c1 := h.cell1
  obtain ⟨j, hj, hjl, hjc⟩ := L5.clAt_some hcl
  rw [hc.len] at hjl
  obtain ⟨b, off, c', rfl, hc', hca, -⟩ := hc.at_ hjl
  obtain rfl : c' = c := by rw [hjc] at hc'; injection hc' with e; exact e.symm
  have y0 := hca.1
  obtain ⟨n, hn⟩ : ∃ n, L.length = n := ⟨_, rfl⟩
  rw [hn] at c1 hkl hl
  have q1 : decide ((k : Int) < (n : Int)) = true := decide_eq_true (by omega)
  obtain ⟨K, hK⟩ : ∃ K, x.c = K := ⟨_, rfl⟩
  rw [hK] at x1 hj
  have hw : IntKind.i64.wrap (K - 1) = (j : Int) := (IntWalk.i64_in _ (by omega)).trans (by omega)
  have q2 : decide ((j : Int) < (len : Int)) = true := decide_eq_true (by omega)
  clear h hk hcl hc hc' hca hjc hj x0 hn hK
  go_enter Tryz.func59, Tryz.ntmps59
  go_wp2_with fail
  refine wp_region_grow (by kernel_rfl) (by kernel_rfl) ?_
  repeat (
    with_reducible refine wpQuiet_step ?_
    intro K hK
    first
      | ((with_reducible refine quiet_offT rfl ?_ (hK _ ?_)); focus (refine ⟨_, rfl, ?_⟩; with_reducible rfl))
      | ((with_reducible refine quiet_offF rfl ?_ (hK _ ?_)); focus (refine ⟨_, rfl, ?_⟩; with_reducible rfl))
      | ((with_reducible refine quiet_offN rfl ?_ (hK _ ?_)); focus (exact rfl))
      | ((first | with_reducible refine quiet_free rfl ?_ | ((with_reducible refine quiet_on rfl ?_ ?_); focus (refine ⟨_, rfl, ?_⟩; with_reducible rfl)))
         apply Exists.intro
         refine ⟨fun Wq hW => ?_, hK _ ?_⟩
         focus (have q0 := Grow.cell hW c0; have q1 := Grow.cell hW c1; have q2 := Grow.cell hW x1; have q3 := Grow.cell hW y0; go_simp; first | done | with_reducible rfl))
    clear hK K
    simp only [Act.put, List.setIfInBounds_toArray, List.set_cons_zero, List.set_cons_succ])
  with_reducible refine wpQuiet_nil ?_
  intro w5 c5
  go_wp2
  go_ret
  exact ⟨rfl, c5⟩
end
end Go.Proofs.YtjfpjnhlnoiekaaGreat.L9
/- The plain graph: Aim, Holds, Ids, Words. Conditions: fewer than 1000000 nodes and classes; the classes can be. -/
namespace Go.Proofs.YtjfpjnhlnoiekaaGreat.L9
open Go.ChangeShapes Go.WideShapes Go.ChangeAt Go.RowKit
open Go.Proofs.YtjfpjnhlnoiekaaGreat.L5 (Cl clAt IsCls newX isRf rtB shX shR shD)
set_option linter.unusedVariables false
theorem kind_lt {K R D : Int} {f : Bool} (h : rtB K R D f = true) : decide (K < 3) = !isRf K := by
  cases hr : isRf K with
  | true =>
    unfold isRf at hr
    simp at hr ⊢
    omega
  | false =>
    unfold rtB at h
    rw [hr] at h
    simp only [Bool.false_eq_true, if_false] at h
    by_cases h1 : K = 1
    · subst h1; rfl
    · rw [if_neg h1] at h
      by_cases h2 : K = 2
      · subst h2; rfl
      · rw [if_neg h2] at h
        simp at h
section
variable {w w' : World} {z q : Nat} {T : Nat → Prop} {cv : Value} {L : List Nd} {x : Nd} {i : Int} {cs : List Cl} {a : Option Addr} {len cap : Nat}
set_option maxRecDepth 100000 in
set_option maxHeartbeats 1000000 in
theorem aim_r (h : RG w z T q (.slice a len cap) L) (hc : IsCls w a len cap cs) (ho : Lok cs L) (hall : cs.all Cl.rt = true) (hl : L.length < 1000000) (hcap : len < 1000000) :
    Calls Tryz.prog 35 #[ptr q, .int .i64 i] w fun e w' => e = .returned (.tuple #[.int .i64 (aimX cs L i).1, .int .i64 (aimX cs L i).2]) ∧ Grow w w' := by
  have H := hide h
  cases hn : nd L i with
  | none =>
    have HX := hide (show aimX cs L i = (0, 0) by unfold aimX; rw [hn])
    have HA := hide (at_no h hn hl)
    clear h hc ho hall hl hcap hn
    go_enter Tryz.func35, Tryz.ntmps35
    go_wp2_with fail
    refine HA.out.mono ?_
    rintro e w1 ⟨rfl, rfl⟩
    go_wp2
    go_returns
    rw [HX.out]
    exact ⟨rfl, Chg.refl _ _⟩
  | some x =>
    obtain ⟨k, hk, hkl⟩ := nd_at hn
    obtain ⟨hx, rfl⟩ := nd_some hn
    obtain ⟨c, hcl, hcp⟩ := (ho.2 x hx).cl
    have hkt := kind_lt (L5.clAt_rt hall hcl)
    have HX := hide (show aimX cs L x.id = if isRf c.k then (x.refs.getD 0 0, c.k) else (0, 0) by unfold aimX; rw [hn]; simp only [hcl, kd])
    have HA := hide (at_yes h ho.1 hk hl)
    have HKI := hide (fun (W : World) (g : Grow w W) => kind_r (h.grow g) (hc.chg g fun _ _ => id) hk hcl hl hcap)
    generalize isRf c.k = rr at *
    have HCP := hide hcp
    have HK := hide hk
    have q0 : decide ((k : Int) < 0) = false := decide_eq_false (by omega)
    clear h hc ho hall hcap hn hcl hx hcp hk
    cases rr with
    | false =>
      have q1 : decide (c.k < 3) = true := hkt
      clear hkt
      go_enter Tryz.func35, Tryz.ntmps35
      go_wp2_with fail
      refine HA.out.mono ?_
      rintro e w1 ⟨rfl, rfl⟩
      go_wp2_with fail
      refine (HKI.out _ (Chg.refl _ _)).mono ?_
      rintro e w2 ⟨rfl, c2⟩
      go_wp2
      go_returns
      rw [HX.out]
      exact ⟨rfl, c2⟩
    | true =>
      have q1 : decide (c.k < 3) = false := hkt
      clear hkt
      have hpos := HCP.out rfl
      obtain ⟨v, r, d, ow, hf⟩ := H.out
      obtain ⟨g, vc, rfl, -, -, -, -, -, x2, -⟩ := hf.at_ HK.out
      have hbr := (hf.nds x (List.mem_of_getElem? HK.out)).1.1
      have y0 : w.cell? ⟨r x.id, 0, none⟩ = some (.int .i64 (x.refs.getD 0 0)) := (hbr.cell 0).trans (ints_get _ _ hpos)
      have c1 := hf.cell1
      obtain ⟨n, hn⟩ : ∃ n, L.length = n := ⟨_, rfl⟩
      obtain ⟨m, hm⟩ : ∃ m, x.refs.length = m := ⟨_, rfl⟩
      obtain ⟨u, hu⟩ : ∃ u, x.refs.getD 0 0 = u := ⟨_, rfl⟩
      rw [hu] at HX y0
      rw [hn] at c1 hkl
      rw [hm] at x2 hpos
      have q2 : decide ((k : Int) < (n : Int)) = true := decide_eq_true (by omega)
      have q3 : decide ((0 : Int) < (m : Int)) = true := decide_eq_true (by omega)
      generalize r x.id = rb at *
      clear hf hbr hn hm hu hl
      go_enter Tryz.func35, Tryz.ntmps35
      go_wp2_with fail
      refine HA.out.mono ?_
      rintro e w1 ⟨rfl, rfl⟩
      go_wp2_with fail
      refine (HKI.out _ (Chg.refl _ _)).mono ?_
      rintro e w2 ⟨rfl, c2⟩
      replace c1 := Grow.cell c2 c1
      replace x2 := Grow.cell c2 x2
      replace y0 := Grow.cell c2 y0
      go_wp2_with fail
      refine wp_region_grow (by kernel_rfl) (by kernel_rfl) ?_
      repeat (
        with_reducible refine wpQuiet_step ?_
        intro K hK
        first
          | ((with_reducible refine quiet_offT rfl ?_ (hK _ ?_)); focus (refine ⟨_, rfl, ?_⟩; with_reducible rfl))
          | ((with_reducible refine quiet_offF rfl ?_ (hK _ ?_)); focus (refine ⟨_, rfl, ?_⟩; with_reducible rfl))
          | ((with_reducible refine quiet_offN rfl ?_ (hK _ ?_)); focus (exact rfl))
          | ((first | with_reducible refine quiet_free rfl ?_ | ((with_reducible refine quiet_on rfl ?_ ?_); focus (refine ⟨_, rfl, ?_⟩; with_reducible rfl)))
             apply Exists.intro
             refine ⟨fun Wq hW => ?_, hK _ ?_⟩
             focus (have q0 := Grow.cell hW c1; have q1 := Grow.cell hW x2; have q2 := Grow.cell hW y0; go_simp; first | done | with_reducible rfl | (go_at_call 59; (first | with_reducible exact grown_call hW (HKI.out _ (c2.trans hW)) | with_reducible exact grown_same hW (HKI.out _ (c2.trans hW))))))
        clear hK K
        simp only [Act.put, List.setIfInBounds_toArray, List.set_cons_zero, List.set_cons_succ])
      with_reducible refine wpQuiet_nil ?_
      intro w5 c5
      go_wp2
      go_returns
      rw [HX.out]
      exact ⟨rfl, c2.trans c5⟩
set_option maxRecDepth 100000 in
set_option maxHeartbeats 1000000 in
theorem ids_r (h : RG w z T q cv L) (hl : L.length < 1000000) :
    Calls Tryz.prog 16 #[ptr q] w fun e w' => ∃ a cap, e = .returned (.slice a L.length cap) ∧ w'.ownsRow w.heap.size 3 1 (.slice a L.length cap) L.length (ints (L.map Nd.id)) ∧ Grow w w' := by
  obtain ⟨v, r, d, ow, h⟩ := h
  obtain ⟨va, vc, rfl⟩ := h.val
  have H := hide h
  have c1 := h.cell1
  obtain ⟨n, hn⟩ : ∃ n, L.length = n := ⟨_, rfl⟩
  rw [hn] at c1 hl
  have HN := hide hn
  have HL := hide hl
  obtain ⟨i0, hi0, hz0, hz1, hz2⟩ := info_parts Tryz.infoI
  have HI := hide hi0
  have HZ0 := hide hz0
  have HZ1 := hide hz1
  have HZ2 := hide hz2
  clear h hl hn hi0 hz0 hz1 hz2
  go_enter Tryz.func16, Tryz.ntmps16
  go_wp2_with fail
  go_loopw [3, 10] (fun u c wr => ∃ k : Nat, k ≤ n ∧ c = .int .i64 k ∧ wr.ownsRow w.heap.size 3 1 u k (ints ((L.map Nd.id).take k)) ∧ Grow w wr) (fun _ c _ => n - (Go.RowKit.intOf c).toNat)
  case atStart => exact ⟨0, Nat.zero_le _, rfl, World.ownsRow_nil _ _ _ _, Chg.refl _ _⟩
  case round =>
    obtain ⟨k, hk, rfl, hown, cw⟩ := hrel
    rcases Nat.eq_or_lt_of_le hk with hke | hlt
    · have hke' : n = k := hke.symm
      subst hke'
      have q1 : decide ((n : Int) < (n : Int)) = false := by simp
      replace c1 := Grow.cell cw c1
      rw [show (L.map Nd.id).take n = L.map Nd.id by rw [List.take_of_length_le (by rw [List.length_map, HN.out]; exact Nat.le_refl _)]] at hown
      obtain ⟨ua, uc, rfl⟩ := own_len hown
      have HO := hide hown
      clear hk hke hown
      go_wp2
      go_ret
      rw [HN.out]
      exact ⟨_, _, rfl, HO.out, cw⟩
    · have q1 : decide ((k : Int) < (n : Int)) = true := decide_eq_true (by omega)
      obtain ⟨y, hy⟩ : ∃ y, L[k]? = some y := ⟨_, List.getElem?_eq_getElem (by rw [HN.out]; exact hlt)⟩
      obtain ⟨g, rfl, -, -, -, x0, -⟩ := (H.out.chg cw fun _ _ => id).at2 hy
      have c2 := Grow.cell cw c1
      have hw : IntKind.i64.wrap ((k : Int) + 1) = ((k + 1 : Nat) : Int) := (IntWalk.i64_in _ (by have := HL.out; omega)).trans (by omega)
      have HLT := hide hlt
      have HS := hide (show (L.map Nd.id).take (k + 1) = (L.map Nd.id).take k ++ [y.id] by rw [List.take_add_one, List.getElem?_map, hy]; rfl)
      obtain ⟨xs, hxs⟩ : ∃ xs, xs = (L.map Nd.id).take k := ⟨_, rfl⟩
      rw [← hxs] at hown HS
      generalize y.id = u at *
      have HO := hide (hown.alloc (.cells [.int .i64 u].toArray 3))
      have HBK := hide (Blk.new wr 3 [.int .i64 u])
      have HC := hide (cw.alloc (.cells [.int .i64 u].toArray 3))
      have HBL := hide cw.size
      clear hy hk hown hxs cw
      go_wp2_with (at_builtin; refine wpList_append_own _ rfl _ _ 27 rfl w.heap.size 3 i0 (.int .i64 0) 1 8 Tryz.underlying27 HI.out HZ0.out HZ1.out HZ2.out rfl (by decide) _ _ _ rfl HO.out ⟨wr.heap.size, 0, none⟩ 1 1 [.int .i64 u] rfl rfl (fun j u hj => by rw [addr_add, Nat.zero_add, HBK.out.cell]; exact hj) (fun u hu => by simp at hu; subst hu; rfl) (by have := HL.out; have := HLT.out; unfold maxLen; omega) (by have := HL.out; have := HLT.out; omega) (by rw [World.size_alloc]; have := HBL.out; omega) ?_)
      intro v' w6 hown3 hgrow _
      have cc := Chg.grownOwn HC.out HO.out (Nat.le_refl _) hgrow
      have HO3 := hide hown3
      clear hgrow hown3 HC HO HBK x0 c2 q1
      go_wp2
      go_roundw
      case rel =>
        refine ⟨k + 1, HLT.out, rfl, ?_, cc⟩
        rw [HS.out]
        have := HO3.out
        simpa [ints] using this
      case measure => have := HLT.out; simp [Go.RowKit.intOf]; omega
theorem wos_take {k : Nat} (hk : L[k]? = some x) : wos (L.take (k + 1)) = wos (L.take k) + x.wo := by
  unfold wos
  rw [List.take_add_one, hk, List.map_append, List.sum_append]
  simp
end
end Go.Proofs.YtjfpjnhlnoiekaaGreat.L9
/- The plain graph: Holds, SetRef, SetNum; a node's end. Conditions: fewer than 1000000 nodes and classes; the classes can be. -/
namespace Go.Proofs.YtjfpjnhlnoiekaaGreat.L9
open Go.ChangeShapes Go.WideShapes Go.ChangeAt Go.RowKit
open Go.Proofs.YtjfpjnhlnoiekaaGreat.L5 (Cl clAt IsCls newX isRf rtB shX shR shD)
set_option linter.unusedVariables false
theorem updN_set {L : List Nd} {x : Nd} {k : Nat} (hs : Srt L) (hk : L[k]? = some x) (g : Nd → Nd) : updN L x.id g = L.set k (g x) := by
  apply List.ext_getElem?
  intro j
  unfold updN
  rw [List.getElem?_map, List.getElem?_set]
  by_cases e : k = j
  · subst e
    rw [hk]
    simp [(List.getElem?_eq_some_iff.1 hk).1]
  · rw [if_neg e]
    cases hj : L[j]? with
    | none => rfl
    | some y =>
      have hne : y.id ≠ x.id := by
        rcases Nat.lt_or_gt_of_ne e with h | h
        · have := srt_lt hs hk hj h; omega
        · have := srt_lt hs hj hk h; omega
      simp [hne]
theorem rfC_set {r d : Int → Nat} {L : List Nd} {x y : Nd} {k : Nat} (hk : L[k]? = some x) (h : ndC y (r y.id) (d y.id) = ndC x (r x.id) (d x.id)) : rfC r d (L.set k y) = rfC r d L := by
  induction L generalizing k with
  | nil => rfl
  | cons a l ih =>
    cases k with
    | zero =>
      simp at hk
      subst hk
      rw [List.set_cons_zero, rfC_cons, rfC_cons, h]
    | succ i => rw [List.set_cons_succ, rfC_cons, rfC_cons, ih (by simpa using hk)]
theorem rfC_fin {r d : Int → Nat} {L : List Nd} {x : Nd} {k : Nat} (hk : L[k]? = some x) : (rfC r d L).set (k * 5 + 4) (.bool false) = rfC r d (L.set k { x with fin := false }) := by
  induction L generalizing k with
  | nil => rfl
  | cons a l ih =>
    cases k with
    | zero =>
      simp at hk
      subst hk
      rw [List.set_cons_zero, rfC_cons, rfC_cons]
      rfl
    | succ i =>
      have hp : (ndC a (r a.id) (d a.id)).length = 5 := rfl
      rw [List.set_cons_succ, rfC_cons, rfC_cons, List.set_append_right _ _ (by omega), hp, show (i + 1) * 5 + 4 - 5 = i * 5 + 4 by omega, ih (by simpa using hk)]
theorem mem_set_ne {L : List Nd} {x y q : Nd} {k : Nat} (hs : Srt L) (hk : L[k]? = some x) (hq : q ∈ L.set k y) : q = y ∨ (q ∈ L ∧ q.id ≠ x.id) := by
  obtain ⟨j, hj, rfl⟩ := List.getElem_of_mem hq
  by_cases e : k = j
  · subst e
    left
    simp
  · right
    rw [List.getElem_set_ne e]
    have hjl : j < L.length := by simpa using hj
    have h1 : L[j]? = some L[j] := List.getElem?_eq_getElem hjl
    refine ⟨List.getElem_mem _, ?_⟩
    rcases Nat.lt_or_gt_of_ne e with h | h
    · have := srt_lt hs hk h1 h; omega
    · have := srt_lt hs h1 hk h; omega
section
variable {w w' : World} {z q : Nat} {T U : Nat → Prop} {cv v : Value} {r d : Int → Nat} {ow : Nat → Int} {L : List Nd} {x y : Nd} {k : Nat} {i t t0 : Int} {cs : List Cl} {a : Option Addr} {len cap : Nat}
/-- One node's references or numbers change, in its own blocks. -/
theorem Rf.upd (h : Rf w z T q cv v r d ow L) (hs : Srt L) (hk : L[k]? = some x) (h1 : 1 ≤ x.id) (hid : y.id = x.id) (hc : ndC y (r x.id) (d x.id) = ndC x (r x.id) (d x.id)) (c : Chg U w w') (hU : ∀ j, U j → T j ∧ ow j = x.id)
    (hb : Blk w' (r x.id) 3 (ints y.refs) ∧ Blk w' (d x.id) 3 (ints y.data)) : Rf w' z T q cv v r d ow (L.set k y) := by
  have hx := List.mem_of_getElem? hk
  have o0 : ∀ j, ow j = 0 → ¬ U j := fun j e hj => by have := (hU j hj).2; omega
  refine ⟨h.blk.chg c (o0 _ h.oq), ?_, h.ov, h.tq, h.oq, fun k hk => ⟨(h.t k hk).1, Nat.lt_of_lt_of_le (h.t k hk).2 c.size⟩, fun p hp => ?_⟩
  · rw [rfC_set hk (by rw [hid]; exact hc), List.length_set]
    exact own_chg h.own c fun j hj => o0 _ (h.ov j hj).2.1
  · rcases mem_set_ne hs hk hp with rfl | ⟨hp, hne⟩
    · rw [hid]
      exact ⟨hb, (h.nds x hx).2⟩
    · obtain ⟨⟨h1, h2⟩, h3, ⟨h4, h5⟩, h6⟩ := h.nds p hp
      exact ⟨⟨h1.chg c fun e => hne (by rw [← h4]; exact (hU _ e).2), h2.chg c fun e => hne (by rw [← h5]; exact (hU _ e).2)⟩, h3, ⟨h4, h5⟩, h6⟩
theorem Rf.setRef (h : Rf w z T q cv v r d ow L) (hs : Srt L) (hk : L[k]? = some x) (h1 : 1 ≤ x.id) (j : Nat) (t : Int) : Rf (w.setCell ⟨r x.id, j, none⟩ (.int .i64 t)) z T q cv v r d ow (L.set k { x with refs := x.refs.set j t }) := by
  obtain ⟨⟨b1, b2⟩, ⟨t1, t2⟩, ⟨o1, o2⟩, hne⟩ := h.nds x (List.mem_of_getElem? hk)
  refine h.upd hs hk h1 rfl (by simp [ndC]) ((Chg.refl (· = r x.id) w).set1 _ _) (fun j hj => by subst hj; exact ⟨t1, o1⟩) ⟨?_, b2.far (fun e => hne e.symm) _⟩
  show Blk _ _ _ (ints (x.refs.set j t))
  rw [← ints_set]
  exact b1.set_ j _
theorem Rf.setNum (h : Rf w z T q cv v r d ow L) (hs : Srt L) (hk : L[k]? = some x) (h1 : 1 ≤ x.id) (j : Nat) (t : Int) : Rf (w.setCell ⟨d x.id, j, none⟩ (.int .i64 t)) z T q cv v r d ow (L.set k { x with data := x.data.set j t }) := by
  obtain ⟨⟨b1, b2⟩, ⟨t1, t2⟩, ⟨o1, o2⟩, hne⟩ := h.nds x (List.mem_of_getElem? hk)
  refine h.upd hs hk h1 rfl (by simp [ndC]) ((Chg.refl (· = d x.id) w).set1 _ _) (fun j hj => by subst hj; exact ⟨t2, o2⟩) ⟨b1.far hne _, ?_⟩
  show Blk _ _ _ (ints (x.data.set j t))
  rw [← ints_set]
  exact b2.set_ j _
theorem Rf.done {g n c : Nat} (h : Rf w z T q cv (.slice (some ⟨g, 0, none⟩) n c) r d ow L) (hs : Srt L) (hk : L[k]? = some x) (h1 : ∀ p ∈ L, 1 ≤ p.id) : Rf (w.setCell ⟨g, k * 5 + 4, none⟩ (.bool false)) z T q cv (.slice (some ⟨g, 0, none⟩) n c) r d ow (L.set k { x with fin := false }) := by
  have hg := h.ov g rfl
  have c := (Chg.refl (· = g) w).set1 (k * 5 + 4) (.bool false)
  obtain ⟨a, c', e⟩ := h.val
  injection e with _ e _
  subst e
  have hL : (L.set k { x with fin := false }).length = L.length := List.length_set
  refine ⟨h.blk.chg c (fun e => hg.2.2 e.symm), ?_, h.ov, h.tq, h.oq, fun k hk => ⟨(h.t k hk).1, Nat.lt_of_lt_of_le (h.t k hk).2 c.size⟩, fun p hp => ?_⟩
  · rw [hL, ← rfC_fin hk]
    exact (h.own.stored (k * 5 + 4) (.bool false)).1
  · have key : ∀ p ∈ L, (Blk (w.setCell ⟨g, k * 5 + 4, none⟩ (.bool false)) (r p.id) 3 (ints p.refs) ∧ Blk (w.setCell ⟨g, k * 5 + 4, none⟩ (.bool false)) (d p.id) 3 (ints p.data)) ∧ (T (r p.id) ∧ T (d p.id)) ∧ (ow (r p.id) = p.id ∧ ow (d p.id) = p.id) ∧ r p.id ≠ d p.id := fun p hp => by
      obtain ⟨⟨b1, b2⟩, h3, ⟨o1, o2⟩, h6⟩ := h.nds p hp
      have h1p := h1 p hp
      exact ⟨⟨b1.chg c (fun e => by have e' : r p.id = g := e; rw [e', hg.2.1] at o1; omega), b2.chg c (fun e => by have e' : d p.id = g := e; rw [e', hg.2.1] at o2; omega)⟩, h3, ⟨o1, o2⟩, h6⟩
    rcases mem_set_ne hs hk hp with rfl | ⟨hp, hne⟩
    · exact key x (List.mem_of_getElem? hk)
    · exact key p hp
set_option maxRecDepth 100000 in
set_option maxHeartbeats 1000000 in
theorem setref_r (h : RG w z T q cv L) (ho : Lok cs L) (hl : L.length < 1000000) :
    Calls Tryz.prog 23 #[ptr q, .int .i64 i, .int .i64 t0, .int .i64 t] w fun e w' => e = .returned (.int .i64 (srX L i t0 t)) ∧ Chg T w w' ∧ RG w' z T q cv (srL L i t0 t) := by
  have H := hide h
  cases hn : nd L i with
  | none =>
    have HX := hide (show srX L i t0 t = 7 by unfold srX; rw [hn])
    have HY := hide (show srL L i t0 t = L by unfold srL; rw [HX.out]; rfl)
    have HA := hide (at_no h hn hl)
    clear h ho hl hn
    go_enter Tryz.func23, Tryz.ntmps23
    go_wp2_with fail
    refine HA.out.mono ?_
    rintro e w1 ⟨rfl, rfl⟩
    go_wp2
    go_ret
    rw [HX.out, HY.out]
    exact ⟨rfl, Chg.refl _ _, H.out⟩
  | some x =>
    obtain ⟨k, hk, hkl⟩ := nd_at hn
    obtain ⟨hx, rfl⟩ := nd_some hn
    have h1 := (ho.2 x hx).id1
    have hrl := (ho.2 x hx).rl
    have HA := hide (at_yes h ho.1 hk hl)
    have HO := hide ho.1
    have HK := hide hk
    obtain ⟨v, r, d, ow, hf⟩ := h
    obtain ⟨g, vc, rfl, -, -, -, -, -, x2, -⟩ := hf.at_ hk
    have c1 := hf.cell1
    have HF := hide hf
    obtain ⟨n, hnn⟩ : ∃ n, L.length = n := ⟨_, rfl⟩
    obtain ⟨m, hm⟩ : ∃ m, x.refs.length = m := ⟨_, rfl⟩
    rw [hnn] at c1 hkl
    rw [hm] at x2 hrl
    have q0 : decide ((k : Int) < 0) = false := decide_eq_false (by omega)
    have q1 : decide ((k : Int) < (n : Int)) = true := decide_eq_true (by omega)
    have hX : srX L x.id t0 t = if t0 < 0 ∨ (m : Int) ≤ t0 then 1 else if t ≠ 0 ∧ nd L t = none then 7 else 0 := by unfold srX; rw [hn, ← hm]
    have hU := updN_set ho.1 hk (fun x => { x with refs := x.refs.set t0.toNat t })
    have HL := hide hl
    have HIX := hide (show ∀ j : Nat, j < m → w.cell? ⟨r x.id, j, none⟩ = some (.int .i64 (x.refs.getD j 0)) from fun j hj => ((hf.nds x hx).1.1.cell j).trans (ints_get _ _ (by rw [hm]; exact hj)))
    have HN1 := hide h1
    clear hf ho hn hx hk hnn hm h1 hl
    by_cases hb : t0 < 0 ∨ (m : Int) ≤ t0
    · rw [if_pos hb] at hX
      have HX := hide hX
      have HY := hide (show srL L x.id t0 t = L by unfold srL; rw [hX]; rfl)
      clear hX hU
      by_cases h0 : t0 < 0
      · have q2 : decide (t0 < 0) = true := decide_eq_true h0
        clear hb h0
        go_enter Tryz.func23, Tryz.ntmps23
        go_wp2_with fail
        refine HA.out.mono ?_
        rintro e w1 ⟨rfl, rfl⟩
        go_wp2
        go_ret
        rw [HX.out, HY.out]
        exact ⟨rfl, Chg.refl _ _, H.out⟩
      · have q2 : decide (t0 < 0) = false := decide_eq_false h0
        have q3 : decide (t0 ≥ (m : Int)) = true := decide_eq_true (by omega)
        clear hb h0
        go_enter Tryz.func23, Tryz.ntmps23
        go_wp2_with fail
        refine HA.out.mono ?_
        rintro e w1 ⟨rfl, rfl⟩
        go_wp2
        go_ret
        rw [HX.out, HY.out]
        exact ⟨rfl, Chg.refl _ _, H.out⟩
    · rw [if_neg hb] at hX
      have q2 : decide (t0 < 0) = false := decide_eq_false (by omega)
      have q3 : decide (t0 ≥ (m : Int)) = false := decide_eq_false (by omega)
      obtain ⟨j, hj⟩ := Int.eq_ofNat_of_zero_le (show 0 ≤ t0 by omega)
      have hjm : j < m := by omega
      subst hj
      rw [Int.toNat_natCast] at hU
      clear hb
      by_cases ht : t = 0
      · subst ht
        rw [if_neg (by simp)] at hX
        have q4 : ((0 : Int) != 0) = false := rfl
        have HX := hide hX
        have HY := hide (show srL L x.id (j : Int) 0 = L.set k { x with refs := x.refs.set j 0 } by unfold srL; rw [hX]; exact hU)
        have yj := HIX.out j hjm
        have hnd := HF.out.nds x (List.mem_of_getElem? HK.out)
        have hfz := hnd.1.1.frozen j
        have HNEW := hide (HF.out.setRef HO.out HK.out HN1.out j 0)
        have HCH := hide (show Chg T w (w.setCell ⟨r x.id, j, none⟩ (.int .i64 0)) from (Chg.refl T w).setCell (fun _ => hnd.2.1.1) _)
        generalize x.refs.getD j 0 = u at *
        generalize r x.id = rb at *
        clear hX hU hnd
        go_enter Tryz.func23, Tryz.ntmps23
        go_wp2_with fail
        refine HA.out.mono ?_
        rintro e w1 ⟨rfl, rfl⟩
        go_wp2
        go_ret
        rw [HX.out, HY.out]
        exact ⟨rfl, HCH.out, _, _, _, _, HNEW.out⟩
      · have q4 : (t != 0) = true := by simpa using ht
        cases hnt : nd L t with
        | none =>
          rw [if_pos ⟨ht, hnt⟩] at hX
          have HX := hide hX
          have HY := hide (show srL L x.id (j : Int) t = L by unfold srL; rw [hX]; rfl)
          have HA2 := hide (at_no H.out hnt HL.out)
          clear hX hU ht hnt
          go_enter Tryz.func23, Tryz.ntmps23
          go_wp2_with fail
          refine HA.out.mono ?_
          rintro e w1 ⟨rfl, rfl⟩
          go_wp2_with fail
          refine HA2.out.mono ?_
          rintro e w1 ⟨rfl, rfl⟩
          go_wp2
          go_ret
          rw [HX.out, HY.out]
          exact ⟨rfl, Chg.refl _ _, H.out⟩
        | some y =>
          rw [if_neg (fun h => by rw [hnt] at h; cases h.2)] at hX
          obtain ⟨k2, hk2, -⟩ := nd_at hnt
          obtain ⟨-, rfl⟩ := nd_some hnt
          have HA2 := hide (at_yes H.out HO.out hk2 HL.out)
          have q5 : decide ((k2 : Int) < 0) = false := decide_eq_false (by omega)
          have HX := hide hX
          have HY := hide (show srL L x.id (j : Int) y.id = L.set k { x with refs := x.refs.set j y.id } by unfold srL; rw [hX]; exact hU)
          have yj := HIX.out j hjm
          have hnd := HF.out.nds x (List.mem_of_getElem? HK.out)
          have hfz := hnd.1.1.frozen j
          have HNEW := hide (HF.out.setRef HO.out HK.out HN1.out j y.id)
          have HCH := hide (show Chg T w (w.setCell ⟨r x.id, j, none⟩ (.int .i64 y.id)) from (Chg.refl T w).setCell (fun _ => hnd.2.1.1) _)
          generalize x.refs.getD j 0 = u at *
          generalize r x.id = rb at *
          clear hX hU hnd
          clear hk2 hnt ht
          generalize y.id = t at *
          go_enter Tryz.func23, Tryz.ntmps23
          go_wp2_with fail
          refine HA.out.mono ?_
          rintro e w1 ⟨rfl, rfl⟩
          go_wp2_with fail
          refine HA2.out.mono ?_
          rintro e w1 ⟨rfl, rfl⟩
          go_wp2
          go_ret
          rw [HX.out, HY.out]
          exact ⟨rfl, HCH.out, _, _, _, _, HNEW.out⟩
end
end Go.Proofs.YtjfpjnhlnoiekaaGreat.L9
/- The plain graph: appending, a node more. Conditions: fewer than 1000000 nodes and classes; the classes can be. -/
namespace Go.Proofs.YtjfpjnhlnoiekaaGreat.L9
open Go.ChangeShapes Go.WideShapes Go.ChangeAt Go.RowKit
open Go.Proofs.YtjfpjnhlnoiekaaGreat.L5 (Cl clAt IsCls newX isRf rtB shX shR shD rshape_any)
set_option linter.unusedVariables false
theorem Tryz.infoNd : (Tryz.prog.info? 38).map (fun i => (i.zero, i.size, i.bytes)) = some (some (.agg #[.int .i64 0, .int .i64 0, .slice none 0 0, .slice none 0 0, .bool false]), 5, 72) := by kernel_rfl
/-- append, by what it comes to. -/
theorem wpList_app {P : Program} {ops : Array Oper} {rest : List Oper} {o : Oper} {a : Act} {Q : Exit → Act → World → Prop} (hgd : o.guard = none) (s x : Operand) (t : TypeId)
    (ho : o.op = .call { callee := .builtin .append, args := #[s, x], argTypes := #[t, t] }) (v1 v2 v' : Value) (w w' : World) (hs : a.eval s = v1) (hx : a.eval x = v2)
    (hr : (Builtin.append_ #[t, t] o.type #[v1, v2]).run P w = .ok v' w') (h : wpList P ops Q rest (a.put o.dst v') w') : wpList P ops Q (o :: rest) a w := by
  refine wpList_plain hgd fun K hK => ?_
  unfold Oper.wp
  simp [execOp, ho, resolve, invoke, builtin, hs, hx, hr, Result.andThen]
  exact hK _ _ h
/-- What is appended: m nodes, their cells ys. -/
def Src (W : World) (s : Value) (m : Nat) (ys : List Value) : Prop :=
  (s = .slice none 0 0 ∧ m = 0 ∧ ys = []) ∨ ∃ ad c, s = .slice (some ad) m c ∧ ys.length = m * 5 ∧ (∀ j u, ys[j]? = some u → W.cell? (ad.add j) = some u) ∧ ∀ u ∈ ys, u.oneCell' = true
theorem app_nd {W : World} {base : Nat} {v : Value} {n : Nat} {xs ys : List Value} (h : W.ownsRow base 38 5 v n xs) (hb : base ≤ W.heap.size) {s : Value} {m : Nat} (hs : Src W s m ys) (hn : n + m ≤ 2000000) :
    ∃ v' W', (Builtin.append_ #[41, 41] 41 #[v, s]).run Tryz.prog W = .ok v' W' ∧ W'.ownsRow base 38 5 v' (n + m) (xs ++ ys) ∧ W.grownBy W' v.ownBlock ∧ (v'.ownBlock = v.ownBlock ∨ v'.ownBlock = some W.heap.size) := by
  obtain ⟨i0, hi0, hz0, hz1, hz2⟩ := info_parts Tryz.infoNd
  rcases hs with ⟨rfl, rfl, rfl⟩ | ⟨ad, c, rfl, h1, h2, h3⟩
  · refine ⟨v, W, run_append_owned_none _ base _ _ _ i0 5 Tryz.underlying41 hi0 v n xs h, by simpa using h, ⟨rfl, rfl, rfl, Nat.le_refl _, fun _ _ _ => rfl⟩, .inl rfl⟩
  · obtain ⟨v', W', hr, h4, h5, _, h6⟩ := run_append_own_at (P := Tryz.prog) W base 41 41 38 i0 (.agg #[.int .i64 0, .int .i64 0, .slice none 0 0, .slice none 0 0, .bool false]) 5 72 Tryz.underlying41 hi0 hz0 hz1 hz2 rfl (by decide)
      v n xs h ad m c ys h1 h2 h3 (by unfold maxLen; omega) (by omega) hb
    exact ⟨v', W', hr, h4, h5, h6⟩
theorem step_app {P : Program} {ops : Array Oper} {o : Oper} {a : Act} {w : World} {K : Act → World → Prop} {Q : Exit → Act → World → Prop} {E : Prop} (hgd : o.guard = none) (s x : Operand) (t : TypeId)
    (ho : o.op = .call { callee := .builtin .append, args := #[s, x], argTypes := #[t, t] }) (v1 v2 v' : Value) (w' : World) (hs : a.eval s = v1) (hx : a.eval x = v2)
    (hr : (Builtin.append_ #[t, t] o.type #[v1, v2]).run P w = .ok v' w') (h : K (a.put o.dst v') w') : if Region.wanted o (yielded ops a.tmps) = true then Oper.wp P o a w K Q else E := by
  have hw : Region.wanted o (yielded ops a.tmps) = true := by simp [Region.wanted, hgd]
  rw [if_pos hw]
  unfold Oper.wp
  simp [execOp, ho, resolve, invoke, builtin, hs, hx, hr, Result.andThen]
  exact h
theorem own_cast {W : World} {base size n m : Nat} {e : TypeId} {v : Value} {xs : List Value} (h : W.ownsRow base e size v n xs) (hm : n = m) : W.ownsRow base e size v m xs := hm ▸ h
theorem own_ne {W : World} {base size n : Nat} {e t : TypeId} {v : Value} {xs cs : List Value} {g : Nat} (h : W.ownsRow base e size v n xs) (hb : Blk W g t cs) (hne : e ≠ t) : v.ownBlock ≠ some g := by
  rcases h.2 with ⟨rfl, _⟩ | ⟨g', cap, cur, rfl, _, hg, _⟩
  · intro e; cases e
  · intro e'
    have e2 : g' = g := by injection e'
    subst e2
    unfold Blk at hb
    rw [hg] at hb
    injection hb with hb
    injection hb with _ hb
    exact hne hb
/-- append onto a list that this call made. -/
theorem app_more {w W : World} (cc : Grow w W) {v : Value} {n : Nat} {xs ys : List Value} (h : W.ownsRow w.heap.size 38 5 v n xs) {s : Value} {m : Nat} (hs : Src W s m ys) (hn : n + m ≤ 2000000) :
    ∃ v' W', (Builtin.append_ #[41, 41] 41 #[v, s]).run Tryz.prog W = .ok v' W' ∧ W'.ownsRow w.heap.size 38 5 v' (n + m) (xs ++ ys) ∧ Grow w W' ∧ ∀ g cs, Blk W g 3 cs → Blk W' g 3 cs := by
  obtain ⟨v', W', hr, ho, hg, -⟩ := app_nd h cc.size hs hn
  refine ⟨v', W', hr, ho, Chg.grownOwn cc h (Nat.le_refl _) hg, fun g cs hb => ?_⟩
  exact hb.chg (S := fun k => v.ownBlock = some k) ((Chg.refl _ W).grown hg fun k _ e => e) (own_ne h hb (by decide))
theorem ins_at {L : List Nd} {x : Nd} {j : Nat} (h1 : ∀ m y, m < j → L[m]? = some y → y.id < x.id) (h2 : ∀ y, L[j]? = some y → ¬ y.id < x.id) : ins L x = L.take j ++ x :: L.drop j := by
  induction L generalizing j with
  | nil => simp [ins]
  | cons a l ih =>
    rw [ins_cons]
    cases j with
    | zero =>
      rw [if_neg (h2 a rfl)]
      rfl
    | succ i =>
      rw [if_pos (h1 0 a (by omega) rfl), ih (j := i) (fun m y hm hy => h1 (m + 1) y (by omega) (by simpa using hy)) (fun y hy => h2 y (by simpa using hy))]
      rfl
section
variable {w w' : World} {z q : Nat} {T U : Nat → Prop} {cv v : Value} {r d : Int → Nat} {ow : Nat → Int} {L : List Nd} {x y : Nd} {k : Nat} {i c l : Int} {cs : List Cl} {a : Option Addr} {len cap : Nat}
/-- A node more, in a list anew. -/
theorem Rf.ins (h : Rf w z T q cv v r d ow L) (hn : nd L x.id = none) (ho : Lok cs L) (h1 : 1 ≤ x.id) {W : World} (g : Grow w W) {rb db p : Nat} (hr : Blk W rb 3 (ints x.refs)) (hd : Blk W db 3 (ints x.data)) (hne : rb ≠ db) (h2 : w.heap.size ≤ rb) (h3 : w.heap.size ≤ db)
    {o : Value} (hown : W.ownsRow w.heap.size 38 5 o (L.length + 1) (rfC r d (L.take p) ++ ndC x rb db ++ rfC r d (L.drop p))) (hins : ins L x = L.take p ++ x :: L.drop p) :
    Chg T w (W.setCell ⟨q, 1, none⟩ o) ∧ ∃ T', RG (W.setCell ⟨q, 1, none⟩ o) z T' q cv (ins L x) ∧ ∀ k, T' k → T k ∨ w.heap.size ≤ k := by
  have hq := h.t q h.tq
  have hzw : z ≤ w.heap.size := Nat.le_of_lt (Nat.lt_of_le_of_lt hq.1 hq.2)
  have hgs := g.size
  have cset : Chg (· = q) W (W.setCell ⟨q, 1, none⟩ o) := (Chg.refl _ _).set1 _ _
  have hsz := cset.size
  refine ⟨(g.mono fun _ _ h => h.elim).step cset fun i _ e => by rw [e]; exact h.tq, fun k => T k ∨ (w.heap.size ≤ k ∧ k < (W.setCell ⟨q, 1, none⟩ o).heap.size), ⟨o, fun t => if t = x.id then rb else r t, fun t => if t = x.id then db else d t, fun k => if k < w.heap.size then ow k else if k = rb ∨ k = db then x.id else 0, ?_⟩, fun k hk => by
    rcases hk with h | h
    · exact .inl h
    · exact .inr h.1⟩
  have hdiff := nd_none hn
  have hrl := hr.lt
  have hdl := hd.lt
  have c1 : ∀ M : List Nd, (∀ y ∈ M, y ∈ L) → rfC (fun t => if t = x.id then rb else r t) (fun t => if t = x.id then db else d t) M = rfC r d M := fun M hM => rfC_congr fun y hy => by
    have := hdiff y (hM y hy)
    simp [this]
  refine ⟨?_, ?_, ?_, .inl h.tq, ?_, ?_, ?_⟩
  · exact (h.blk.chg g id).set_ 1 o
  · rw [hins, rfC_app, rfC_cons, c1 _ (fun y hy => List.mem_of_mem_take hy), c1 _ (fun y hy => List.mem_of_mem_drop hy), ← hins, ins_len]
    simp only [if_true]
    rw [← List.append_assoc]
    exact own_chg (ownsRow_base_a hown hzw) cset fun k hk e => by have := (hown.lt k hk).1; omega
  · intro k hk
    have h4 := hown.lt k hk
    have e1 := own_ne hown hr (by decide)
    have e2 := own_ne hown hd (by decide)
    refine ⟨.inr ⟨h4.1, by omega⟩, ?_, by omega⟩
    have e3 : ¬ k < w.heap.size := by omega
    simp only [if_neg e3]
    rw [if_neg]
    rintro (rfl | rfl)
    · exact e1 hk
    · exact e2 hk
  · simp only [if_pos hq.2]
    exact h.oq
  · rintro k (hk | hk)
    · have := h.t k hk
      exact ⟨this.1, by omega⟩
    · exact ⟨by omega, hk.2⟩
  · intro y hy
    have n1 : ¬ rb < w.heap.size := by omega
    have n2 : ¬ db < w.heap.size := by omega
    rcases mem_ins.1 hy with rfl | hy
    · simp only [if_true, if_neg n1, if_neg n2]
      refine ⟨⟨hr.chg cset (by omega), hd.chg cset (by omega)⟩, ⟨.inr ⟨h2, by omega⟩, .inr ⟨h3, by omega⟩⟩, ⟨?_, ?_⟩, hne⟩
      · simp
      · simp
    · have hyx := hdiff y hy
      obtain ⟨⟨b1, b2⟩, ⟨t1, t2⟩, ⟨o1, o2⟩, h6⟩ := h.nds y hy
      have l1 := (h.t _ t1).2
      have l2 := (h.t _ t2).2
      have hy1 := (ho.2 y hy).id1
      simp only [if_neg hyx, if_pos l1, if_pos l2]
      exact ⟨⟨(b1.chg g id).chg cset (fun e => by have e' : r y.id = q := e; rw [e', h.oq] at o1; omega), (b2.chg g id).chg cset (fun e => by have e' : d y.id = q := e; rw [e', h.oq] at o2; omega)⟩, ⟨.inl t1, .inl t2⟩, ⟨o1, o2⟩, h6⟩
/-- Its nodes from one on, up to one. -/
theorem Rf.src_take {g n c : Nat} (h : Rf w z T q cv (.slice (some ⟨g, 0, none⟩) n c) r d ow L) {p c' : Nat} (hp : p ≤ L.length) : Src w (.slice (some ⟨g, 0, none⟩) p c') p (rfC r d (L.take p)) := by
  refine .inr ⟨_, _, rfl, by rw [rfC_len, List.length_take]; congr 1; omega, fun j u hj => ?_, rfC_one _⟩
  have hj5 : j < p * 5 := by have := (List.getElem?_eq_some_iff.1 hj).1; rw [rfC_len, List.length_take] at this; omega
  obtain ⟨a, c2, e⟩ := h.val
  injection e with e1 e2 e3
  subst e2
  rw [addr_add, Nat.zero_add, h.own.cellAt _ (by omega), ← List.take_append_drop p L, rfC_app, List.getElem?_append_left (by rw [rfC_len, List.length_take]; omega)]
  exact hj
theorem Rf.src_drop {g n c : Nat} (h : Rf w z T q cv (.slice (some ⟨g, 0, none⟩) n c) r d ow L) {p c' : Nat} (hp : p ≤ L.length) : Src w (.slice (some ⟨g, p * 5, none⟩) (L.length - p) c') (L.length - p) (rfC r d (L.drop p)) := by
  refine .inr ⟨_, _, rfl, by rw [rfC_len, List.length_drop], fun j u hj => ?_, rfC_one _⟩
  have hj5 : j < (L.length - p) * 5 := by have := (List.getElem?_eq_some_iff.1 hj).1; rw [rfC_len, List.length_drop] at this; omega
  obtain ⟨a, c2, e⟩ := h.val
  injection e with e1 e2 e3
  subst e2
  have hl : (rfC r d (L.take p)).length = p * 5 := by rw [rfC_len, List.length_take]; congr 1; omega
  rw [addr_add, h.own.cellAt _ (by omega)]
  conv => lhs; rw [← List.take_append_drop p L]
  rw [rfC_app, List.getElem?_append_right (by omega), hl, show p * 5 + j - p * 5 = j by omega]
  exact hj
end
end Go.Proofs.YtjfpjnhlnoiekaaGreat.L9
/- The plain graph: Holds. Conditions: fewer than 1000000 nodes and classes; the classes can be. -/
namespace Go.Proofs.YtjfpjnhlnoiekaaGreat.L9
open Go.ChangeShapes Go.WideShapes Go.ChangeAt Go.RowKit
open Go.Proofs.YtjfpjnhlnoiekaaGreat.L5 (Cl clAt IsCls newX isRf rtB shX shR shD)
set_option linter.unusedVariables false
section
variable {w w' : World} {z q : Nat} {T : Nat → Prop} {cv : Value} {L : List Nd} {x : Nd} {i : Int} {cs : List Cl} {a : Option Addr} {len cap : Nat}
set_option maxRecDepth 100000 in
set_option maxHeartbeats 2000000 in
theorem holds_r (h : RG w z T q (.slice a len cap) L) (hc : IsCls w a len cap cs) (ho : Lok cs L) (hall : cs.all Cl.rt = true) (hl : L.length < 1000000) (hcap : len < 1000000) :
    Calls Tryz.prog 58 #[ptr q, .int .i64 i] w fun e w' => ∃ a cap, e = .returned (.slice a (hldX cs L i).length cap) ∧ w'.ownsRow w.heap.size 3 1 (.slice a (hldX cs L i).length cap) (hldX cs L i).length (ints (hldX cs L i)) ∧ Grow w w' := by
  have H := hide h
  cases hn : nd L i with
  | none =>
    have HX := hide (show hldX cs L i = [] by simp [hldX, hn])
    have HA := hide (at_no h hn hl)
    clear h hc ho hall hl hcap hn
    go_enter Tryz.func58, Tryz.ntmps58
    go_wp2_with fail
    refine HA.out.mono ?_
    rintro e w1 ⟨rfl, rfl⟩
    go_wp2
    go_ret
    rw [HX.out]
    exact ⟨_, _, rfl, World.ownsRow_nil _ _ _ _, Chg.refl _ _⟩
  | some x =>
    obtain ⟨p, hk, hkl⟩ := nd_at hn
    obtain ⟨hx, rfl⟩ := nd_some hn
    obtain ⟨c, hcl, hcp⟩ := (ho.2 x hx).cl
    have hrl := (ho.2 x hx).rl
    have hkt := kind_lt (L5.clAt_rt hall hcl)
    have HX := hide (show hldX cs L x.id = hld (isRf c.k) x.refs by unfold hldX; rw [hn]; simp only [hcl, kd])
    have HA := hide (at_yes h ho.1 hk hl)
    have HKI := hide (fun (W : World) (g : Grow w W) => kind_r (h.grow g) (hc.chg g fun _ _ => id) hk hcl hl hcap)
    obtain ⟨v, rr, d, ow, hf⟩ := h
    obtain ⟨g, vc, rfl, -, -, -, -, -, x2, -⟩ := hf.at_ hk
    have c1 := hf.cell1
    have HBR := hide (hf.nds x hx).1.1
    obtain ⟨N, hN⟩ : ∃ N, L.length = N := ⟨_, rfl⟩
    obtain ⟨n, hnn⟩ : ∃ n, x.refs.length = n := ⟨_, rfl⟩
    rw [hN] at c1 hkl
    rw [hnn] at x2 hrl
    have HNN := hide hnn
    have HR := hide hrl
    have HKT := hide hkt
    generalize isRf c.k = r at *
    generalize rr x.id = rb at *
    have q0 : decide ((p : Int) < 0) = false := decide_eq_false (by omega)
    have q1 : decide ((p : Int) < (N : Int)) = true := decide_eq_true (by omega)
    obtain ⟨i0, hi0, hz0, hz1, hz2⟩ := info_parts Tryz.infoI
    have HI := hide hi0
    have HZ0 := hide hz0
    have HZ1 := hide hz1
    have HZ2 := hide hz2
    clear hc ho hall hl hcap hn hcl hx hcp hk hkt hf hN hnn hi0 hz0 hz1 hz2 H
    go_enter Tryz.func58, Tryz.ntmps58
    go_wp2_with fail
    refine HA.out.mono ?_
    rintro e w1 ⟨rfl, rfl⟩
    go_wp2_with fail
    go_loopw [5, 22] (fun v c wr => ∃ k : Nat, k ≤ n ∧ c = .int .i64 k ∧ wr.ownsRow w.heap.size 3 1 v (hld r (x.refs.take k)).length (ints (hld r (x.refs.take k))) ∧ Grow w wr) (fun _ c _ => n - (Go.RowKit.intOf c).toNat)
    case atStart => exact ⟨0, Nat.zero_le _, rfl, by cases r <;> exact World.ownsRow_nil _ _ _ _, Chg.refl _ _⟩
    case round =>
      obtain ⟨k, hk, rfl, hown, hgw⟩ := hrel
      have y1 := Grow.cell hgw c1
      have y2 := Grow.cell hgw x2
      rcases Nat.eq_or_lt_of_le hk with hke | hlt
      · have hke' : n = k := hke.symm
        subst hke'
        have q2 : decide ((n : Int) < (n : Int)) = false := by simp
        rw [show x.refs.take n = x.refs by rw [← HNN.out, List.take_length]] at hown
        obtain ⟨a, cap, rfl⟩ := own_len hown
        have HO := hide hown
        clear hown hk hke
        go_wp2
        go_ret
        rw [HX.out]
        exact ⟨_, _, rfl, HO.out, hgw⟩
      · have q2 : decide ((k : Int) < (n : Int)) = true := decide_eq_true (by omega)
        have yk := Grow.cell hgw ((HBR.out.cell k).trans (ints_get _ _ (by rw [HNN.out]; exact hlt)))
        obtain ⟨u, hu⟩ : ∃ u, x.refs.getD k 0 = u := ⟨_, rfl⟩
        rw [hu] at yk
        have HST := hide (hu ▸ hld_step r x.refs k (by rw [HNN.out]; exact hlt))
        have HLT := hide hlt
        have hw : IntKind.i64.wrap ((k : Int) + 1) = ((k + 1 : Nat) : Int) := (IntWalk.i64_in _ (by have := HR.out; omega)).trans (by omega)
        have HLEN := hide (show (hld r (x.refs.take k)).length ≤ 30 by have := hld_len r (x.refs.take k); have := HR.out; simp at *; omega)
        obtain ⟨xs, hxs⟩ : ∃ xs, xs = hld r (x.refs.take k) := ⟨_, rfl⟩
        rw [← hxs] at hown HST HLEN
        have HO0 := hide hown
        have HGW := hide hgw
        clear hown hu hxs hgw hk
        by_cases hq0 : u = 0
        · as_aux_lemma =>
          subst hq0
          have q3 : ((0 : Int) != 0) = false := rfl
          have HS := hide (show hld r (x.refs.take (k + 1)) = xs by rw [HST.out]; simp)
          go_wp2
          go_roundw
          case rel => exact ⟨k + 1, HLT.out, rfl, by rw [HS.out]; exact own_grow HO0.out (Chg.refl _ _), HGW.out⟩
          case measure => have := HLT.out; simp [Go.RowKit.intOf]; omega
        · have q3 : (u != 0) = true := by simpa using hq0
          rcases Nat.eq_zero_or_pos k with rfl | hk0
          · have q4 : decide (((0 : Nat) : Int) > 0) = false := rfl
            cases r with
            | true =>
              as_aux_lemma =>
              have q5 : decide (c.k < 3) = false := HKT.out
              have HS := hide (show hld true (x.refs.take (0 + 1)) = xs by rw [HST.out]; simp)
              clear hq0 HST hlt
              go_wp2_with fail
              refine (HKI.out _ HGW.out).mono ?_
              rintro e w5 ⟨rfl, c5⟩
              go_wp2
              go_roundw
              case rel => exact ⟨0 + 1, HLT.out, rfl, by rw [HS.out]; exact own_grow HO0.out c5, (HGW.out.trans c5)⟩
              case measure => have := HLT.out; simp [Go.RowKit.intOf]; omega
            | false =>
              as_aux_lemma =>
              have q5 : decide (c.k < 3) = true := HKT.out
              have HS := hide (show hld false (x.refs.take (0 + 1)) = xs ++ [u] by rw [HST.out]; simp [hq0])
              clear hq0 HST hlt
              go_wp2_with fail
              refine (HKI.out _ HGW.out).mono ?_
              rintro e w5 ⟨rfl, c5⟩
              replace y1 := Grow.cell c5 y1
              replace y2 := Grow.cell c5 y2
              replace yk := Grow.cell c5 yk
              have HO := hide ((own_grow HO0.out c5).alloc (.cells [.int .i64 u].toArray 3))
              have HBK := hide (Blk.new w5 3 [.int .i64 u])
              have HC := hide (((HGW.out.trans c5)).alloc (.cells [.int .i64 u].toArray 3))
              have HBL := hide ((HGW.out.trans c5)).size
              go_wp2_with (at_builtin; refine wpList_append_own _ rfl _ _ 27 rfl w.heap.size 3 i0 (.int .i64 0) 1 8 Tryz.underlying27 HI.out HZ0.out HZ1.out HZ2.out rfl (by decide) _ _ _ rfl HO.out ⟨w5.heap.size, 0, none⟩ 1 1 [.int .i64 u] rfl rfl (fun j u hj => by rw [addr_add, Nat.zero_add, HBK.out.cell]; exact hj) (fun u hu => by simp at hu; subst hu; rfl) (by have := HLEN.out; unfold maxLen; omega) (by have := HLEN.out; omega) (by rw [World.size_alloc]; have := HBL.out; omega) ?_)
              intro v' w6 hown3 hgrow _
              have cc := Chg.grownOwn HC.out HO.out (Nat.le_refl _) hgrow
              have HO3 := hide hown3
              clear hgrow hown3 HC HO HBK y1 y2 yk q1 q2 q3
              go_wp2
              go_roundw
              case rel =>
                refine ⟨0 + 1, HLT.out, rfl, ?_, cc⟩
                rw [HS.out, List.length_append, List.length_singleton]
                have := HO3.out
                simpa [ints] using this
              case measure => have := HLT.out; simp [Go.RowKit.intOf]; omega
          · as_aux_lemma =>
            have q4 : decide ((k : Int) > 0) = true := decide_eq_true (by omega)
            have q5 : decide ((0 : Int) < (k : Int)) = true := decide_eq_true (by omega)
            have q6 : decide (0 < k) = true := decide_eq_true hk0
            have q7 : ¬ k = 0 := by omega
            have HS := hide (show hld r (x.refs.take (k + 1)) = xs ++ [u] by rw [HST.out]; simp [hq0, hk0])
            clear hk0 hq0 HST hlt
            have HO := hide ((own_grow HO0.out (Chg.refl _ _)).alloc (.cells [.int .i64 u].toArray 3))
            have HBK := hide (Blk.new wr 3 [.int .i64 u])
            have HC := hide ((HGW.out).alloc (.cells [.int .i64 u].toArray 3))
            have HBL := hide (HGW.out).size
            go_wp2_with (at_builtin; refine wpList_append_own _ rfl _ _ 27 rfl w.heap.size 3 i0 (.int .i64 0) 1 8 Tryz.underlying27 HI.out HZ0.out HZ1.out HZ2.out rfl (by decide) _ _ _ rfl HO.out ⟨wr.heap.size, 0, none⟩ 1 1 [.int .i64 u] rfl rfl (fun j u hj => by rw [addr_add, Nat.zero_add, HBK.out.cell]; exact hj) (fun u hu => by simp at hu; subst hu; rfl) (by have := HLEN.out; unfold maxLen; omega) (by have := HLEN.out; omega) (by rw [World.size_alloc]; have := HBL.out; omega) ?_)
            intro v' w6 hown3 hgrow _
            have cc := Chg.grownOwn HC.out HO.out (Nat.le_refl _) hgrow
            have HO3 := hide hown3
            clear hgrow hown3 HC HO HBK y1 y2 yk q1 q2 q3
            go_wp2
            go_roundw
            case rel =>
              refine ⟨k + 1, HLT.out, rfl, ?_, cc⟩
              rw [HS.out, List.length_append, List.length_singleton]
              have := HO3.out
              simpa [ints] using this
            case measure => have := HLT.out; simp [Go.RowKit.intOf]; omega
end
end Go.Proofs.YtjfpjnhlnoiekaaGreat.L9

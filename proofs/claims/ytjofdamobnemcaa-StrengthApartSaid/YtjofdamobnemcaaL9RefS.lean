/- The plain graph: Holds, SetRef, SetNum; a node's end. Conditions: fewer than 1000000 nodes and classes; the classes can be. -/
import Derived.Test.YtjofdamobnemcaaL9RefR
namespace Go.Proofs.Ytjofdamobnemcaa.L9
open Go.ChangeShapes Go.WideShapes Go.ChangeAt Go.RowKit
open Go.Proofs.Ytjofdamobnemcaa.L5 (Cl clAt IsCls newX isRf rtB shX shR shD)
set_option linter.unusedVariables false
theorem updN_set {L : List Nd} {x : Nd} {k : Nat} (hs : Srt L) (hk : L[k]? = some x) (g : Nd → Nd) : updN L x.id g = L.set k (g x) := by
  apply List.ext_getElem?
  intro j
  unfold updN
  rw [List.getElem?_map, List.getElem?_set]
  by_cases e : k = j
  · subst e
    rw [hk]
    simp [(List.getElem?_eq_some_iff.1 hk).1]
  · rw [if_neg e]
    cases hj : L[j]? with
    | none => rfl
    | some y =>
      have hne : y.id ≠ x.id := by
        rcases Nat.lt_or_gt_of_ne e with h | h
        · have := srt_lt hs hk hj h; omega
        · have := srt_lt hs hj hk h; omega
      simp [hne]
theorem rfC_set {r d : Int → Nat} {L : List Nd} {x y : Nd} {k : Nat} (hk : L[k]? = some x) (h : ndC y (r y.id) (d y.id) = ndC x (r x.id) (d x.id)) : rfC r d (L.set k y) = rfC r d L := by
  induction L generalizing k with
  | nil => rfl
  | cons a l ih =>
    cases k with
    | zero =>
      simp at hk
      subst hk
      rw [List.set_cons_zero, rfC_cons, rfC_cons, h]
    | succ i => rw [List.set_cons_succ, rfC_cons, rfC_cons, ih (by simpa using hk)]
theorem rfC_fin {r d : Int → Nat} {L : List Nd} {x : Nd} {k : Nat} (hk : L[k]? = some x) : (rfC r d L).set (k * 5 + 4) (.bool false) = rfC r d (L.set k { x with fin := false }) := by
  induction L generalizing k with
  | nil => rfl
  | cons a l ih =>
    cases k with
    | zero =>
      simp at hk
      subst hk
      rw [List.set_cons_zero, rfC_cons, rfC_cons]
      rfl
    | succ i =>
      have hp : (ndC a (r a.id) (d a.id)).length = 5 := rfl
      rw [List.set_cons_succ, rfC_cons, rfC_cons, List.set_append_right _ _ (by omega), hp, show (i + 1) * 5 + 4 - 5 = i * 5 + 4 by omega, ih (by simpa using hk)]
theorem mem_set_ne {L : List Nd} {x y q : Nd} {k : Nat} (hs : Srt L) (hk : L[k]? = some x) (hq : q ∈ L.set k y) : q = y ∨ (q ∈ L ∧ q.id ≠ x.id) := by
  obtain ⟨j, hj, rfl⟩ := List.getElem_of_mem hq
  by_cases e : k = j
  · subst e
    left
    simp
  · right
    rw [List.getElem_set_ne e]
    have hjl : j < L.length := by simpa using hj
    have h1 : L[j]? = some L[j] := List.getElem?_eq_getElem hjl
    refine ⟨List.getElem_mem _, ?_⟩
    rcases Nat.lt_or_gt_of_ne e with h | h
    · have := srt_lt hs hk h1 h; omega
    · have := srt_lt hs h1 hk h; omega
section
variable {w w' : World} {z q : Nat} {T U : Nat → Prop} {cv v : Value} {r d : Int → Nat} {ow : Nat → Int} {L : List Nd} {x y : Nd} {k : Nat} {i t t0 : Int} {cs : List Cl} {a : Option Addr} {len cap : Nat}
/-- One node's references or numbers change, in its own blocks. -/
theorem Rf.upd (h : Rf w z T q cv v r d ow L) (hs : Srt L) (hk : L[k]? = some x) (h1 : 1 ≤ x.id) (hid : y.id = x.id) (hc : ndC y (r x.id) (d x.id) = ndC x (r x.id) (d x.id)) (c : Chg U w w') (hU : ∀ j, U j → T j ∧ ow j = x.id)
    (hb : Blk w' (r x.id) 3 (ints y.refs) ∧ Blk w' (d x.id) 3 (ints y.data)) : Rf w' z T q cv v r d ow (L.set k y) := by
  have hx := List.mem_of_getElem? hk
  have o0 : ∀ j, ow j = 0 → ¬ U j := fun j e hj => by have := (hU j hj).2; omega
  refine ⟨h.blk.chg c (o0 _ h.oq), ?_, h.ov, h.tq, h.oq, fun k hk => ⟨(h.t k hk).1, Nat.lt_of_lt_of_le (h.t k hk).2 c.size⟩, fun p hp => ?_⟩
  · rw [rfC_set hk (by rw [hid]; exact hc), List.length_set]
    exact own_chg h.own c fun j hj => o0 _ (h.ov j hj).2.1
  · rcases mem_set_ne hs hk hp with rfl | ⟨hp, hne⟩
    · rw [hid]
      exact ⟨hb, (h.nds x hx).2⟩
    · obtain ⟨⟨h1, h2⟩, h3, ⟨h4, h5⟩, h6⟩ := h.nds p hp
      exact ⟨⟨h1.chg c fun e => hne (by rw [← h4]; exact (hU _ e).2), h2.chg c fun e => hne (by rw [← h5]; exact (hU _ e).2)⟩, h3, ⟨h4, h5⟩, h6⟩
theorem Rf.setRef (h : Rf w z T q cv v r d ow L) (hs : Srt L) (hk : L[k]? = some x) (h1 : 1 ≤ x.id) (j : Nat) (t : Int) : Rf (w.setCell ⟨r x.id, j, none⟩ (.int .i64 t)) z T q cv v r d ow (L.set k { x with refs := x.refs.set j t }) := by
  obtain ⟨⟨b1, b2⟩, ⟨t1, t2⟩, ⟨o1, o2⟩, hne⟩ := h.nds x (List.mem_of_getElem? hk)
  refine h.upd hs hk h1 rfl (by simp [ndC]) ((Chg.refl (· = r x.id) w).set1 _ _) (fun j hj => by subst hj; exact ⟨t1, o1⟩) ⟨?_, b2.far (fun e => hne e.symm) _⟩
  show Blk _ _ _ (ints (x.refs.set j t))
  rw [← ints_set]
  exact b1.set_ j _
theorem Rf.setNum (h : Rf w z T q cv v r d ow L) (hs : Srt L) (hk : L[k]? = some x) (h1 : 1 ≤ x.id) (j : Nat) (t : Int) : Rf (w.setCell ⟨d x.id, j, none⟩ (.int .i64 t)) z T q cv v r d ow (L.set k { x with data := x.data.set j t }) := by
  obtain ⟨⟨b1, b2⟩, ⟨t1, t2⟩, ⟨o1, o2⟩, hne⟩ := h.nds x (List.mem_of_getElem? hk)
  refine h.upd hs hk h1 rfl (by simp [ndC]) ((Chg.refl (· = d x.id) w).set1 _ _) (fun j hj => by subst hj; exact ⟨t2, o2⟩) ⟨b1.far hne _, ?_⟩
  show Blk _ _ _ (ints (x.data.set j t))
  rw [← ints_set]
  exact b2.set_ j _
theorem Rf.done {g n c : Nat} (h : Rf w z T q cv (.slice (some ⟨g, 0, none⟩) n c) r d ow L) (hs : Srt L) (hk : L[k]? = some x) (h1 : ∀ p ∈ L, 1 ≤ p.id) : Rf (w.setCell ⟨g, k * 5 + 4, none⟩ (.bool false)) z T q cv (.slice (some ⟨g, 0, none⟩) n c) r d ow (L.set k { x with fin := false }) := by
  have hg := h.ov g rfl
  have c := (Chg.refl (· = g) w).set1 (k * 5 + 4) (.bool false)
  obtain ⟨a, c', e⟩ := h.val
  injection e with _ e _
  subst e
  have hL : (L.set k { x with fin := false }).length = L.length := List.length_set
  refine ⟨h.blk.chg c (fun e => hg.2.2 e.symm), ?_, h.ov, h.tq, h.oq, fun k hk => ⟨(h.t k hk).1, Nat.lt_of_lt_of_le (h.t k hk).2 c.size⟩, fun p hp => ?_⟩
  · rw [hL, ← rfC_fin hk]
    exact (h.own.stored (k * 5 + 4) (.bool false)).1
  · have key : ∀ p ∈ L, (Blk (w.setCell ⟨g, k * 5 + 4, none⟩ (.bool false)) (r p.id) 3 (ints p.refs) ∧ Blk (w.setCell ⟨g, k * 5 + 4, none⟩ (.bool false)) (d p.id) 3 (ints p.data)) ∧ (T (r p.id) ∧ T (d p.id)) ∧ (ow (r p.id) = p.id ∧ ow (d p.id) = p.id) ∧ r p.id ≠ d p.id := fun p hp => by
      obtain ⟨⟨b1, b2⟩, h3, ⟨o1, o2⟩, h6⟩ := h.nds p hp
      have h1p := h1 p hp
      exact ⟨⟨b1.chg c (fun e => by have e' : r p.id = g := e; rw [e', hg.2.1] at o1; omega), b2.chg c (fun e => by have e' : d p.id = g := e; rw [e', hg.2.1] at o2; omega)⟩, h3, ⟨o1, o2⟩, h6⟩
    rcases mem_set_ne hs hk hp with rfl | ⟨hp, hne⟩
    · exact key x (List.mem_of_getElem? hk)
    · exact key p hp
set_option maxRecDepth 100000 in
set_option maxHeartbeats 1000000 in
theorem setref_r (h : RG w z T q cv L) (ho : Lok cs L) (hl : L.length < 1000000) :
    Calls Try.prog 20 #[ptr q, .int .i64 i, .int .i64 t0, .int .i64 t] w fun e w' => e = .returned (.int .i64 (srX L i t0 t)) ∧ Chg T w w' ∧ RG w' z T q cv (srL L i t0 t) := by
  have H := hide h
  cases hn : nd L i with
  | none =>
    have HX := hide (show srX L i t0 t = 7 by unfold srX; rw [hn])
    have HY := hide (show srL L i t0 t = L by unfold srL; rw [HX.out]; rfl)
    have HA := hide (at_no h hn hl)
    clear h ho hl hn
    go_enter Try.func20, Try.ntmps20
    go_wp2_with fail
    refine HA.out.mono ?_
    rintro e w1 ⟨rfl, rfl⟩
    go_wp2
    go_ret
    rw [HX.out, HY.out]
    exact ⟨rfl, Chg.refl _ _, H.out⟩
  | some x =>
    obtain ⟨k, hk, hkl⟩ := nd_at hn
    obtain ⟨hx, rfl⟩ := nd_some hn
    have h1 := (ho.2 x hx).id1
    have hrl := (ho.2 x hx).rl
    have HA := hide (at_yes h ho.1 hk hl)
    have HO := hide ho.1
    have HK := hide hk
    obtain ⟨v, r, d, ow, hf⟩ := h
    obtain ⟨g, vc, rfl, -, -, -, -, -, x2, -⟩ := hf.at_ hk
    have c1 := hf.cell1
    have HF := hide hf
    obtain ⟨n, hnn⟩ : ∃ n, L.length = n := ⟨_, rfl⟩
    obtain ⟨m, hm⟩ : ∃ m, x.refs.length = m := ⟨_, rfl⟩
    rw [hnn] at c1 hkl
    rw [hm] at x2 hrl
    have q0 : decide ((k : Int) < 0) = false := decide_eq_false (by omega)
    have q1 : decide ((k : Int) < (n : Int)) = true := decide_eq_true (by omega)
    have hX : srX L x.id t0 t = if t0 < 0 ∨ (m : Int) ≤ t0 then 1 else if t ≠ 0 ∧ nd L t = none then 7 else 0 := by unfold srX; rw [hn, ← hm]
    have hU := updN_set ho.1 hk (fun x => { x with refs := x.refs.set t0.toNat t })
    have HL := hide hl
    have HIX := hide (show ∀ j : Nat, j < m → w.cell? ⟨r x.id, j, none⟩ = some (.int .i64 (x.refs.getD j 0)) from fun j hj => ((hf.nds x hx).1.1.cell j).trans (ints_get _ _ (by rw [hm]; exact hj)))
    have HN1 := hide h1
    clear hf ho hn hx hk hnn hm h1 hl
    by_cases hb : t0 < 0 ∨ (m : Int) ≤ t0
    · rw [if_pos hb] at hX
      have HX := hide hX
      have HY := hide (show srL L x.id t0 t = L by unfold srL; rw [hX]; rfl)
      clear hX hU
      by_cases h0 : t0 < 0
      · have q2 : decide (t0 < 0) = true := decide_eq_true h0
        clear hb h0
        go_enter Try.func20, Try.ntmps20
        go_wp2_with fail
        refine HA.out.mono ?_
        rintro e w1 ⟨rfl, rfl⟩
        go_wp2
        go_ret
        rw [HX.out, HY.out]
        exact ⟨rfl, Chg.refl _ _, H.out⟩
      · have q2 : decide (t0 < 0) = false := decide_eq_false h0
        have q3 : decide (t0 ≥ (m : Int)) = true := decide_eq_true (by omega)
        clear hb h0
        go_enter Try.func20, Try.ntmps20
        go_wp2_with fail
        refine HA.out.mono ?_
        rintro e w1 ⟨rfl, rfl⟩
        go_wp2
        go_ret
        rw [HX.out, HY.out]
        exact ⟨rfl, Chg.refl _ _, H.out⟩
    · rw [if_neg hb] at hX
      have q2 : decide (t0 < 0) = false := decide_eq_false (by omega)
      have q3 : decide (t0 ≥ (m : Int)) = false := decide_eq_false (by omega)
      obtain ⟨j, hj⟩ := Int.eq_ofNat_of_zero_le (show 0 ≤ t0 by omega)
      have hjm : j < m := by omega
      subst hj
      rw [Int.toNat_natCast] at hU
      clear hb
      by_cases ht : t = 0
      · subst ht
        rw [if_neg (by simp)] at hX
        have q4 : ((0 : Int) != 0) = false := rfl
        have HX := hide hX
        have HY := hide (show srL L x.id (j : Int) 0 = L.set k { x with refs := x.refs.set j 0 } by unfold srL; rw [hX]; exact hU)
        have yj := HIX.out j hjm
        have hnd := HF.out.nds x (List.mem_of_getElem? HK.out)
        have hfz := hnd.1.1.frozen j
        have HNEW := hide (HF.out.setRef HO.out HK.out HN1.out j 0)
        have HCH := hide (show Chg T w (w.setCell ⟨r x.id, j, none⟩ (.int .i64 0)) from (Chg.refl T w).setCell (fun _ => hnd.2.1.1) _)
        generalize x.refs.getD j 0 = u at *
        generalize r x.id = rb at *
        clear hX hU hnd
        go_enter Try.func20, Try.ntmps20
        go_wp2_with fail
        refine HA.out.mono ?_
        rintro e w1 ⟨rfl, rfl⟩
        go_wp2
        go_ret
        rw [HX.out, HY.out]
        exact ⟨rfl, HCH.out, _, _, _, _, HNEW.out⟩
      · have q4 : (t != 0) = true := by simpa using ht
        cases hnt : nd L t with
        | none =>
          rw [if_pos ⟨ht, hnt⟩] at hX
          have HX := hide hX
          have HY := hide (show srL L x.id (j : Int) t = L by unfold srL; rw [hX]; rfl)
          have HA2 := hide (at_no H.out hnt HL.out)
          clear hX hU ht hnt
          go_enter Try.func20, Try.ntmps20
          go_wp2_with fail
          refine HA.out.mono ?_
          rintro e w1 ⟨rfl, rfl⟩
          go_wp2_with fail
          refine HA2.out.mono ?_
          rintro e w1 ⟨rfl, rfl⟩
          go_wp2
          go_ret
          rw [HX.out, HY.out]
          exact ⟨rfl, Chg.refl _ _, H.out⟩
        | some y =>
          rw [if_neg (fun h => by rw [hnt] at h; cases h.2)] at hX
          obtain ⟨k2, hk2, -⟩ := nd_at hnt
          obtain ⟨-, rfl⟩ := nd_some hnt
          have HA2 := hide (at_yes H.out HO.out hk2 HL.out)
          have q5 : decide ((k2 : Int) < 0) = false := decide_eq_false (by omega)
          have HX := hide hX
          have HY := hide (show srL L x.id (j : Int) y.id = L.set k { x with refs := x.refs.set j y.id } by unfold srL; rw [hX]; exact hU)
          have yj := HIX.out j hjm
          have hnd := HF.out.nds x (List.mem_of_getElem? HK.out)
          have hfz := hnd.1.1.frozen j
          have HNEW := hide (HF.out.setRef HO.out HK.out HN1.out j y.id)
          have HCH := hide (show Chg T w (w.setCell ⟨r x.id, j, none⟩ (.int .i64 y.id)) from (Chg.refl T w).setCell (fun _ => hnd.2.1.1) _)
          generalize x.refs.getD j 0 = u at *
          generalize r x.id = rb at *
          clear hX hU hnd
          clear hk2 hnt ht
          generalize y.id = t at *
          go_enter Try.func20, Try.ntmps20
          go_wp2_with fail
          refine HA.out.mono ?_
          rintro e w1 ⟨rfl, rfl⟩
          go_wp2_with fail
          refine HA2.out.mono ?_
          rintro e w1 ⟨rfl, rfl⟩
          go_wp2
          go_ret
          rw [HX.out, HY.out]
          exact ⟨rfl, HCH.out, _, _, _, _, HNEW.out⟩
end
end Go.Proofs.Ytjofdamobnemcaa.L9

/- What scan does: all that lies somewhere new has its references led on. Conditions: none of them is led on yet. -/
import Derived.WalkMore
import Derived.Test.YtogfjclmohpjkaaGreatDoorL15Q
namespace Go.Proofs.YtogfjclmohpjkaaGreatDoor.L15
open Go.ChangeShapes Go.WideShapes Go.ChangeAt Go.RowKit Go.Shelf
open Go.Proofs.YtogfjclmohpjkaaGreatDoor.L1 (Sl Ar ptr exB)
open Go.Proofs.YtogfjclmohpjkaaGreatDoor.L5 (Cl clV rtB Tb clAt shX shR shD)
open Go.Proofs.YtogfjclmohpjkaaGreatDoor.L6 (Th th0 stV St fdT fdX obT obX slX slP slV gw Wk)
set_option linter.unusedVariables false
set_option maxRecDepth 100000
theorem least {P : Nat → Prop} : ∀ k, P k → ∃ j, P j ∧ ∀ i, P i → j ≤ i := by
  intro k
  induction k using Nat.strongRecOn with
  | _ k ih =>
    intro hk
    by_cases h : ∃ i, i < k ∧ P i
    · obtain ⟨i, hi, hp⟩ := h
      exact ih i hi hp
    · exact ⟨k, hk, fun i hi => Nat.le_of_not_lt fun hlt => h ⟨i, hlt, hi⟩⟩
/-- A goto back, by a measure that need not be read off the memory. -/
theorem wp_scope_ghost {P : Program} {a : Act} {w : World} {Q : Exit → Act → World → Prop} {c rest : Code} (l : Nat) (R : Act → World → Nat → Prop) (hf : findLabel c l = some rest)
    (first : c.wp P (Exit.jump l (fun a' w' => ∃ k, R a' w' k) Q) a w)
    (pass : ∀ a w k, R a w k → rest.wp P (Exit.jump l (fun a' w' => ∃ k', k' < k ∧ R a' w' k') Q) a w) : (Code.scope c).wp P Q a w := by
  have hm : ∀ a w, ∃ m, (∃ k, R a w k) → R a w m ∧ ∀ i, R a w i → m ≤ i := fun a w => by
    by_cases h : ∃ k, R a w k
    · obtain ⟨k, hk⟩ := h
      obtain ⟨j, h1, h2⟩ := least k hk
      exact ⟨j, fun _ => ⟨h1, h2⟩⟩
    · exact ⟨0, fun h' => absurd h' h⟩
  refine wp_scope_jumps l (fun a w => ∃ k, R a w k) (fun a w => Classical.choose (hm a w)) hf first fun a w hJ => ?_
  have h1 := (Classical.choose_spec (hm a w)) hJ
  refine Code.wp_mono ?_ (pass a w _ h1.1)
  intro e a' w' hq
  cases e with
  | goto l' =>
    obtain ⟨e, k', hk, hr⟩ := hq
    exact ⟨e, ⟨k', hr⟩, Nat.lt_of_le_of_lt ((Classical.choose_spec (hm a' w') ⟨k', hr⟩).2 k' hr) hk⟩
  | _ => exact hq
/-- Of what lies in a stretch, the first ones are dealt with up to an address; none of the others is begun. -/
structure Half (s : Mst) (cs : List Cl) (F E : Int) (L : List Int) (at_ : Int) : Prop where
  ex : ∃ A B, L = A ++ B ∧ Seg s.xs cs s.ob F A at_ ∧ Seg s.xs cs s.ob at_ B E ∧ (∀ x ∈ A, (s.ob x).rs.length ≤ s.dn x) ∧ (∀ x ∈ B, s.dn x = 0)
section
variable {f : Fx} {s s' : Mst} {b x F E at_ : Int} {L : List Int} {cs : List Cl} {xs0 : List Int}
theorem Half.start (h : Seg s.xs cs s.ob F L E) (hd : ∀ x ∈ L, s.dn x = 0) : Half s cs F E L F := ⟨[], L, rfl, rfl, h, (fun x h => by cases h), hd⟩
theorem Half.bd (h : Half s cs F E L at_) : F ≤ at_ ∧ at_ ≤ E := by
  obtain ⟨A, B, -, h1, h2, -⟩ := h.ex
  exact ⟨h1.le, h2.le⟩
theorem Half.done (h : Half s cs F E L at_) (he : E ≤ at_) : ∀ x ∈ L, (s.ob x).rs.length ≤ s.dn x := by
  obtain ⟨A, B, e, h1, h2, h3, h4⟩ := h.ex
  have hB : B = [] := by
    cases B with
    | nil => rfl
    | cons y B =>
      have := h2.bd (List.mem_cons_self ..)
      have := h2.1
      have := sz_pos (s.ob y)
      omega
  subst hB
  rw [e, List.append_nil]
  exact h3
/-- The next one. -/
theorem Half.next (h : Half s cs F E L at_) (hlt : at_ < E) : at_ ∈ L ∧ s.dn at_ = 0 := by
  obtain ⟨A, B, e, h1, h2, h3, h4⟩ := h.ex
  cases B with
  | nil => have : at_ = E := h2; omega
  | cons y B =>
    have hy : y = at_ := h2.1
    subst hy
    exact ⟨by rw [e]; exact List.mem_append_right _ (List.mem_cons_self ..), h4 y (List.mem_cons_self ..)⟩
theorem Seg.trim {xs ys : List Int} {ob ob' : Int → Ob} {a c b' : Int} {A B l : List Int} (h : Seg xs cs ob a A c) (k : Seg ys cs ob' a ((A ++ B) ++ l) b') (hs : ∀ x ∈ A, (ob' x).sz = (ob x).sz) : Seg ys cs ob' a A c ∧ Seg ys cs ob' c (B ++ l) b' := by
  rw [List.append_assoc] at k
  obtain ⟨c', k1, k2⟩ := k.cut
  have e1 := h.sum
  have e2 := k1.sum
  have : szs ob' A = szs ob A := szs_congr hs
  obtain rfl : c' = c := by omega
  exact ⟨k1, k2⟩
/-- One more is dealt with, in this stretch (y) or in another one. -/
theorem Half.step {E' : Int} {l : List Int} (h : Half s cs F E L at_) (hs : Seg s'.xs cs s'.ob F (L ++ l) E') (hnd : L.Nodup) (hx : x = at_ ∧ at_ < E ∧ (s'.ob x).rs.length ≤ s'.dn x ∨ x ∉ L)
    (hdn : ∀ z ∈ L, z ≠ x → s'.dn z = s.dn z) (hsz : ∀ z ∈ L, (s'.ob z).rs.length = (s.ob z).rs.length ∧ (s'.ob z).sz = (s.ob z).sz) (hnw : ∀ z ∈ l, s'.dn z = 0) :
    Half s' cs F E' (L ++ l) (if x = at_ ∧ at_ < E then at_ + (s.ob x).sz else at_) := by
  obtain ⟨A, B, e, h1, h2, h3, h4⟩ := h.ex
  subst e
  have key := h1.trim hs fun z hz => (hsz z (List.mem_append_left _ hz)).2
  rw [List.nodup_append] at hnd
  rcases hx with ⟨rfl, hlt, hdone⟩ | hno
  · rw [if_pos ⟨rfl, hlt⟩]
    cases B with
    | nil => have : x = E := h2; omega
    | cons y B =>
      have hy : y = x := h2.1
      subst hy
      have k2 := key.2
      have hyA : y ∉ A := fun hm => hnd.2.2 y hm y (List.mem_cons_self ..) rfl
      have hyB : y ∉ B := (List.nodup_cons.1 hnd.2.1).1
      have hsy := (hsz y (List.mem_append_right _ (List.mem_cons_self ..))).2
      refine ⟨A ++ [y], B ++ l, by simp, ?_, ?_, fun z hz => ?_, fun z hz => ?_⟩
      · have := key.1.app (Seg.one k2.2.1)
        rwa [hsy] at this
      · have := k2.2.2
        rwa [hsy] at this
      · rcases List.mem_append.1 hz with hz | hz
        · have hne : z ≠ y := fun e => hyA (e ▸ hz)
          rw [hdn z (List.mem_append_left _ hz) hne, (hsz z (List.mem_append_left _ hz)).1]
          exact h3 z hz
        · rw [List.mem_singleton.1 hz]; exact hdone
      · rcases List.mem_append.1 hz with hz | hz
        · have hne : z ≠ y := fun e => hyB (e ▸ hz)
          rw [hdn z (List.mem_append_right _ (List.mem_cons_of_mem _ hz)) hne]
          exact h4 z (List.mem_cons_of_mem _ hz)
        · exact hnw z hz
  · have hcond : ¬ (x = at_ ∧ at_ < E) := fun hc => by
      cases B with
      | nil => have : at_ = E := h2; omega
      | cons y B => exact hno (by rw [hc.1]; exact List.mem_append_right _ (by rw [← h2.1]; exact List.mem_cons_self ..))
    rw [if_neg hcond]
    refine ⟨A, B ++ l, by simp, key.1, key.2, fun z hz => ?_, fun z hz => ?_⟩
    · have hm := List.mem_append_left B hz
      rw [hdn z hm (fun e => hno (e ▸ hm)), (hsz z hm).1]
      exact h3 z hz
    · rcases List.mem_append.1 hz with hz | hz
      · have hm := List.mem_append_right A hz
        rw [hdn z hm (fun e => hno (e ▸ hm))]
        exact h4 z hz
      · exact hnw z hz
end
section
variable {w w' W : World} {tp : Option Addr} {g n b z mb mg k : Nat} {f : Fx} {s : Mst} {xs0 : List Int} {a : Int}
/-- What holds at the label. -/
structure Lb (w W : World) (f : Fx) (s0 s : Mst) (z b : Nat) (tp : Option Addr) (g mb mg : Nat) (to old : Int) : Prop where
  i : Inv f s
  m : Mg W f s z b tp g mb mg
  t : Half s f.cs f.y.TF s.tt s.LT to
  o : Half s f.cs f.y.OF s.ot (f.OS ++ s.PO) old
  mv : ∀ a, mvA s0.mv a ≠ 0 → mvA s.mv a = mvA s0.mv a
  po : ∃ l, s.PO = s0.PO ++ l
  lt : ∃ l, s.LT = s0.LT ++ l
  c : ChM g mb mg w W
theorem Inv.two (wf : Wf f xs0) (hI : Inv f s) {x : Int} (h1 : x ∈ f.OS ++ s.PO) (h2 : x ∈ s.LT) : False := by
  have k1 := hI.ob_ h1
  have k2 := hI.tb_ h2
  have := sz_pos (s.ob x)
  have := wf.ok.ot.ap k1 k2 (by omega) (by omega)
  omega
/-- One more is dealt with. -/
theorem Lb.next {s0 s' : Mst} {to old x : Int} (wf : Wf f xs0) (h : Lb w W f s0 s z b tp g mb mg to old) (hx : x ∈ (f.OS ++ s.PO) ++ s.LT) (hi : Inv f s') (hm : Mg w' f s' z b tp g mb mg) (he : Ext2 f s s' x) (hd : (s.ob x).rs.length ≤ s'.dn x) (hc : ChM g mb mg W w')
    (ht : (x = to ∧ to < s.tt) ∨ x ∉ s.LT) (ho : (x = old ∧ old < s.ot) ∨ x ∉ f.OS ++ s.PO) :
    Lb w w' f s0 s' z b tp g mb mg (if x = to ∧ to < s.tt then to + (s.ob x).sz else to) (if x = old ∧ old < s.ot then old + (s.ob x).sz else old) := by
  obtain ⟨l1, e1⟩ := he.po
  obtain ⟨l2, e2⟩ := he.lt
  have hnew : ∀ y, y ∈ l1 ∨ y ∈ l2 → s'.dn y = 0 := fun y hy => by
    have hy' : y ∈ (f.OS ++ s'.PO) ++ s'.LT := by
      rw [e1, e2]
      simp only [List.mem_append]
      rcases hy with hy | hy
      · exact .inl (.inr (.inr hy))
      · exact .inr (.inr hy)
    refine he.nw y hy' fun hm => ?_
    have hnO := hi.so.nodup
    have hnT := hi.st.nodup
    rw [e1, ← List.append_assoc, List.nodup_append] at hnO
    rw [e2, List.nodup_append] at hnT
    rcases hy with hy | hy
    · rcases List.mem_append.1 hm with hm | hm
      · exact hnO.2.2 y hm y hy rfl
      · exact hi.two wf (x := y) (by rw [e1]; simp [hy]) (by rw [e2]; exact List.mem_append_left _ hm)
    · rcases List.mem_append.1 hm with hm | hm
      · exact hi.two wf (x := y) (by rw [e1, ← List.append_assoc]; exact List.mem_append_left _ hm) (by rw [e2]; exact List.mem_append_right _ hy)
      · exact hnT.2.2 y hm y hy rfl
  have hdx : (s'.ob x).rs.length ≤ s'.dn x := by rw [(he.sz x hx).1]; exact hd
  have hT : ∀ y ∈ s.LT, y ∈ (f.OS ++ s.PO) ++ s.LT := fun y hy => List.mem_append_right _ hy
  have hO : ∀ y ∈ f.OS ++ s.PO, y ∈ (f.OS ++ s.PO) ++ s.LT := fun y hy => List.mem_append_left _ hy
  refine ⟨hi, hm, ?_, ?_, fun a ha => ?_, ?_, ?_, h.c.trans hc⟩
  · have hs := hi.st
    rw [e2] at hs ⊢
    exact h.t.step hs h.i.st.nodup (ht.imp (fun hc => ⟨hc.1, hc.2, hdx⟩) id) (fun y hy hne => he.dn y (hT y hy) hne) (fun y hy => he.sz y (hT y hy)) (fun y hy => hnew y (.inr hy))
  · have hs := hi.so
    rw [e1, ← List.append_assoc] at hs ⊢
    exact h.o.step hs h.i.so.nodup (ho.imp (fun hc => ⟨hc.1, hc.2, hdx⟩) id) (fun y hy hne => he.dn y (hO y hy) hne) (fun y hy => he.sz y (hO y hy)) (fun y hy => hnew y (.inl hy))
  · rw [he.mv a (by rw [h.mv a ha]; exact ha), h.mv a ha]
  · obtain ⟨l, e⟩ := h.po
    exact ⟨l ++ l1, by rw [e1, e, List.append_assoc]⟩
  · obtain ⟨l, e⟩ := h.lt
    exact ⟨l ++ l2, by rw [e2, e, List.append_assoc]⟩
/-- What scan comes to. -/
structure Scd (f : Fx) (s0 s : Mst) : Prop where
  i : Inv f s
  d : ∀ x ∈ (f.OS ++ s.PO) ++ s.LT, (s.ob x).rs.length ≤ s.dn x
  mv : ∀ a, mvA s0.mv a ≠ 0 → mvA s.mv a = mvA s0.mv a
set_option maxHeartbeats 4000000 in
theorem scan_any (wf : Wf f xs0) (hI : Inv f s) (hM : Mg w f s z b tp g mb mg) (hz : z ≤ w.heap.size) (hroom : (f.y.ET - f.y.EF) + (f.y.FT - f.y.FF) ≤ f.y.OE - f.y.OT) (hd : ∀ x ∈ (f.OS ++ s.PO) ++ s.LT, s.dn x = 0) :
    Calls Tryz.prog 42 #[ptr mb] w fun e w' => ∃ s', e = .returned (.tuple #[]) ∧ Scd f s s' ∧ Mg w' f s' z b tp g mb mg ∧ ChM g mb mg w w' := by
  have hlb0 : Lb w w f s s z b tp g mb mg f.y.TF f.y.OF := ⟨hI, hM, Half.start hI.st (fun x hx => hd x (List.mem_append_right _ hx)), Half.start hI.so (fun x hx => hd x (List.mem_append_left _ hx)), fun _ _ => rfl, ⟨[], by simp⟩, ⟨[], by simp⟩, Chg.refl _ _⟩
  have HWF := hide wf
  have HZ := hide hz
  have HRO := hide hroom
  have HLB := hide hlb0
  obtain ⟨-, m16, m17, m18, m19, m20, m21, -⟩ := mv_cells hM.bl
  clear wf hI hM hz hroom hd hlb0
  go_enter Tryz.func42, Tryz.ntmps42
  go_wp2_with fail
  refine wp_scope_ghost 0 (fun a' W' mu => ∃ (to old : Int) (sk : Mst), Lb w W' f s sk z b tp g mb mg to old ∧ 20000 - (to.toNat + old.toNat) = mu ∧ ∃ u1 u4 u5 u6 u7 u8 u9 u10 u11 u12 u13 u14 u15 u16 u17 u18 u19 u20 u21 u22 u23 u24 u25 u26 u27 u28 u29 u30 u31 u32 u33 u34 u35 u36 u37 : Value, a' = { tmps := #[ptr mb, u1, .int .i64 to, .int .i64 old, u4, u5, u6, u7, u8, u9, u10, u11, u12, u13, u14, u15, u16, u17, u18, u19, u20, u21, u22, u23, u24, u25, u26, u27, u28, u29, u30, u31, u32, u33, u34, u35, u36, u37], defers := [] }) rfl ?_ ?_
  · go_wp2_with fail
    refine wp_region_grow (by kernel_rfl) (by kernel_rfl) ?_
    repeat (
      with_reducible refine wpQuiet_step ?_
      intro K hK
      first
        | ((with_reducible refine quiet_offT rfl ?_ (hK _ ?_)); focus (refine ⟨_, rfl, ?_⟩; with_reducible rfl))
        | ((with_reducible refine quiet_offF rfl ?_ (hK _ ?_)); focus (refine ⟨_, rfl, ?_⟩; with_reducible rfl))
        | ((with_reducible refine quiet_offN rfl ?_ (hK _ ?_)); focus (exact rfl))
        | ((first | with_reducible refine quiet_free rfl ?_ | ((with_reducible refine quiet_on rfl ?_ ?_); focus (refine ⟨_, rfl, ?_⟩; with_reducible rfl)))
           apply Exists.intro
           refine ⟨fun Wq hW => ?_, hK _ ?_⟩
           focus (have q0 := Grow.cell hW m16; have q1 := Grow.cell hW m19; go_simp; first | done | with_reducible rfl))
      clear hK K
      simp only [Act.put, List.setIfInBounds_toArray, List.set_cons_zero, List.set_cons_succ])
    with_reducible refine wpQuiet_nil ?_
    intro w3 c3
    clear m16 m17 m18 m19 m20 m21
    have hlb3 : Lb w w3 f s s z b tp g mb mg f.y.TF f.y.OF := ⟨HLB.out.i, HLB.out.m.grow c3, HLB.out.t, HLB.out.o, HLB.out.mv, HLB.out.po, HLB.out.lt, c3.mono (fun _ _ h => h.elim)⟩
    clear c3
    obtain ⟨to, hto⟩ : ∃ to, f.y.TF = to := ⟨_, rfl⟩
    obtain ⟨old, hold⟩ : ∃ old, f.y.OF = old := ⟨_, rfl⟩
    rw [hto, hold] at hlb3
    have HTO := hide (And.intro hto hold)
    go_wp2_with fail
    rw [HTO.out.1, HTO.out.2]
    clear hto hold HTO HLB
    obtain ⟨sk, hsk⟩ : ∃ sk, s = sk := ⟨_, rfl⟩
    have hlb : Lb w w3 f s sk z b tp g mb mg to old := hsk ▸ hlb3
    clear hlb3 hsk
    go_step3
    obtain ⟨-, m16, m17, m18, m19, m20, m21, -⟩ := mv_cells hlb.m.bl
    have hbt := hlb.t.bd
    have hbo := hlb.o.bd
    have h4 := hlb.i.oo
    have h5 := hlb.i.tto
    have h6 := HWF.out.ok.o
    have h7 := HWF.out.ok.t
    by_cases h1 : to < sk.tt
    · have q1 : decide (to < sk.tt) = true := decide_eq_true h1
      obtain ⟨hin, hd0⟩ := hlb.t.next h1
      have hx := List.mem_append_right (f.OS ++ sk.PO) hin
      have hno : to ∉ f.OS ++ sk.PO := fun hm => hlb.i.two HWF.out hm hin
      have hszt := (hlb.i.tb_ hin).2
      have hp := sz_pos (sk.ob to)
      obtain ⟨q, hq⟩ : ∃ q, (sk.ob to).sz = q := ⟨_, rfl⟩
      have HLEAD := hide (lead_any HWF.out hlb.i hlb.m (Nat.le_trans HZ.out hlb.c.size) HRO.out hx hd0)
      rw [hq] at HLEAD hszt hp
      have hw : IntKind.i64.wrap (to + (q : Int)) = to + q := IntWalk.i64_in _ (by omega)
      have HN := hide (fun (w' : World) (s' : Mst) hi hm he hd hc => hlb.next (w' := w') (s' := s') (x := to) HWF.out hx hi hm he hd hc (.inl ⟨rfl, h1⟩) (.inr hno))
      rw [hq, if_pos ⟨rfl, h1⟩, if_neg (fun h => hno (by rw [h.1]; exact (hlb.o.next h.2).1))] at HN
      have HMU := hide (show 20000 - ((to + (q : Int)).toNat + old.toNat) < 20000 - (to.toNat + old.toNat) by omega)
      clear hlb hbt hbo h4 h5 h6 h7 hin hd0 hx hno hszt hp hq h1
      go_wp2_with fail
      clear m16 m17 m18 m19 m20 m21
      refine HLEAD.out.mono ?_
      rintro e w5 ⟨s', rfl, hi, hm, he, hd, hc⟩
      have HF := hide (HN.out _ _ hi hm he hd hc)
      clear hi hm he hd hc
      go_wp2
      go_step3
      (exact ⟨rfl, _, _, _, s', HF.out, rfl, _, _, _, _, _, _, _, _, _, _, _, _, _, _, _, _, _, _, _, _, _, _, _, _, _, _, _, _, _, _, _, _, _, _, _, rfl⟩)
    · have q1 : decide (to < sk.tt) = false := decide_eq_false h1
      by_cases h2 : old < sk.ot
      · have q2 : decide (old < sk.ot) = true := decide_eq_true h2
        obtain ⟨hin, hd0⟩ := hlb.o.next h2
        have hx := List.mem_append_left sk.LT hin
        have hno : old ∉ sk.LT := fun hm => hlb.i.two HWF.out hin hm
        have hszt := (hlb.i.ob_ hin).2
        have hp := sz_pos (sk.ob old)
        obtain ⟨q, hq⟩ : ∃ q, (sk.ob old).sz = q := ⟨_, rfl⟩
        have HLEAD := hide (lead_any HWF.out hlb.i hlb.m (Nat.le_trans HZ.out hlb.c.size) HRO.out hx hd0)
        rw [hq] at HLEAD hszt hp
        have hw : IntKind.i64.wrap (old + (q : Int)) = old + q := IntWalk.i64_in _ (by omega)
        have HN := hide (fun (w' : World) (s' : Mst) hi hm he hd hc => hlb.next (w' := w') (s' := s') (x := old) HWF.out hx hi hm he hd hc (.inr hno) (.inl ⟨rfl, h2⟩))
        rw [hq, if_neg (fun h => h1 h.2), if_pos ⟨rfl, h2⟩] at HN
        have HMU := hide (show 20000 - (to.toNat + (old + (q : Int)).toNat) < 20000 - (to.toNat + old.toNat) by omega)
        clear hlb hbt hbo h4 h5 h6 h7 hin hd0 hx hno hszt hp hq h1 h2
        go_wp2_with fail
        clear m16 m17 m18 m19 m20 m21
        refine HLEAD.out.mono ?_
        rintro e w5 ⟨s', rfl, hi, hm, he, hd, hc⟩
        have HF := hide (HN.out _ _ hi hm he hd hc)
        clear hi hm he hd hc
        go_wp2
        go_step3
        (exact ⟨rfl, _, _, _, s', HF.out, rfl, _, _, _, _, _, _, _, _, _, _, _, _, _, _, _, _, _, _, _, _, _, _, _, _, _, _, _, _, _, _, _, _, _, _, _, rfl⟩)
      · have q2 : decide (old < sk.ot) = false := decide_eq_false h2
        have HD := hide (show Scd f s sk from ⟨hlb.i, fun x hx => by
          rcases List.mem_append.1 hx with hx | hx
          · exact hlb.o.done (by omega) x hx
          · exact hlb.t.done (by omega) x hx, hlb.mv⟩)
        have HM2 := hide (And.intro hlb.m hlb.c)
        clear hlb hbt hbo h4 h5 h6 h7 h1 h2
        go_wp2
        simp only [Exit.jump]
        go_end0
        exact ⟨sk, rfl, HD.out, HM2.out.1, HM2.out.2⟩
  · rintro a' W mu ⟨to, old, sk, hlb, rfl, u1, u4, u5, u6, u7, u8, u9, u10, u11, u12, u13, u14, u15, u16, u17, u18, u19, u20, u21, u22, u23, u24, u25, u26, u27, u28, u29, u30, u31, u32, u33, u34, u35, u36, u37, rfl⟩
    obtain ⟨-, m16, m17, m18, m19, m20, m21, -⟩ := mv_cells hlb.m.bl
    have hbt := hlb.t.bd
    have hbo := hlb.o.bd
    have h4 := hlb.i.oo
    have h5 := hlb.i.tto
    have h6 := HWF.out.ok.o
    have h7 := HWF.out.ok.t
    by_cases h1 : to < sk.tt
    · have q1 : decide (to < sk.tt) = true := decide_eq_true h1
      obtain ⟨hin, hd0⟩ := hlb.t.next h1
      have hx := List.mem_append_right (f.OS ++ sk.PO) hin
      have hno : to ∉ f.OS ++ sk.PO := fun hm => hlb.i.two HWF.out hm hin
      have hszt := (hlb.i.tb_ hin).2
      have hp := sz_pos (sk.ob to)
      obtain ⟨q, hq⟩ : ∃ q, (sk.ob to).sz = q := ⟨_, rfl⟩
      have HLEAD := hide (lead_any HWF.out hlb.i hlb.m (Nat.le_trans HZ.out hlb.c.size) HRO.out hx hd0)
      rw [hq] at HLEAD hszt hp
      have hw : IntKind.i64.wrap (to + (q : Int)) = to + q := IntWalk.i64_in _ (by omega)
      have HN := hide (fun (w' : World) (s' : Mst) hi hm he hd hc => hlb.next (w' := w') (s' := s') (x := to) HWF.out hx hi hm he hd hc (.inl ⟨rfl, h1⟩) (.inr hno))
      rw [hq, if_pos ⟨rfl, h1⟩, if_neg (fun h => hno (by rw [h.1]; exact (hlb.o.next h.2).1))] at HN
      have HMU := hide (show 20000 - ((to + (q : Int)).toNat + old.toNat) < 20000 - (to.toNat + old.toNat) by omega)
      clear hlb hbt hbo h4 h5 h6 h7 hin hd0 hx hno hszt hp hq h1
      go_wp2_with fail
      clear m16 m17 m18 m19 m20 m21
      refine HLEAD.out.mono ?_
      rintro e w5 ⟨s', rfl, hi, hm, he, hd, hc⟩
      have HF := hide (HN.out _ _ hi hm he hd hc)
      clear hi hm he hd hc
      go_wp2
      go_step3
      (exact ⟨rfl, _, HMU.out, _, _, s', HF.out, rfl, _, _, _, _, _, _, _, _, _, _, _, _, _, _, _, _, _, _, _, _, _, _, _, _, _, _, _, _, _, _, _, _, _, _, _, rfl⟩)
    · have q1 : decide (to < sk.tt) = false := decide_eq_false h1
      by_cases h2 : old < sk.ot
      · have q2 : decide (old < sk.ot) = true := decide_eq_true h2
        obtain ⟨hin, hd0⟩ := hlb.o.next h2
        have hx := List.mem_append_left sk.LT hin
        have hno : old ∉ sk.LT := fun hm => hlb.i.two HWF.out hin hm
        have hszt := (hlb.i.ob_ hin).2
        have hp := sz_pos (sk.ob old)
        obtain ⟨q, hq⟩ : ∃ q, (sk.ob old).sz = q := ⟨_, rfl⟩
        have HLEAD := hide (lead_any HWF.out hlb.i hlb.m (Nat.le_trans HZ.out hlb.c.size) HRO.out hx hd0)
        rw [hq] at HLEAD hszt hp
        have hw : IntKind.i64.wrap (old + (q : Int)) = old + q := IntWalk.i64_in _ (by omega)
        have HN := hide (fun (w' : World) (s' : Mst) hi hm he hd hc => hlb.next (w' := w') (s' := s') (x := old) HWF.out hx hi hm he hd hc (.inr hno) (.inl ⟨rfl, h2⟩))
        rw [hq, if_neg (fun h => h1 h.2), if_pos ⟨rfl, h2⟩] at HN
        have HMU := hide (show 20000 - (to.toNat + (old + (q : Int)).toNat) < 20000 - (to.toNat + old.toNat) by omega)
        clear hlb hbt hbo h4 h5 h6 h7 hin hd0 hx hno hszt hp hq h1 h2
        go_wp2_with fail
        clear m16 m17 m18 m19 m20 m21
        refine HLEAD.out.mono ?_
        rintro e w5 ⟨s', rfl, hi, hm, he, hd, hc⟩
        have HF := hide (HN.out _ _ hi hm he hd hc)
        clear hi hm he hd hc
        go_wp2
        go_step3
        (exact ⟨rfl, _, HMU.out, _, _, s', HF.out, rfl, _, _, _, _, _, _, _, _, _, _, _, _, _, _, _, _, _, _, _, _, _, _, _, _, _, _, _, _, _, _, _, _, _, _, _, rfl⟩)
      · have q2 : decide (old < sk.ot) = false := decide_eq_false h2
        have HD := hide (show Scd f s sk from ⟨hlb.i, fun x hx => by
          rcases List.mem_append.1 hx with hx | hx
          · exact hlb.o.done (by omega) x hx
          · exact hlb.t.done (by omega) x hx, hlb.mv⟩)
        have HM2 := hide (And.intro hlb.m hlb.c)
        clear hlb hbt hbo h4 h5 h6 h7 h1 h2
        go_wp2
        simp only [Exit.jump]
        go_end0
        exact ⟨sk, rfl, HD.out, HM2.out.1, HM2.out.2⟩
end
end Go.Proofs.YtogfjclmohpjkaaGreatDoor.L15

/- What a run comes to, told by a map of addresses: pure facts. Conditions: it is a run's end. -/
import Derived.Test.YtogfjclmohpjkaaGreatDoorL15X
namespace Go.Proofs.YtogfjclmohpjkaaGreatDoor.L15
open Go.Proofs.YtogfjclmohpjkaaGreatDoor.L5 (Cl)
set_option linter.unusedVariables false
/-- Where an address goes. -/
def ph (y : Yg) (mv : List Int) (r : Int) : Int := if y.isY r then mvA mv r else r
theorem Led.ph {y : Yg} {mv : List Int} {r r' : Int} (h : Led y mv r r') : r' = L15.ph y mv r := by
  unfold L15.ph
  rcases h with ⟨h, e⟩ | ⟨h, e, _⟩
  · rw [h, e]; rfl
  · rw [h, if_pos rfl, e]
/-- What goes on. -/
abbrev Dm (f : Fx) (s : Mst) (x : Int) : Prop := x ∈ f.OS ∨ x ∈ s.M
section
variable {f : Fx} {s : Mst} {xs0 : List Int} {x r : Int}
theorem ph_os (wf : Wf f xs0) (hx : x ∈ f.OS) : ph f.y s.mv x = x := by
  unfold ph
  rw [wf.oin hx]; rfl
theorem ph_m (wf : Wf f xs0) (h : Inv f s) (hx : x ∈ s.M) : ph f.y s.mv x = mvA s.mv x := by
  unfold ph
  rw [wf.yin (h.mm x hx).1, if_pos rfl]
theorem ph_0 (wf : Wf f xs0) : ph f.y s.mv 0 = 0 := by
  unfold ph
  rw [wf.ok.nin (.inl rfl)]; rfl
theorem ph_src (wf : Wf f xs0) (h : Inv f s) (hx : Dm f s x) : ph f.y s.mv x ∈ (f.OS ++ s.PO) ++ s.LT ∧ s.src (ph f.y s.mv x) = x := by
  rcases hx with hx | hx
  · rw [ph_os wf hx]
    exact ⟨List.mem_append_left _ (List.mem_append_left _ hx), (h.os x hx).1⟩
  · rw [ph_m wf h hx, List.append_assoc]
    exact ⟨List.mem_append_right _ (h.mm x hx).2.1, (h.mm x hx).2.2.1⟩
/-- A reference that is led on is 0, or goes on. -/
theorem led_D (wf : Wf f xs0) (h : Inv f s) {r' : Int} (hl : Led f.y s.mv r r') (hr : r = 0 ∨ r ∈ f.all) : r = 0 ∨ Dm f s r := by
  rcases hr with hr | hr
  · exact .inl hr
  · rcases List.mem_append.1 hr with ho | hy
    · exact .inr (.inl ho)
    · rcases hl with ⟨h1, _⟩ | ⟨_, h2, h3⟩
      · rw [wf.yin hy] at h1; cases h1
      · refine .inr (.inr (Classical.byContradiction fun hn => ?_))
        exact h3 (by rw [← h2]; exact (h.notM wf hy).2 hn)
theorem fin_img (wf : Wf f xs0) (h : Inv f s) (hd : ∀ x ∈ (f.OS ++ s.PO) ++ s.LT, (s.ob x).rs.length ≤ s.dn x) (hx : Dm f s x) :
    Img f.y s.mv (f.ob x).rs.length (f.ob x) (s.ob (ph f.y s.mv x)) := by
  obtain ⟨h1, h2⟩ := ph_src wf h hx
  have hi := h.im _ h1
  rw [h2] at hi
  have := hd _ h1
  exact ⟨hi.C, hi.l, hi.f, hi.d, hi.ds, hi.n, fun j hj hj2 => hi.led j (by rw [hi.n] at this; omega) hj2, fun j hj => by
    have e1 : (f.ob x).rs.getD j 0 = 0 := by simp [List.getD_eq_getElem?_getD, List.getElem?_eq_none hj]
    have e2 : (s.ob (ph f.y s.mv x)).rs.getD j 0 = 0 := by simp [List.getD_eq_getElem?_getD, List.getElem?_eq_none (show (s.ob (ph f.y s.mv x)).rs.length ≤ j by rw [hi.n]; exact hj)]
    rw [e1, e2]⟩
theorem rs_map {y : Yg} {mv zs rs : List Int} (hn : rs.length = zs.length) (hl : ∀ j, j < zs.length → Led y mv (zs.getD j 0) (rs.getD j 0)) : rs = zs.map (ph y mv) := by
  refine List.ext_getElem (by simp [hn]) fun j h1 h2 => ?_
  have := (hl j (by omega)).ph
  simp only [List.getD_eq_getElem?_getD, List.getElem?_eq_getElem h1, List.getElem?_eq_getElem (show j < zs.length by omega), Option.getD_some] at this
  simpa using this
theorem fin_clo (wf : Wf f xs0) (h : Inv f s) (hd : ∀ x ∈ (f.OS ++ s.PO) ++ s.LT, (s.ob x).rs.length ≤ s.dn x) : Clo f.ob (Dm f s) := by
  intro x hx r hr
  have hi := fin_img wf h hd hx
  obtain ⟨j, hj, e⟩ := List.getElem_of_mem hr
  have hl := hi.led j hj hj
  rw [show (f.ob x).rs.getD j 0 = r by simp [List.getD_eq_getElem?_getD, hj, e]] at hl
  exact led_D wf h hl (wf.cl x (by
    rcases hx with hx | hx
    · exact List.mem_append_left _ hx
    · exact List.mem_append_right _ (h.mm x hx).1) r hr)
theorem Inv.one (wf : Wf f xs0) (h : Inv f s) (hx : x ∈ (f.OS ++ s.PO) ++ s.LT) : 1 ≤ x := (h.pos wf (List.mem_append_right _ hx)).1
theorem fin_inj (wf : Wf f xs0) (h : Inv f s) : Inj (Dm f s) (ph f.y s.mv) := by
  refine ⟨ph_0 wf, fun a b ha hb e => ?_⟩
  rcases ha with rfl | ha <;> rcases hb with rfl | hb
  · rfl
  · rw [ph_0 wf] at e
    have := h.one wf (ph_src wf h hb).1
    omega
  · rw [ph_0 wf] at e
    have := h.one wf (ph_src wf h ha).1
    omega
  · rw [← (ph_src wf h ha).2, e, (ph_src wf h hb).2]
theorem fin_iso (wf : Wf f xs0) (h : Inv f s) (hd : ∀ x ∈ (f.OS ++ s.PO) ++ s.LT, (s.ob x).rs.length ≤ s.dn x) : Iso f.ob s.ob (Dm f s) (ph f.y s.mv) :=
  ⟨fin_inj wf h, fin_clo wf h hd, fun x hx => by
    have hi := fin_img wf h hd hx
    exact ⟨hi.C, hi.l, hi.f, hi.d, hi.ds, rs_map hi.n fun j hj => hi.led j hj hj⟩⟩
/-- What is reached goes on, if the roots do. -/
theorem rc_D (wf : Wf f xs0) (h : Inv f s) (hd : ∀ x ∈ (f.OS ++ s.PO) ++ s.LT, (s.ob x).rs.length ≤ s.dn x) (hz : ∀ r ∈ f.zs, r = 0 ∨ Dm f s r) (hx : Rc f x) : Dm f s x := by
  induction hx with
  | rt h1 h0 => exact (hz _ h1).resolve_left h0
  | ol h1 => exact .inl h1
  | go h1 h2 h0 ih => exact (fin_clo wf h hd _ ih _ h2).resolve_left h0
theorem zs_D (wf : Wf f xs0) (h : Inv f s) {rs : List Int} (hr : ∀ r ∈ f.zs, r = 0 ∨ r ∈ f.all) (hl : ∀ j, j < f.zs.length → Led f.y s.mv (f.zs.getD j 0) (rs.getD j 0)) : ∀ r ∈ f.zs, r = 0 ∨ Dm f s r := by
  intro r hm
  obtain ⟨j, hj, e⟩ := List.getElem_of_mem hm
  have := hl j hj
  rw [show f.zs.getD j 0 = r by simp [List.getD_eq_getElem?_getD, hj, e]] at this
  exact led_D wf h this (hr r hm)
/-- The spaces behind it can be. -/
theorem aft_ok (wf : Wf f xs0) (h : Inv f s) : (f.y.aft s.ot s.tt).Ok f.n := by
  obtain ⟨o, e, g, t, oe, of, ot, ef, et, ft, sz, th⟩ := wf.ok
  have h1 := h.oo
  have h2 := h.tto
  have h3 := h.st.le
  exact ⟨⟨o.1, by dsimp only; omega, h1.2, o.2.2.2.1, o.2.2.2.2⟩, ⟨e.1, by dsimp only; omega, by dsimp only; omega, e.2.2.2.1, e.2.2.2.2⟩, ⟨t.1, h3, h2, t.2.2.2.1, t.2.2.2.2⟩, ⟨g.1, rfl, by dsimp only; omega, g.2.2.2.1, g.2.2.2.2⟩,
    oe, ot, of, et, ef, ft.sym, by dsimp only; omega, th⟩
/-- What is given to the run behind it. -/
abbrev Fx.aft (f : Fx) (s : Mst) (zs : List Int) : Fx := ⟨f.n, f.cs, f.y.aft s.ot s.tt, s.ob, f.OS ++ s.PO, [], s.LT, zs⟩
theorem fin_from (wf : Wf f xs0) (h : Inv f s) {b : Int} (hb : b ∈ (f.OS ++ s.PO) ++ s.LT) : Dm f s (s.src b) ∧ ph f.y s.mv (s.src b) = b := by
  rcases List.mem_append.1 hb with hb' | hb'
  · rcases List.mem_append.1 hb' with hb'' | hb''
    · have := (h.os b hb'').1
      rw [this]
      exact ⟨.inl hb'', ph_os wf hb''⟩
    · obtain ⟨k1, k2, _⟩ := h.nw b (List.mem_append_left _ hb'')
      exact ⟨.inr k1, by rw [ph_m wf h k1, k2]⟩
  · obtain ⟨k1, k2, _⟩ := h.nw b (List.mem_append_right _ hb')
    exact ⟨.inr k1, by rw [ph_m wf h k1, k2]⟩
theorem fin_wf (wf : Wf f xs0) (h : Inv f s) (hd : ∀ x ∈ (f.OS ++ s.PO) ++ s.LT, (s.ob x).rs.length ≤ s.dn x) (zs : List Int) : Wf (f.aft s zs) s.xs := by
  refine ⟨h.n, wf.rt, aft_ok wf h, h.so, rfl, h.st, fun x hx r hr => ?_⟩
  have hx' : x ∈ (f.OS ++ s.PO) ++ s.LT := by simpa [Fx.all, Fx.YS] using hx
  obtain ⟨k1, k2⟩ := fin_from wf h hx'
  have ht := (fin_iso wf h hd).t _ k1
  rw [k2] at ht
  change r ∈ (s.ob x).rs at hr
  rw [ht.2.2.2.2.2] at hr
  obtain ⟨q, hq, rfl⟩ := List.mem_map.1 hr
  rcases fin_clo wf h hd _ k1 q hq with rfl | hD
  · exact .inl (ph_0 wf)
  · have := (ph_src wf h hD).1
    exact .inr (by simpa [Fx.all, Fx.YS] using this)
theorem lt_nil (h : Inv f s) (e : s.LT = []) : s.tt = f.y.TF := by
  have := h.st
  rw [e] at this
  exact (show f.y.TF = s.tt from this).symm
theorem fin_th0 (wf : Wf f xs0) (h : Inv f s) (e : f.y.th = 0) : s.LT = [] := by
  refine List.eq_nil_iff_forall_not_mem.2 fun b hb => ?_
  have h1 := (h.ag b hb).2
  have h2 := h.mm _ (h.nw b (List.mem_append_right _ hb)).1
  have h3 := ((wf.at_ (List.mem_append_right _ h2.1)).ok.bd wf.rt).2.2.2.2.1
  omega
theorem fin_old (h : Inv f s) (hk : ∀ x ∈ f.YS, f.y.th ≤ (f.ob x).A) : s.LT = [] := by
  refine List.eq_nil_iff_forall_not_mem.2 fun b hb => ?_
  have h1 := (h.ag b hb).2
  have h2 := hk _ (h.mm _ (h.nw b (List.mem_append_right _ hb)).1).1
  omega
theorem fin_half0 (wf : Wf f xs0) (h : Inv f s) (e : f.y.TE = f.y.TF) : s.LT = [] := by
  refine List.eq_nil_iff_forall_not_mem.2 fun b hb => ?_
  have h1 := h.tb_ hb
  have h2 := sz_pos (s.ob b)
  omega
theorem fin_none (wf : Wf f xs0) (h : Inv f s) (hz : ∀ r ∈ f.zs, r = 0) (ho : f.OS = []) : s.M = [] ∧ s.PO = [] ∧ s.LT = [] ∧ s.ot = f.y.OF ∧ s.tt = f.y.TF := by
  have hno : ∀ x, ¬ Rc f x := fun x hx => by
    induction hx with
    | rt h1 h0 => exact h0 (hz _ h1)
    | ol h1 => rw [ho] at h1; cases h1
    | go _ _ _ ih => exact ih
  have hM : s.M = [] := List.eq_nil_iff_forall_not_mem.2 fun a ha => hno a (h.mm a ha).2.2.2
  have hP : s.PO = [] := List.eq_nil_iff_forall_not_mem.2 fun b hb => by
    have := (h.nw b (List.mem_append_left _ hb)).1
    rw [hM] at this; cases this
  have hL : s.LT = [] := List.eq_nil_iff_forall_not_mem.2 fun b hb => by
    have := (h.nw b (List.mem_append_right _ hb)).1
    rw [hM] at this; cases this
  refine ⟨hM, hP, hL, ?_, lt_nil h hL⟩
  have := h.so
  rw [ho, hP] at this
  exact (show f.y.OF = s.ot from this).symm
/-- The ages of what went on: each of those in From is one older, if the old ones were at least k, these are so by k + 1. -/
theorem fin_age (h : Inv f s) {k : Int} (hk : ∀ x ∈ f.YS, k ≤ (f.ob x).A) (h7 : f.y.th ≤ 7) : ∀ b ∈ s.LT, k + 1 ≤ (s.ob b).A := by
  intro b hb
  obtain ⟨h1, h2⟩ := h.ag b hb
  have h3 := hk _ (h.mm _ (h.nw b (List.mem_append_right _ hb)).1).1
  rw [h1]
  unfold L4.olA
  split <;> omega
/-- With more roots nothing less goes on. -/
theorem fin_more {g : Fx} {s' : Mst} {xs1 : List Int} (wf : Wf f xs0) (h : Inv f s) (wg : Wf g xs1) (h' : Inv g s') (hd' : ∀ x ∈ (g.OS ++ s'.PO) ++ s'.LT, (s'.ob x).rs.length ≤ s'.dn x) (e1 : g.ob = f.ob) (e2 : g.OS = f.OS) (hz : ∀ r ∈ f.zs, r ∈ g.zs) (hg : ∀ r ∈ g.zs, r = 0 ∨ Dm g s' r) :
    szs f.ob s.M ≤ szs g.ob s'.M := by
  have hrc : ∀ x, Rc f x → Rc g x := fun x hx => by
    induction hx with
    | rt h1 h0 => exact .rt (hz _ h1) h0
    | ol h1 => exact .ol (e2 ▸ h1)
    | go _ hr h0 ih => exact .go ih (e1 ▸ hr) h0
  rw [e1]
  refine szs_sub h.nd fun x hx => ?_
  have h1 := h.mm x hx
  rcases rc_D wg h' hd' hg (hrc x h1.2.2.2) with h2 | h2
  · have := wf.yin h1.1
    rw [wf.oin (e2 ▸ h2)] at this
    cases this
  · exact h2
end
end Go.Proofs.YtogfjclmohpjkaaGreatDoor.L15

/- What lead does: an object's references are led on. Conditions: it lies somewhere new; none of its references is led on yet. -/
import Derived.Test.YtogfjclmohpjkaaGreatDoorL15N
namespace Go.Proofs.YtogfjclmohpjkaaGreatDoor.L15
open Go.ChangeShapes Go.WideShapes Go.ChangeAt Go.RowKit Go.Shelf
open Go.Proofs.YtogfjclmohpjkaaGreatDoor.L1 (Sl Ar ptr exB)
open Go.Proofs.YtogfjclmohpjkaaGreatDoor.L4 (hdV riB wd wdV wdX)
open Go.Proofs.YtogfjclmohpjkaaGreatDoor.L5 (Cl clV rtB Tb clAt shX shR shD)
open Go.Proofs.YtogfjclmohpjkaaGreatDoor.L6 (Th th0 stV St fdT fdX obT obX slX slP slV gw Wk)
open Go.Proofs.YtogfjclmohpjkaaGreatDoor.L2 (spV orZ hasB)
set_option linter.unusedVariables false
set_option maxRecDepth 100000
/-- What leading on an object b leaves of all that lies somewhere. -/
structure Ext2 (f : Fx) (s s' : Mst) (b : Int) : Prop where
  po : ∃ l, s'.PO = s.PO ++ l
  lt : ∃ l, s'.LT = s.LT ++ l
  dn : ∀ x ∈ (f.OS ++ s.PO) ++ s.LT, x ≠ b → s'.dn x = s.dn x
  sr : ∀ x ∈ (f.OS ++ s.PO) ++ s.LT, s'.src x = s.src x
  sz : ∀ x ∈ (f.OS ++ s.PO) ++ s.LT, (s'.ob x).rs.length = (s.ob x).rs.length ∧ (s'.ob x).sz = (s.ob x).sz
  mv : ∀ a, mvA s.mv a ≠ 0 → mvA s'.mv a = mvA s.mv a
  nw : ∀ x ∈ (f.OS ++ s'.PO) ++ s'.LT, x ∉ (f.OS ++ s.PO) ++ s.LT → s'.dn x = 0
theorem Ext2.refl (f : Fx) (s : Mst) (b : Int) : Ext2 f s s b := ⟨⟨[], by simp⟩, ⟨[], by simp⟩, fun _ _ _ => rfl, fun _ _ => rfl, fun _ _ => ⟨rfl, rfl⟩, fun _ _ => rfl, fun x h h' => absurd h h'⟩
section
variable {f : Fx} {s s' s'' : Mst} {b x : Int}
theorem Ext2.mem (h : Ext2 f s s' b) (hx : x ∈ (f.OS ++ s.PO) ++ s.LT) : x ∈ (f.OS ++ s'.PO) ++ s'.LT := by
  obtain ⟨l1, e1⟩ := h.po
  obtain ⟨l2, e2⟩ := h.lt
  rw [e1, e2]
  simp only [List.mem_append] at hx ⊢
  rcases hx with (hx | hx) | hx
  · exact .inl (.inl hx)
  · exact .inl (.inr (.inl hx))
  · exact .inr (.inl hx)
theorem Ext2.ext (h : Ext2 f s s' b) (k : Ext f s' s'') : Ext2 f s s'' b := by
  obtain ⟨l1, e1⟩ := h.po
  obtain ⟨l2, e2⟩ := h.lt
  obtain ⟨l3, e3⟩ := k.po
  obtain ⟨l4, e4⟩ := k.lt
  refine ⟨⟨l1 ++ l3, by rw [e3, e1, List.append_assoc]⟩, ⟨l2 ++ l4, by rw [e4, e2, List.append_assoc]⟩, fun x hx hne => ?_, fun x hx => ?_, fun x hx => ?_, fun a ha => ?_, fun x hx hno => ?_⟩
  · rw [(k.ob x (h.mem hx)).2.1]; exact h.dn x hx hne
  · rw [(k.ob x (h.mem hx)).2.2]; exact h.sr x hx
  · rw [(k.ob x (h.mem hx)).1]; exact h.sz x hx
  · rw [k.mv a (by rw [h.mv a ha]; exact ha)]; exact h.mv a ha
  · by_cases hm : x ∈ (f.OS ++ s'.PO) ++ s'.LT
    · rw [(k.ob x hm).2.1]; exact h.nw x hm hno
    · exact k.nw x hx hm
theorem Ext2.step {k : Nat} {r' : Int} {ys : List Int} (h : Ext2 f s s' b) (hb : b ∈ (f.OS ++ s.PO) ++ s.LT) : Ext2 f s { s' with xs := ys, ob := up s'.ob b { s'.ob b with rs := (s'.ob b).rs.set k r' }, dn := up s'.dn b (k + 1) } b := by
  refine ⟨h.po, h.lt, fun x hx hne => (up_ne hne).trans (h.dn x hx hne), h.sr, fun x hx => ?_, h.mv, fun x hx hno => (up_ne (show x ≠ b from fun e => hno (by rw [e]; exact hb))).trans (h.nw x hx hno)⟩
  by_cases e : x = b
  · subst e
    have := h.sz x hx
    show ((up s'.ob x _ x).rs.length = _ ∧ (up s'.ob x _ x).sz = _)
    rw [up_at]
    exact ⟨by simpa using this.1, by rw [← this.2]; simp [Ob.sz]⟩
  · show ((up s'.ob b _ x).rs.length = _ ∧ (up s'.ob b _ x).sz = _)
    rw [up_ne e]
    exact h.sz x hx
end
section
variable {w w' W : World} {tp : Option Addr} {g n b z mb mg k : Nat} {f : Fx} {s : Mst} {xs0 : List Int} {a : Int}
/-- Where the references of what lies somewhere new lead. -/
theorem Inv.rfs (wf : Wf f xs0) (hI : Inv f s) (ha : a ∈ (f.OS ++ s.PO) ++ s.LT) : s.src a ∈ f.all ∧ Rc f (s.src a) := by
  have key : a ∈ f.OS ∨ a ∈ s.PO ++ s.LT := by
    simp only [List.mem_append] at ha ⊢
    rcases ha with (h | h) | h
    · exact .inl h
    · exact .inr (.inl h)
    · exact .inr (.inr h)
  rcases key with h | h
  · rw [(hI.os a h).1]
    exact ⟨List.mem_append_left _ h, .ol h⟩
  · have h1 := (hI.nw a h).1
    have h2 := hI.mm _ h1
    exact ⟨List.mem_append_right _ h2.1, h2.2.2.2⟩
theorem Inv.leads (wf : Wf f xs0) (hI : Inv f s) (ha : a ∈ (f.OS ++ s.PO) ++ s.LT) {j : Nat} (hj : j < (f.ob (s.src a)).rs.length) :
    ((f.ob (s.src a)).rs.getD j 0 = 0 ∨ (f.ob (s.src a)).rs.getD j 0 ∈ f.all) ∧ ((f.ob (s.src a)).rs.getD j 0 ≠ 0 → Rc f ((f.ob (s.src a)).rs.getD j 0)) := by
  obtain ⟨h1, h2⟩ := hI.rfs wf ha
  have hm : (f.ob (s.src a)).rs.getD j 0 ∈ (f.ob (s.src a)).rs := getD_mem hj
  exact ⟨wf.cl _ h1 _ hm, fun h0 => .go h2 hm h0⟩
set_option maxHeartbeats 4000000 in
theorem lead_any (wf : Wf f xs0) (hI : Inv f s) (hM : Mg w f s z b tp g mb mg) (hz : z ≤ w.heap.size) (hroom : (f.y.ET - f.y.EF) + (f.y.FT - f.y.FF) ≤ f.y.OE - f.y.OT) (ha : a ∈ (f.OS ++ s.PO) ++ s.LT) (hd : s.dn a = 0) :
    Calls Tryz.prog 80 #[ptr mb, .int .i64 a] w fun e w' => ∃ s', e = .returned (.int .i64 ((s.ob a).sz : Int)) ∧ Inv f s' ∧ Mg w' f s' z b tp g mb mg ∧ Ext2 f s s' a ∧ (s.ob a).rs.length ≤ s'.dn a ∧ ChM g mb mg w w' := by
  have hat := hI.at_ (List.mem_append_right _ ha)
  obtain ⟨o, ho⟩ : ∃ o, s.ob a = o := ⟨_, rfl⟩
  rw [ho] at hat
  obtain ⟨n, hn⟩ : ∃ n, o.rs.length = n := ⟨_, rfl⟩
  have hn30 : n ≤ 30 := by
    have := (hat.ok.bd wf.rt).2.1
    unfold Ob.sz at this
    omega
  have him := hI.im a ha
  rw [hd, ho] at him
  have hlead := fun j (hj : j < n) => hI.leads wf ha (j := j) (by rw [← him.n, hn]; exact hj)
  have hraw := fun j => him.raw j (Nat.zero_le _)
  have h64 : a ≤ 9223372036854775807 := by have := hat.a64 hM.lo.st.n; omega
  have HWF := hide wf
  have HI := hide hI
  have HM := hide hM
  have HAT := hide hat
  have HLD := hide (fun j (hj : j < n) => (hraw j) ▸ hlead j hj)
  have HRO := hide hroom
  have HA := hide ha
  have HO := hide ho
  have HN := hide hn
  have HD := hide hd
  have HZ := hide hz
  have HR := hide (refs_any hM.lo.st hat)
  rw [hn] at HR
  obtain ⟨f0, f1, f2⟩ := mv_front hM.bl
  rw [ho, hn]
  clear wf hI hM hz hroom ha hd hat ho hn him hlead hraw
  go_enter Tryz.func80, Tryz.ntmps80
  go_wp2_with fail
  clear f0 f1 f2
  refine HR.out.mono ?_
  rintro e w2 ⟨zb, rfl, hzb, hzz, c2⟩
  go_wp2_with fail
  have hm2 := HM.out.grow c2
  have HGL := hide (show g < w.heap.size ∧ mb < w.heap.size ∧ mg < w.heap.size from ⟨Nat.lt_of_lt_of_le HM.out.lo.gz HZ.out, HM.out.bl.lt, HM.out.mv.lt⟩)
  have HZB := hide (show ¬ zb = g ∧ ¬ zb = mb ∧ ¬ zb = mg from by have := HGL.out; exact ⟨by omega, by omega, by omega⟩)
  have HZ2 := hide (Nat.le_trans HZ.out c2.size)
  have HC2 := hide c2
  have HB2 := hide hzb
  have HM2 := hide hm2
  clear hm2 c2 hzb hzz
  go_loopw [17] (fun v wr => ∃ (k : Nat) (sk : Mst), k ≤ n ∧ v = .int .i64 k ∧ Inv f sk ∧ Mg wr f sk z b tp g mb mg ∧ Ext2 f s sk a ∧ sk.dn a = k ∧ ChM g mb mg w2 wr) (fun v _ => n - (intOf v).toNat)
  case atStart => exact ⟨0, s, Nat.zero_le _, rfl, HI.out, HM2.out, Ext2.refl f s a, HD.out, Chg.refl _ _⟩
  case round =>
    obtain ⟨k, sk, hk, rfl, hi, hm, hx, hdk, cc⟩ := hrel
    have hszk := hx.sz a HA.out
    rw [HO.out] at hszk
    have hatk := hi.at_ (List.mem_append_right _ (hx.mem HA.out))
    rcases Nat.eq_or_lt_of_le hk with hke | hlt
    · subst hke
      have q1 : decide ((k : Int) < k) = false := by simp
      obtain ⟨e1, e2⟩ := hatk.fd HWF.out.rt
      obtain ⟨-, -, b3, -⟩ := hatk.ok.bd HWF.out.rt
      have HSZ := hide (show (fdT sk.xs f.cs a).w = (o.sz : Int) ∧ ((fdT sk.xs f.cs a).C != 0) = true ∧ fdX sk.xs f.cs a = 0 from ⟨by rw [e1]; exact congrArg _ hszk.2, by rw [e1]; show ((sk.ob a).C != 0) = true; simp; omega, e2⟩)
      obtain ⟨f0, f1, f2⟩ := mv_front hm.bl
      have HFI := hide (And.intro hi (And.intro hx (And.intro hdk cc)))
      have HFM := hide hm
      clear hi hm hx hdk cc hszk hatk e1 e2 b3 hk
      go_wp2_with fail
      clear f0 f1 f2
      refine (L6.size_is HFM.out.lo.st h64 HSZ.out.1 HSZ.out.2.1 HSZ.out.2.2).mono ?_
      rintro e w3 ⟨rfl, c3⟩
      go_wp2
      go_ret
      obtain ⟨p1, p2, p3, p4⟩ := HFI.out
      exact ⟨sk, rfl, p1, HFM.out.grow c3, p2, by omega, (HC2.out.mono (S := fun i => i = g ∨ i = mb ∨ i = mg) (fun _ _ h => h.elim)).trans (p4.trans (c3.mono (fun _ _ h => h.elim)))⟩
    · have q1 : decide ((k : Int) < n) = true := decide_eq_true (by omega)
      have q2 : k < n := hlt
      have hw1 : IntKind.i64.wrap ((k : Int) + 1) = ((k + 1 : Nat) : Int) := (IntWalk.i64_in _ (by omega)).trans (by omega)
      have hbr := HB2.out.chg cc (fun e => e.elim HZB.out.1 (fun e => e.elim HZB.out.2.1 HZB.out.2.2))
      have hcx : wr.cell? ⟨zb, k, none⟩ = some (.int .i64 (o.rs.getD k 0)) := by rw [hbr.cell, ints_get _ _ (by rw [HN.out]; exact hlt)]
      have hraw : (sk.ob a).rs.getD k 0 = o.rs.getD k 0 := by
        have i1 := hi.im a (hx.mem HA.out)
        have i2 := HI.out.im a HA.out
        rw [hdk, hx.sr a HA.out] at i1
        rw [HD.out, HO.out] at i2
        rw [i1.raw k (Nat.le_refl _), i2.raw k (Nat.zero_le _)]
      have hld := HLD.out k hlt
      obtain ⟨x, hxx⟩ : ∃ x, o.rs.getD k 0 = x := ⟨_, rfl⟩
      rw [hxx] at hcx hraw hld
      obtain ⟨f0, f1, f2⟩ := mv_front hm.bl
      have hk1 := And.intro f1 f2
      have HZR := hide (Nat.le_trans HZ2.out cc.size)
      have HMV := hide (fun W (c : Grow wr W) => move_any (r := x) HWF.out hi (hm.grow c) (Nat.le_trans HZR.out c.size) HRO.out hld.1 hld.2)
      have HKP := hide (fun W (s1 : Mst) (m1 : Mg W f s1 z b tp g mb mg) => And.intro (mv_front m1.bl).2.1 (mv_front m1.bl).2.2)
      have HKQ := hide (fun W W' (s1 : Mst) (m1 : Mg W f s1 z b tp g mb mg) (c : Chg (· = g) W W') => And.intro (mv_front (m1.bl.chg c m1.gm.1)).2.1 (mv_front (m1.bl.chg c m1.gm.1)).2.2)
      have HSR := hide (show ∀ s1, Inv f s1 → Ext f sk s1 → slX s1.xs f.cs a k false = 0 ∧ slP s1.xs f.cs a k false = a + 2 + k from fun s1 i1 e1 => by
        have hm1 := (hx.ext e1).mem HA.out
        have h1 := i1.at_ (List.mem_append_right _ hm1)
        have h2 := (hx.ext e1).sz a HA.out
        rw [HO.out, HN.out] at h2
        have := h1.slR HWF.out.rt (k := k) (by rw [h2.1]; exact hlt)
        exact ⟨this.1, this.2.1⟩)
      have HFX := hide (And.intro hx (And.intro hdk (And.intro hraw cc)))
      have HA1 := hide hatk.a1
      have HSK := hide hszk.1
      clear hi hm hx hdk cc hraw hld hszk hatk hbr hxx hk
      go_wp2_with fail
      clear hcx f0 f1 f2
      go_region_held3 (fun W => W.cell? ⟨mb, 1, none⟩ = some (ptr b) ∧ W.cell? ⟨mb, 2, none⟩ = some (.pointer tp)) (first | exact hk1 | exact HKP.out _ _ hm1 | exact HKQ.out _ _ _ hm1 c5 | go_keep)
        (first
          | (go_at_call 41; refine (HMV.out _ ((Chg.refl _ wr).drew)).mono ?_; rintro e w4 ⟨s1, r1, rfl, hl1, hi1, hm1, he1, c4⟩)
          | (go_at_call 33; refine (L6.setref_in hm1.lo.st h64 (HSR.out s1 hi1 he1).1 (HSR.out s1 hi1 he1).2).mono ?_; rintro e w5 ⟨rfl, st5, c5⟩))
      all_goals (
        obtain ⟨hx, hdk, hraw, cc⟩ := HFX.out
        have hob := he1.ob a (hx.mem HA.out)
        have hd1 : s1.dn a = k := hob.2.1.trans hdk
        have hi2 := hi1.lead HWF.out ((hx.ext he1).mem HA.out) hd1 (by rw [hob.1, HSK.out, HN.out]; exact q2) (by rw [hob.1, hraw]; exact hl1)
        have hto : (a + 2 + (k : Int)).toNat = a.toNat + (2 + k) := by have := HA1.out; omega
        rw [hto] at st5
        have HG2 := hide (And.intro hi2 (And.intro (Mg.mk (f := f) (s := { s1 with xs := s1.xs.set (a.toNat + (2 + k)) r1, ob := up s1.ob a { s1.ob a with rs := (s1.ob a).rs.set k r1 }, dn := up s1.dn a (k + 1) }) (hm1.lo.put st5 c5) (hm1.bl.chg c5 hm1.gm.1) (hm1.mv.chg c5 hm1.gm.2.1) hm1.hm hm1.hg) (And.intro ((hx.ext he1).step (k := k) (r' := r1) (ys := s1.xs.set (a.toNat + (2 + k)) r1) HA.out) (cc.drew.trans (c4.step c5 (fun i _ e => .inl e))))))
        clear hx hdk hraw cc hob hd1 hi2 hto st5 hl1 hi1 hm1 he1 c4 c5 hk1
        go_wp2
        go_roundw
        case rel => exact ⟨k + 1, _, q2, rfl, HG2.out.1, HG2.out.2.1, HG2.out.2.2.1, up_at _ _ _, HG2.out.2.2.2⟩
        case measure => simp [intOf]; omega)
end
end Go.Proofs.YtogfjclmohpjkaaGreatDoor.L15

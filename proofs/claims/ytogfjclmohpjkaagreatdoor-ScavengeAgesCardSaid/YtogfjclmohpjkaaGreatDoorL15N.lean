/- What move does: an object's new address. Conditions: the address is 0 or an object's; Old has room for all. -/
import Derived.Test.YtogfjclmohpjkaaGreatDoorL15M
namespace Go.Proofs.YtogfjclmohpjkaaGreatDoor.L15
open Go.ChangeShapes Go.WideShapes Go.ChangeAt Go.RowKit Go.Shelf
open Go.Proofs.YtogfjclmohpjkaaGreatDoor.L1 (Sl Ar ptr exB)
open Go.Proofs.YtogfjclmohpjkaaGreatDoor.L4 (hdV riB wd wdV wdX)
open Go.Proofs.YtogfjclmohpjkaaGreatDoor.L5 (Cl clV rtB Tb clAt shX shR shD)
open Go.Proofs.YtogfjclmohpjkaaGreatDoor.L6 (Th th0 stV St fdT fdX obT obX slX slP slV gw Wk)
open Go.Proofs.YtogfjclmohpjkaaGreatDoor.L2 (spV orZ hasB)
set_option linter.unusedVariables false
set_option maxRecDepth 100000
/-- What a move leaves of all that lies somewhere. -/
structure Ext (f : Fx) (s s' : Mst) : Prop where
  po : ∃ l, s'.PO = s.PO ++ l
  lt : ∃ l, s'.LT = s.LT ++ l
  ob : ∀ x ∈ (f.OS ++ s.PO) ++ s.LT, s'.ob x = s.ob x ∧ s'.dn x = s.dn x ∧ s'.src x = s.src x
  mv : ∀ a, mvA s.mv a ≠ 0 → mvA s'.mv a = mvA s.mv a
  nw : ∀ x ∈ (f.OS ++ s'.PO) ++ s'.LT, x ∉ (f.OS ++ s.PO) ++ s.LT → s'.dn x = 0
theorem Ext.refl (f : Fx) (s : Mst) : Ext f s s := ⟨⟨[], by simp⟩, ⟨[], by simp⟩, fun x _ => ⟨rfl, rfl, rfl⟩, fun _ _ => rfl, fun x h h' => absurd h h'⟩
theorem Led.mono {y : Yg} {mv mv' : List Int} {r r' : Int} (h : Led y mv r r') (hm : ∀ a, mvA mv a ≠ 0 → mvA mv' a = mvA mv a) : Led y mv' r r' := by
  rcases h with h | ⟨h1, h2, h3⟩
  · exact .inl h
  · exact .inr ⟨h1, by rw [hm _ (by rw [h2]; exact h3), h2], h3⟩
theorem ext_put {f : Fx} {s : Mst} {a b : Int} {o' : Ob} {T : Bool} (hb : ∀ x ∈ (f.OS ++ s.PO) ++ s.LT, x ≠ b) (ha : mvA s.mv a = 0) (hl : a.toNat < s.mv.length) : Ext f s (s.put a b o' T) := by
  refine ⟨?_, ?_, fun x hx => ⟨up_ne (hb x hx), up_ne (hb x hx), up_ne (hb x hx)⟩, fun z hz => ?_, fun x hx hno => ?_⟩
  · cases T with
    | true => exact ⟨[], by simp [Mst.put]⟩
    | false => exact ⟨[b], by simp [Mst.put]⟩
  · cases T with
    | true => exact ⟨[b], by simp [Mst.put]⟩
    | false => exact ⟨[], by simp [Mst.put]⟩
  · show mvA (s.mv.set a.toNat b) z = _
    rw [mvA_set _ hl, if_neg]
    intro e
    have : mvA s.mv z = mvA s.mv a := by unfold mvA; rw [e]
    exact hz (this.trans ha)
  · have hxb : x = b := by
      refine Classical.byContradiction fun hne => hno ?_
      cases T with
      | true => simp [Mst.put, hne] at hx ⊢; exact hx
      | false => simp [Mst.put, hne] at hx ⊢; exact hx
    subst hxb
    exact up_at _ _ _
section
variable {w w' W : World} {tp : Option Addr} {g n b z mb mg k : Nat} {f : Fx} {s : Mst} {xs0 : List Int} {r : Int}
/-- The cells of a run's struct. -/
theorem mv_front {y : Yg} {ot tt : Int} (h : Blk w mb 91 (mvCs b tp y ot tt mg n)) : w.cell? ⟨mb, 0, none⟩ = some (ptr b) ∧ w.cell? ⟨mb, 1, none⟩ = some (ptr b) ∧ w.cell? ⟨mb, 2, none⟩ = some (.pointer tp) := ⟨h.cell 0, h.cell 1, h.cell 2⟩
theorem mv_y {y : Yg} {ot tt : Int} (h : Blk w mb 91 (mvCs b tp y ot tt mg n)) :
    w.cell? ⟨mb, 3, none⟩ = some (.int .i64 y.OF) ∧ w.cell? ⟨mb, 4, none⟩ = some (.int .i64 y.OT) ∧ w.cell? ⟨mb, 5, none⟩ = some (.int .i64 y.OE) ∧ w.cell? ⟨mb, 6, none⟩ = some (.int .i64 y.EF) ∧ w.cell? ⟨mb, 7, none⟩ = some (.int .i64 y.ET) ∧ w.cell? ⟨mb, 8, none⟩ = some (.int .i64 y.EE) ∧ w.cell? ⟨mb, 9, none⟩ = some (.int .i64 y.FF) ∧ w.cell? ⟨mb, 10, none⟩ = some (.int .i64 y.FT) ∧ w.cell? ⟨mb, 11, none⟩ = some (.int .i64 y.FE) ∧ w.cell? ⟨mb, 12, none⟩ = some (.int .i64 y.TF) ∧ w.cell? ⟨mb, 13, none⟩ = some (.int .i64 y.TT) ∧ w.cell? ⟨mb, 14, none⟩ = some (.int .i64 y.TE) ∧ w.cell? ⟨mb, 15, none⟩ = some (.int .i64 y.th) :=
  ⟨h.cell 3, h.cell 4, h.cell 5, h.cell 6, h.cell 7, h.cell 8, h.cell 9, h.cell 10, h.cell 11, h.cell 12, h.cell 13, h.cell 14, h.cell 15⟩
/-- Between w and w' only the words, the struct, and the list have changed. -/
abbrev ChM (g mb mg : Nat) (w w' : World) : Prop := Chg (fun i => i = g ∨ i = mb ∨ i = mg) w w'
set_option maxHeartbeats 2000000 in
theorem move_out (hM : Mg w f s z b tp g mb mg) (hy : f.y.isY r = false) :
    Calls Tryz.prog 41 #[ptr mb, .int .i64 r] w fun e w' => e = .returned (.int .i64 r) ∧ Grow w w' := by
  have HIY := hide hy
  clear hy
  obtain ⟨m3, m4, m5, m6, m7, m8, m9, m10, m11, m12, m13, m14, m15⟩ := mv_y hM.bl
  have HH := hide (has_any f.y r)
  rw [HIY.out] at HH
  have HMG := hide hM
  clear hM
  go_enter Tryz.func41, Tryz.ntmps41
  go_wp2_with fail
  clear m3 m4 m5 m6 m7 m8 m9 m10 m11 m12 m13 m14 m15
  refine (HH.out _).mono ?_
  rintro e w2 ⟨rfl, c2⟩
  have hM := HMG.out.grow c2
  go_wp2
  go_ret
  exact ⟨rfl, c2⟩
set_option maxHeartbeats 2000000 in
theorem move_had (hM : Mg w f s z b tp g mb mg) (hy : f.y.isY r = true) (h1 : 0 ≤ r) (h2 : r.toNat < f.n) (hl : s.mv.length = f.n) {v : Int} (hv : mvA s.mv r = v) (h0 : v ≠ 0) :
    Calls Tryz.prog 41 #[ptr mb, .int .i64 r] w fun e w' => e = .returned (.int .i64 v) ∧ Grow w w' := by
  have HIY := hide hy
  obtain ⟨K, rfl⟩ := Int.eq_ofNat_of_zero_le h1
  have q1 : (v == 0) = false := by simpa using h0
  have q2 : K < f.n := by omega
  have HV := hide hv
  have HL := hide hl
  clear hy hv hl
  obtain ⟨m3, m4, m5, m6, m7, m8, m9, m10, m11, m12, m13, m14, m15⟩ := mv_y hM.bl
  have HH := hide (has_any f.y (K : Int))
  rw [HIY.out] at HH
  have HMG := hide hM
  clear hM
  go_enter Tryz.func41, Tryz.ntmps41
  go_wp2_with fail
  clear m3 m4 m5 m6 m7 m8 m9 m10 m11 m12 m13 m14 m15
  refine (HH.out _).mono ?_
  rintro e w2 ⟨rfl, c2⟩
  have hM := HMG.out.grow c2
  obtain ⟨-, -, -, -, -, -, -, m22⟩ := mv_cells hM.bl
  have hcell : w2.cell? ⟨mg, K, none⟩ = some (.int .i64 v) := by
    rw [hM.mv.cell, ints_get _ _ (by rw [HL.out]; exact q2), ← HV.out]
    rfl
  clear hM HMG
  go_wp2
  go_ret
  exact ⟨rfl, c2⟩
set_option maxHeartbeats 4000000 in
theorem move_new (wf : Wf f xs0) (hI : Inv f s) (hM : Mg w f s z b tp g mb mg) (hz : z ≤ w.heap.size) (hr : r ∈ f.YS) (hn : r ∉ s.M) (hrc : Rc f r) (hroom : (f.y.ET - f.y.EF) + (f.y.FT - f.y.FF) ≤ f.y.OE - f.y.OT) :
    Calls Tryz.prog 41 #[ptr mb, .int .i64 r] w fun e w' => ∃ s' r', e = .returned (.int .i64 r') ∧ Led f.y s'.mv r r' ∧ Inv f s' ∧ Mg w' f s' z b tp g mb mg ∧ Ext f s s' ∧ ChM g mb mg w w' := by
  have hrt := wf.rt
  obtain ⟨o, ho⟩ : ∃ o, f.ob r = o := ⟨_, rfl⟩
  have hat : ObAt s.xs f.cs r o := ho ▸ (hI.ys r hr).2
  obtain ⟨e1, e2⟩ := hat.fd hrt
  obtain ⟨e3, e4⟩ := hat.ob hrt
  obtain ⟨b1, b2, b3, b4, b5, b6⟩ := hat.ok.bd hrt
  have hal := hat.len
  have ha1 := hat.a1
  have hxn := hI.n
  have hmn := hI.mn
  have hro := hI.room wf hroom hr hn
  have hmv0 := (hI.notM wf hr).2 hn
  have hyr := wf.yin hr
  rw [ho] at hro
  have hoo := hI.oo
  have htt := hI.tto
  have htl := hI.tlo
  have oo := wf.ok.o
  have ot := wf.ok.t
  have hn4 : f.n ≤ 4096 := by have := hM.lo.st.n; omega
  obtain ⟨k, hk⟩ : ∃ k, o.sz = k := ⟨_, rfl⟩
  rw [hk] at hro hal b1 b2
  obtain ⟨T, hT⟩ : ∃ T, T = (decide (o.A < f.y.th) && decide ((k : Int) ≤ f.y.TE - s.tt)) := ⟨_, rfl⟩
  obtain ⟨to, hto⟩ : ∃ to, to = if T then s.tt else s.ot := ⟨_, rfl⟩
  obtain ⟨Ao, hAo⟩ : ∃ Ao, Ao = if T then L4.olA o.A else o.A := ⟨_, rfl⟩
  have hroom2 : to + k ≤ if T then f.y.TE else f.y.OE := by
    cases T with
    | true => simp at hT hto; simp; omega
    | false => simp at hto; simp; omega
  have hth : T = true → o.A < f.y.th := fun h => by rw [h] at hT; simp at hT; exact hT.1
  have hto1 : 1 ≤ to ∧ to + k ≤ f.n := by cases T <;> simp at hto hroom2 <;> omega
  have hI' := hI.put (b := to) (T := T) (A := Ao) wf hr hn hrc hto (by rw [ho, hk]; exact hroom2) (by rw [ho]; exact hAo) (by rw [ho]; exact hth) (by
    rw [ho, hk]
    intro h h'
    rw [h] at hT
    have h2 : ¬ ((k : Int) ≤ f.y.TE - s.tt) := fun hc => by simp [h', hc] at hT
    omega)
  rw [ho] at hI'
  have hE : Ext f s (s.put r to (o.hd Ao 0 false o.f o.d) T) := ext_put (fun x hx e => by
    subst e
    have hb := hI.pos wf (x := x) (List.mem_append_right _ hx)
    have hs2 := sz_pos (s.ob x)
    rcases List.mem_append.1 hx with hx | hx
    · have h1 := hI.so.bd hx
      have h2 := hI.ob_ hx
      cases T with
      | true => simp at hto hroom2; have := wf.ok.ot.ap h2 (show f.y.TF ≤ x ∧ x + k ≤ f.y.TE by omega) (by omega) (by omega); omega
      | false => simp at hto; omega
    · have h1 := hI.st.bd hx
      have h2 := hI.tb_ hx
      cases T with
      | true => simp at hto; omega
      | false => simp at hto hroom2; have := wf.ok.ot.sym.ap h2 (show f.y.OF ≤ x ∧ x + k ≤ f.y.OE by omega) (by omega) (by omega); omega) hmv0 (by omega)
  have hLed : Led f.y (s.put r to (o.hd Ao 0 false o.f o.d) T).mv r to := .inr ⟨hyr, by
    show mvA (s.mv.set r.toNat to) r = to
    rw [mvA_set _ (by omega), if_pos rfl], by omega⟩
  have hri : riB o.C Ao 0 o.f o.d = true := by
    have h1 := L4.ri_true hat.ok.ri
    refine L4.ri_mk (by omega) (by omega) ?_ ?_ (by omega) (by omega) h1.2.2.2.2.2.2
    · rw [hAo, L4.olA]; cases T <;> simp <;> (try split) <;> omega
    · rw [hAo, L4.olA]; cases T <;> simp <;> (try split) <;> omega
  obtain ⟨D, hD⟩ : ∃ D : Nat, to = (D : Int) := ⟨to.toNat, by omega⟩
  obtain ⟨K, hK⟩ : ∃ K : Nat, r = (K : Int) := ⟨r.toNat, by omega⟩
  have hnewat : ObAt (mvW s.xs D K k) f.cs (D : Int) o := by
    have := hat.moved (to := to) (by omega) (by omega)
    rwa [hk, show to.toNat = D by omega, show r.toNat = K by omega, hD] at this
  have HRIO := hide (show L2.riB f.y.OF s.ot f.y.OE = true by simp [L2.riB]; omega)
  have HRIT := hide (show L2.riB f.y.TF s.tt f.y.TE = true by simp [L2.riB]; omega)
  have HFD := hide (And.intro e1 e2)
  have HOB := hide (And.intro e3 e4)
  have HBD := hide (And.intro b5 b6)
  have HK := hide (show 1 ≤ k ∧ k ≤ 100 ∧ (k : Int) ≤ f.y.OE - s.ot from ⟨by omega, by omega, by omega⟩)
  have HT := hide hT
  have HTO := hide hto
  have HAO := hide hAo
  have HI := hide hI'
  have HEX := hide hE
  have HLED := hide hLed
  have HRI := hide hri
  have HNA := hide hnewat
  have HIY := hide hyr
  have HSZ := hide (show (fdT s.xs f.cs r).w = (k : Int) ∧ ((fdT s.xs f.cs r).C != 0) = true ∧ fdX s.xs f.cs r = 0 from ⟨by rw [e1]; exact congrArg _ hk, by rw [e1]; show (o.C != 0) = true; simp; omega, e2⟩)
  have HHD := hide (show hdV (obT s.xs f.cs r).C (obT s.xs f.cs r).A (obT s.xs f.cs r).F (obT s.xs f.cs r).m (obT s.xs f.cs r).f (obT s.xs f.cs r).d = hdV o.C o.A o.F o.m o.f o.d ∧ obX s.xs f.cs r = 0 from ⟨by rw [e3]; rfl, e4⟩)
  have HLEN := hide (show D + k ≤ s.xs.length ∧ K + k ≤ s.xs.length from ⟨by omega, by omega⟩)
  have HDK := hide (show to.toNat = D ∧ r.toNat = K ∧ o.sz = k from ⟨by omega, by omega, hk⟩)
  have h64 : r ≤ 9223372036854775807 := by omega
  have hmc : s.mv.getD K 0 = 0 := by
    have := hmv0
    unfold mvA at this
    rw [hK] at this
    exact this
  have q1 : K < f.n := by omega
  have HMC := hide hmc
  have HML := hide hmn
  have HZ := hide hz
  subst hK
  clear hrt hat e1 e2 e3 e4 b1 b2 b3 b4 b5 b6 hal ha1 hxn hmn hro hmv0 hyr hoo htt htl oo ot hT hto hAo hroom2 hth hto1 hI' hE hLed hri hnewat hn4 hmc hk hI ho hz hr hn hrc hroom wf
  obtain ⟨m3, m4, m5, m6, m7, m8, m9, m10, m11, m12, m13, m14, m15⟩ := mv_y hM.bl
  have HH := hide (has_any f.y (K : Int))
  rw [HIY.out] at HH
  have HMG := hide hM
  clear hM
  go_enter Tryz.func41, Tryz.ntmps41
  go_wp2_with fail
  clear m3 m4 m5 m6 m7 m8 m9 m10 m11 m12 m13 m14 m15
  refine (HH.out _).mono ?_
  rintro e w2 ⟨rfl, c2⟩
  have hM := HMG.out.grow c2
  obtain ⟨-, -, -, -, -, -, -, m22⟩ := mv_cells hM.bl
  have hcell : w2.cell? ⟨mg, K, none⟩ = some (.int .i64 0) := by
    rw [hM.mv.cell, ints_get _ _ (by rw [HML.out]; exact q1), HMC.out]
  obtain ⟨f0, f1, f2⟩ := mv_front hM.bl
  go_wp2_with fail
  clear m22 hcell f0 f1 f2
  refine (L6.size_is hM.lo.st h64 HSZ.out.1 HSZ.out.2.1 HSZ.out.2.2).mono ?_
  rintro e w3 ⟨rfl, c3⟩
  replace hM := hM.grow c3
  replace c2 := c2.trans c3
  clear c3
  obtain ⟨f0, f1, f2⟩ := mv_front hM.bl
  go_wp2_with fail
  clear f0 f1 f2
  refine (L6.head_is hM.lo.st h64 HHD.out.1 HHD.out.2).mono ?_
  rintro e w4 ⟨rfl, c4⟩
  replace hM := hM.grow c4
  replace c2 := c2.trans c4
  clear c4
  have hzw : z ≤ w4.heap.size := Nat.le_trans HZ.out c2.size
  have nmh : ¬ mb = w4.heap.size := by have := hM.bl.lt; omega
  have nmg : ¬ mg = w4.heap.size := by have := hM.mv.lt; omega
  have HZH := hide hzw
  have HHW := hide (show w.heap.size ≤ w4.heap.size from c2.size)
  clear hzw
  have hh := Blk.new w4 123 [.int .i64 o.C, .int .i64 o.A, .int .i64 o.F, .bool o.m, .bool o.f, .bool o.d]
  replace c2 := c2.alloc (.cells [.int .i64 o.C, .int .i64 o.A, .int .i64 o.F, .bool o.m, .bool o.f, .bool o.d].toArray 123)
  replace hM := hM.grow (Grow.box w4 (.cells [.int .i64 o.C, .int .i64 o.A, .int .i64 o.F, .bool o.m, .bool o.f, .bool o.d].toArray 123))
  obtain ⟨b0, b1, b2, b3, b4, b5⟩ := hh.cell6
  go_wp2_with fail
  clear b0 b1 b2 b3 b4 b5
  generalize w4.alloc (.cells #[.int .i64 o.C, .int .i64 o.A, .int .i64 o.F, .bool o.m, .bool o.f, .bool o.d] 123) = w5 at *
  generalize w4.heap.size = h at *
  refine (place_any (at_ := to) (Ao := Ao) (T := T) hM.bl HRIO.out HRIT.out HBD.out HK.out.1 HK.out.2.1 HK.out.2.2 HT.out HTO.out HAO.out).mono ?_
  rintro e w6 ⟨rfl, hb6, c6⟩
  have lo6 := hM.lo.chg c6 (fun i e => by rw [e]; exact hM.hm)
  have mv6 := hM.mv.chg c6 (fun e => hM.ne e.symm)
  have hh6 := hh.chg c6 (fun e => nmh e.symm)
  have cc6 : ChM g mb mg w w6 := (c2.mono (S := fun i => i = g ∨ i = mb ∨ i = mg) (fun _ _ h => h.elim)).step c6 (fun i _ e => .inr (.inl e))
  obtain ⟨gm1, gm2, gm3, gm4⟩ := hM.gm
  have HME := hide (And.intro hM.ne (And.intro hM.hm hM.hg))
  obtain ⟨b0, b1, b2, b3, b4, b5⟩ := hh6.cell6
  obtain ⟨k0, k1, k2, k3, k4, k5⟩ := hh6.frozen6
  obtain ⟨f0, f1, f2⟩ := mv_front hb6
  clear hM HMG hh c6 c2 gm1 gm2 gm3 gm4
  go_wp2_with fail
  clear b0 b1 b2 b3 b4 b5 k0 k1 k2 k3 k4 k5 f0 f1 f2
  have hh7 : Blk ((((((w6.setCell ⟨h, 0, none⟩ (.int .i64 o.C)).setCell ⟨h, 1, none⟩ (.int .i64 Ao)).setCell ⟨h, 2, none⟩ (.int .i64 0)).setCell ⟨h, 3, none⟩ (.bool false)).setCell ⟨h, 4, none⟩ (.bool o.f)).setCell ⟨h, 5, none⟩ (.bool o.d)) h 123 [.int .i64 o.C, .int .i64 Ao, .int .i64 0, .bool false, .bool o.f, .bool o.d] := hh6.put6 _ _ _ _ _ _
  have hb7 : Blk ((((((w6.setCell ⟨h, 0, none⟩ (.int .i64 o.C)).setCell ⟨h, 1, none⟩ (.int .i64 Ao)).setCell ⟨h, 2, none⟩ (.int .i64 0)).setCell ⟨h, 3, none⟩ (.bool false)).setCell ⟨h, 4, none⟩ (.bool o.f)).setCell ⟨h, 5, none⟩ (.bool o.d)) mb 91 (mvCs b tp f.y (if T then s.ot else s.ot + k) (if T then s.tt + k else s.tt) mg f.n) := hb6.far6 nmh _ _ _ _ _ _
  have mv7 : Blk ((((((w6.setCell ⟨h, 0, none⟩ (.int .i64 o.C)).setCell ⟨h, 1, none⟩ (.int .i64 Ao)).setCell ⟨h, 2, none⟩ (.int .i64 0)).setCell ⟨h, 3, none⟩ (.bool false)).setCell ⟨h, 4, none⟩ (.bool o.f)).setCell ⟨h, 5, none⟩ (.bool o.d)) mg 3 (ints s.mv) := mv6.far6 nmg _ _ _ _ _ _
  have c67 : Chg (· = h) w6 ((((((w6.setCell ⟨h, 0, none⟩ (.int .i64 o.C)).setCell ⟨h, 1, none⟩ (.int .i64 Ao)).setCell ⟨h, 2, none⟩ (.int .i64 0)).setCell ⟨h, 3, none⟩ (.bool false)).setCell ⟨h, 4, none⟩ (.bool o.f)).setCell ⟨h, 5, none⟩ (.bool o.d)) := ((((((Chg.refl _ _).set1 0 _).set1 1 _).set1 2 _).set1 3 _).set1 4 _).set1 5 _
  have lo7 := lo6.chg c67 (fun i e => by rw [e]; exact HZH.out)
  have cc7 := cc6.step c67 (fun i hi e => absurd hi (by rw [e]; have := HHW.out; omega))
  have ngh : ¬ h = g := by have := lo6.gz; have := HZH.out; omega
  have ngm : ¬ mb = g ∧ ¬ mg = g := by have := lo6.gz; have := HME.out.2; exact ⟨by omega, by omega⟩
  clear hh6 hb6 mv6 c67 lo6 cc6
  generalize ((((((w6.setCell ⟨h, 0, none⟩ (.int .i64 o.C)).setCell ⟨h, 1, none⟩ (.int .i64 Ao)).setCell ⟨h, 2, none⟩ (.int .i64 0)).setCell ⟨h, 3, none⟩ (.bool false)).setCell ⟨h, 4, none⟩ (.bool o.f)).setCell ⟨h, 5, none⟩ (.bool o.d)) = w7 at *
  refine (move_is (x := D) (y := K) (k := k) lo7.st rfl rfl rfl HLEN.out.1 HLEN.out.2).mono ?_
  rintro e w8 ⟨rfl, st8, c8⟩
  have lo9 := (lo7.put st8 c8).grow ((Chg.refl _ w8).drew)
  have hb8 := hb7.chg c8 ngm.1
  have hb9 := hb8.drew
  have mv9 := (mv7.chg c8 ngm.2).drew
  have hh8 := hh7.chg c8 ngh
  have cc9 := (cc7.step c8 (fun i _ e => .inl e)).drew
  obtain ⟨f0, f1, f2⟩ := mv_front hb8
  obtain ⟨b0, b1, b2, b3, b4, b5⟩ := hh8.cell6
  clear st8 c8 hh7 hb7 mv7 lo7 cc7
  go_wp2_with fail
  go_still_tail 6, (by kernel_rfl)
  change wpList _ _ _ _ _ (World.drew _)
  clear f0 f1 f2 b0 b1 b2 b3 b4 b5 hb8 hh8
  generalize w8.drew = w9 at *
  go_wp2_with fail
  refine (sethead_ok lo9.st HNA.out HRI.out).mono ?_
  rintro e wa ⟨rfl, sta, ca⟩
  have loa := lo9.put sta ca
  have hba := hb9.chg ca ngm.1
  have mva := mv9.chg ca ngm.2
  have cca := cc9.step ca (fun i _ e => .inl e)
  clear sta ca lo9 hb9 mv9 cc9
  obtain ⟨-, -, -, -, -, -, -, m22⟩ := mv_cells hba
  have hcell : wa.cell? ⟨mg, K, none⟩ = some (.int .i64 0) := by
    rw [mva.cell, ints_get _ _ (by rw [HML.out]; exact q1), HMC.out]
  have hfz := mva.frozen K
  have mvb := mva.set_ K (.int .i64 (D : Int))
  rw [ints_set] at mvb
  have cmg : Chg (· = mg) wa (wa.setCell ⟨mg, K, none⟩ (.int .i64 (D : Int))) := (Chg.refl _ _).set1 K _
  have hbb := hba.chg cmg HME.out.1
  have lob := loa.chg cmg (fun i e => by rw [e]; exact HME.out.2.2)
  have ccb := cca.step cmg (fun i _ e => .inr (.inr e))
  have hmne : ¬ mb = mg := HME.out.1
  have m22b : (wa.setCell ⟨mg, K, none⟩ (.int .i64 (D : Int))).cell? ⟨mb, 22, none⟩ = some (.slice (some ⟨mg, 0, none⟩) f.n f.n) := hbb.cell 22
  have hcb : (wa.setCell ⟨mg, K, none⟩ (.int .i64 (D : Int))).cell? ⟨mg, K, none⟩ = some (.int .i64 (D : Int)) := by
    rw [mvb.cell, ints_get _ _ (by rw [List.length_set, HML.out]; exact q1), getD_set_at (by rw [HML.out]; exact q1)]
  have HFIN := hide (And.intro lob (And.intro hbb (And.intro mvb ccb)))
  clear loa hba mva cca lob hbb mvb ccb cmg
  go_wp2
  go_ret
  obtain ⟨hd1, hd2, hd3⟩ := HDK.out
  obtain ⟨p1, p2, p3, p4⟩ := HFIN.out
  have hxs : (s.put (K : Int) to (o.hd Ao 0 false o.f o.d) T).xs = (mvW s.xs D K k).set (D : Int).toNat (wd o.C Ao 0 false o.f o.d) := by
    show (mvW s.xs to.toNat (K : Int).toNat o.sz).set to.toNat (wd o.C Ao 0 false o.f o.d) = _
    rw [hd1, hd2, hd3, Int.toNat_natCast]
  have hot : (s.put (K : Int) to (o.hd Ao 0 false o.f o.d) T).ot = (if T then s.ot else s.ot + k) := by
    show (if T then s.ot else s.ot + (o.sz : Int)) = _
    rw [hd3]
  have htt : (s.put (K : Int) to (o.hd Ao 0 false o.f o.d) T).tt = (if T then s.tt + k else s.tt) := by
    show (if T then s.tt + (o.sz : Int) else s.tt) = _
    rw [hd3]
  have hmv : (s.put (K : Int) to (o.hd Ao 0 false o.f o.d) T).mv = s.mv.set K (D : Int) := by
    show s.mv.set (K : Int).toNat to = _
    rw [hd2, hD]
  refine ⟨_, to, by rw [hD]; rfl, HLED.out, HI.out, ⟨by rw [hxs]; exact p1, by rw [hot, htt]; exact p2, by rw [hmv]; exact p3, HME.out.2.1, HME.out.2.2⟩, HEX.out, p4⟩
theorem move_any (wf : Wf f xs0) (hI : Inv f s) (hM : Mg w f s z b tp g mb mg) (hz : z ≤ w.heap.size) (hroom : (f.y.ET - f.y.EF) + (f.y.FT - f.y.FF) ≤ f.y.OE - f.y.OT) (hr : r = 0 ∨ r ∈ f.all) (hrc : r ≠ 0 → Rc f r) :
    Calls Tryz.prog 41 #[ptr mb, .int .i64 r] w fun e w' => ∃ s' r', e = .returned (.int .i64 r') ∧ Led f.y s'.mv r r' ∧ Inv f s' ∧ Mg w' f s' z b tp g mb mg ∧ Ext f s s' ∧ ChM g mb mg w w' := by
  cases hy : f.y.isY r with
  | false =>
    refine (move_out hM hy).mono ?_
    rintro e w' ⟨rfl, c⟩
    exact ⟨s, r, rfl, .inl ⟨hy, rfl⟩, hI, hM.grow c, Ext.refl f s, c.mono (fun _ _ h => h.elim)⟩
  | true =>
    have hrY : r ∈ f.YS := by
      rcases hr with rfl | hr
      · rw [wf.ok.nin (.inl rfl)] at hy; cases hy
      · rcases List.mem_append.1 hr with h | h
        · rw [wf.oin h] at hy; cases hy
        · exact h
    have hat := wf.at_ (List.mem_append_right _ hrY)
    have h1 := hat.a1
    have h2 := hat.len
    have h3 := wf.n
    have h4 := sz_pos (f.ob r)
    by_cases hm : r ∈ s.M
    · have h0 : mvA s.mv r ≠ 0 := fun e => ((hI.notM wf hrY).1 e) hm
      refine (move_had hM hy (by omega) (by omega) hI.mn rfl h0).mono ?_
      rintro e w' ⟨rfl, c⟩
      exact ⟨s, _, rfl, .inr ⟨hy, rfl, h0⟩, hI, hM.grow c, Ext.refl f s, c.mono (fun _ _ h => h.elim)⟩
    · exact move_new wf hI hM hz hrY hm (hrc (by omega)) hroom
end
end Go.Proofs.YtogfjclmohpjkaaGreatDoor.L15

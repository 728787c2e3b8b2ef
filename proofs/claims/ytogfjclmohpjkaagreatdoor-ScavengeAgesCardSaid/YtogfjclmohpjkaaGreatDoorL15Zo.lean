/- What Run answers and does where it does not fail. Conditions: the world can be, check finds nothing. -/
import Derived.Deep.Cut
import Derived.Test.YtogfjclmohpjkaaGreatDoorL15Z
namespace Go.Proofs.YtogfjclmohpjkaaGreatDoor.L15
open Go.ChangeShapes Go.WideShapes Go.ChangeAt Go.RowKit Go.Shelf
open Go.Proofs.YtogfjclmohpjkaaGreatDoor.L1 (Sl Ar ptr exB)
open Go.Proofs.YtogfjclmohpjkaaGreatDoor.L5 (Cl clV rtB Tb clAt shX shR shD)
open Go.Proofs.YtogfjclmohpjkaaGreatDoor.L6 (Th th0 stV St fdT fdX obT obX slX slP slV gw Wk)
open Go.Proofs.YtogfjclmohpjkaaGreatDoor.L2 (spV riB orZ hasB)
open Go.Proofs.YtogfjclmohpjkaaGreatDoor.L7 (Ct isd isnew tset tb_touch tb_wipe)
set_option linter.unusedVariables false
set_option maxRecDepth 100000
/-- What a run comes to: the answered roots, the words, the dirty cards. -/
structure Ran (w w' : World) (f : Fx) (z b : Nat) (tp : Option Addr) (g pc mc gc fc tc : Nat) (v : Value) (rs : List Int) (s : Mst) : Prop where
  i : Inv f s
  d : ∀ x ∈ (f.OS ++ s.PO) ++ s.LT, (s.ob x).rs.length ≤ s.dn x
  ol : OL w' w.heap.size v rs
  n : rs.length = f.zs.length
  rs : ∀ j, j < f.zs.length → Led f.y s.mv (f.zs.getD j 0) (rs.getD j 0)
  lo : Low w' z b tp g s.xs f.cs
  ct : Ct w' pc mc gc fc tc (recS (f.y.aft s.ot s.tt) s.ob fc tc (f.OS ++ s.PO))
  c : Chg (fun i => i = g ∨ i = gc) w w'
theorem Yg.Ok.ris {y : Yg} {n : Nat} (h : y.Ok n) : riB y.OF y.OT y.OE = true ∧ riB y.EF y.ET y.EE = true ∧ riB y.FF y.FT y.FE = true ∧ riB y.TF y.TT y.TE = true := by
  obtain ⟨o, e, g, t, -⟩ := h
  refine ⟨?_, ?_, ?_, ?_⟩ <;> simp only [riB, decide_eq_true_eq] <;> omega
theorem chg13 {w0 w : World} {g : Nat} (c : Chg (· = g) w0 w) (a0 a1 a2 a3 a4 a5 a6 a7 a8 a9 a10 a11 a12 : Value) : Chg (· = g) w0 (((((((((((((w.setCell ⟨g, 0, none⟩ a0).setCell ⟨g, 1, none⟩ a1).setCell ⟨g, 2, none⟩ a2).setCell ⟨g, 3, none⟩ a3).setCell ⟨g, 4, none⟩ a4).setCell ⟨g, 5, none⟩ a5).setCell ⟨g, 6, none⟩ a6).setCell ⟨g, 7, none⟩ a7).setCell ⟨g, 8, none⟩ a8).setCell ⟨g, 9, none⟩ a9).setCell ⟨g, 10, none⟩ a10).setCell ⟨g, 11, none⟩ a11).setCell ⟨g, 12, none⟩ a12) :=
  (((((((((((((c.set1 0 a0).set1 1 a1).set1 2 a2).set1 3 a3).set1 4 a4).set1 5 a5).set1 6 a6).set1 7 a7).set1 8 a8).set1 9 a9).set1 10 a10).set1 11 a11).set1 12 a12)
/-- What holds while the roots are gone through. -/
structure Lp (w8 W : World) (f : Fx) (z b : Nat) (tp : Option Addr) (g mb mg base : Nat) (v : Value) (k : Nat) (rs : List Int) (s : Mst) : Prop where
  i : Inv f s
  m : Mg W f s z b tp g mb mg
  ol : OL W base v rs
  n : rs.length = f.zs.length
  led : ∀ j, j < k → j < f.zs.length → Led f.y s.mv (f.zs.getD j 0) (rs.getD j 0)
  raw : ∀ j, k ≤ j → rs.getD j 0 = f.zs.getD j 0
  dn : ∀ x ∈ (f.OS ++ s.PO) ++ s.LT, s.dn x = 0
  c : Chg (fun i => i = g ∨ i = mb ∨ i = mg ∨ some i = v.ownBlock) w8 W
section
variable {w8 W W' : World} {f : Fx} {z b g mb mg base k lb vc N : Nat} {tp va : Option Addr} {v : Value} {rs : List Int} {s s' : Mst} {r' : Int}
theorem Mg.chg1 (h : Mg W f s z b tp g mb mg) (c : Chg (· = lb) W W') (h1 : z ≤ lb) (h2 : mb ≠ lb) (h3 : mg ≠ lb) : Mg W' f s z b tp g mb mg :=
  ⟨h.lo.chg c (fun i e => e ▸ h1), h.bl.chg c h2, h.mv.chg c h3, h.hm, h.hg⟩
theorem Lp.step (h : Lp w8 W f z b tp g mb mg base (.slice (some ⟨lb, 0, none⟩) f.zs.length vc) k rs s) (hk : k < f.zs.length) (hl : Led f.y s'.mv (f.zs.getD k 0) r') (hi : Inv f s') (hm : Mg W' f s' z b tp g mb mg) (he : Ext f s s') (hc : ChM g mb mg W W')
    (h1 : z ≤ lb) (h2 : mb ≠ lb) (h3 : mg ≠ lb) (h4 : g ≠ lb) : Lp w8 (W'.setCell ⟨lb, k, none⟩ (.int .i64 r')) f z b tp g mb mg base (.slice (some ⟨lb, 0, none⟩) f.zs.length vc) (k + 1) (rs.set k r') s' := by
  have hn := h.n
  have ho : OL W' base (.slice (some ⟨lb, 0, none⟩) rs.length vc) rs := by
    have := h.ol.chg hc (fun i e => by
      injection e with e
      rintro (rfl | rfl | rfl)
      · exact h4 e.symm
      · exact h2 e.symm
      · exact h3 e.symm)
    rwa [← hn] at this
  have ho2 := ho.set k r'
  rw [hn] at ho2
  refine ⟨hi, hm.chg1 (Chg.set1 (Chg.refl _ _) k _) h1 h2 h3, ho2, by rw [List.length_set, hn], fun j hj hjl => ?_, fun j hj => ?_, fun x hx => ?_, ?_⟩
  · by_cases e : j = k
    · subst e
      simp only [List.getD_eq_getElem?_getD]
      rw [List.getElem?_set_self (by omega)]
      simpa [List.getD_eq_getElem?_getD] using hl
    · simp only [List.getD_eq_getElem?_getD]
      rw [List.getElem?_set_ne (by omega)]
      simpa [List.getD_eq_getElem?_getD] using (h.led j (by omega) hjl).mono he.mv
  · simp only [List.getD_eq_getElem?_getD]
    rw [List.getElem?_set_ne (by omega)]
    simpa [List.getD_eq_getElem?_getD] using h.raw j (by omega)
  · by_cases hm' : x ∈ (f.OS ++ s.PO) ++ s.LT
    · rw [(he.ob x hm').2.1]
      exact h.dn x hm'
    · exact he.nw x hx hm'
  · exact (h.c.trans (hc.mono (fun i _ hi => by
      rcases hi with hi | hi | hi
      · exact .inl hi
      · exact .inr (.inl hi)
      · exact .inr (.inr (.inl hi))))).setCell (p := ⟨lb, k, none⟩) (fun _ => .inr (.inr (.inr rfl))) _
end
section
variable {w w' W : World} {tp ra : Option Addr} {f : Fx} {xs0 : List Int} {z b g pc mc gc fc tc rn rc : Nat} {S : Nat → Bool}
set_option maxHeartbeats 8000000 in
theorem run_ok (wf : Wf f xs0) (hlo : Low w z b tp g xs0 f.cs) (hz : z ≤ w.heap.size) (hct : Ct w pc mc gc fc tc S) (hzc : z ≤ pc ∧ z ≤ mc ∧ z ≤ gc) (hzs : L1.Rd w ra rn f.zs) (hrn : rn < 1000000) (hroots : ∀ r ∈ f.zs, r = 0 ∨ r ∈ f.all)
    (hroom : (f.y.ET - f.y.EF) + (f.y.FT - f.y.FF) ≤ f.y.OE - f.y.OT)
    (hck : ∀ W, Grow w W → Calls Tryz.prog 38 #[f.y.v, .pointer (some ⟨b, 0, none⟩), stV (some ⟨b, 0, none⟩) tp, .slice ra rn rc, ptr pc] W fun e w' => e = .returned (.int .i64 0) ∧ Grow W w') :
    Calls Tryz.prog 10 #[.pointer (some ⟨b, 0, none⟩), .pointer tp, f.y.v, .slice ra rn rc, ptr pc] w fun e w' => ∃ v rs s, e = .returned (.tuple #[v, (f.y.aft s.ot s.tt).v, .int .i64 0]) ∧ Ran w w' f z b tp g pc mc gc fc tc v rs s := by
  have hn4 : f.n ≤ 4096 := by have := hlo.st.n; have := wf.n; omega
  have hmk : ∀ W, (Instr.makeSlice 37 (.int .i64 (f.n : Int)) (.int .i64 (f.n : Int))).run Tryz.prog W = .ok (.slice (some ⟨W.heap.size, 0, none⟩) f.n f.n) (W.alloc (.cells (ints (zeros f.n)).toArray 3)) := fun W => mk_ints (f.n : Int) (by omega) (by omega) W
  have hln : ∀ W, Grow w W → Calls Tryz.prog 39 #[.pointer (some ⟨b, 0, none⟩)] W fun e w' => e = .returned (.int .i64 (f.n : Int)) ∧ W = w' := fun W c => by
    have := L6.len_any (hlo.st.grow c).ar
    rwa [wf.n] at this
  have HWF := hide wf
  have HLO := hide hlo
  have HZ := hide hz
  have HCT := hide hct
  have HZC := hide hzc
  have HZS := hide hzs
  have HRN := hide hrn
  have HRO := hide hroots
  have HRM := hide hroom
  have HCK := hide hck
  have HLN := hide hln
  have HN4 := hide hn4
  obtain ⟨hy, hr, cc, fy, fr, nyr⟩ := boxes2 w 36 f.y.cells 36 zs13
  dsimp only [zs13, Yg.cells] at hy hr cc
  have HYV := hide (show f.y.v = .agg #[.int .i64 f.y.OF, .int .i64 f.y.OT, .int .i64 f.y.OE, .int .i64 f.y.EF, .int .i64 f.y.ET, .int .i64 f.y.EE, .int .i64 f.y.FF, .int .i64 f.y.FT, .int .i64 f.y.FE, .int .i64 f.y.TF, .int .i64 f.y.TT, .int .i64 f.y.TE, .int .i64 f.y.th] from rfl)
  have HSG0 := hide (show ∀ q, w.heap.size ≤ q → q ≠ g from fun q h e => by have := HLO.out.gz; have := HZ.out; omega)
  clear wf hlo hz hct hzc hzs hrn hroots hroom hck hln hn4
  go_enter Tryz.func10, Tryz.ntmps10
  go_wp2_with fail
  generalize (w.alloc (.cells #[.int .i64 f.y.OF, .int .i64 f.y.OT, .int .i64 f.y.OE, .int .i64 f.y.EF, .int .i64 f.y.ET, .int .i64 f.y.EE, .int .i64 f.y.FF, .int .i64 f.y.FT, .int .i64 f.y.FE, .int .i64 f.y.TF, .int .i64 f.y.TT, .int .i64 f.y.TE, .int .i64 f.y.th] 36)).alloc (.cells #[.int .i64 0, .int .i64 0, .int .i64 0, .int .i64 0, .int .i64 0, .int .i64 0, .int .i64 0, .int .i64 0, .int .i64 0, .int .i64 0, .int .i64 0, .int .i64 0, .int .i64 0] 36) = w3 at *
  generalize w.heap.size + 1 = r at *
  generalize hyb : w.heap.size = yb at *
  refine (L6.on_any (some ⟨b, 0, none⟩) tp w3).mono ?_
  rintro e w4 ⟨rfl, c4⟩
  replace hy := hy.chg c4 id
  replace hr := hr.chg c4 id
  replace cc := cc.trans c4
  clear c4
  have hsb : yb ≤ w4.heap.size := by have := cc.size; omega
  have hs := Blk.new w4 32 [.pointer (some ⟨b, 0, none⟩), .pointer tp]
  replace hy := hy.alloc (.cells [.pointer (some ⟨b, 0, none⟩), .pointer tp].toArray 32)
  replace hr := hr.alloc (.cells [.pointer (some ⟨b, 0, none⟩), .pointer tp].toArray 32)
  replace cc := cc.alloc (.cells [.pointer (some ⟨b, 0, none⟩), .pointer tp].toArray 32)
  obtain ⟨s0, s1⟩ := hs.cell2
  obtain ⟨y0', y1, y2, y3, y4, y5, y6, y7, y8, y9, y10, y11, y12⟩ : YC _ yb f.y := hy.yc
  go_wp2_with fail
  clear s0 s1 y0' y1 y2 y3 y4 y5 y6 y7 y8 y9 y10 y11 y12
  generalize w4.alloc (.cells #[.pointer (some ⟨b, 0, none⟩), .pointer tp] 32) = w5 at *
  generalize w4.heap.size = sb at *
  have hyr : yb ≤ r := by have : w.heap.size ≤ r := fr; omega
  have HSG := hide (show sb ≠ g ∧ r ≠ g from ⟨HSG0.out _ hsb, HSG0.out _ (by omega)⟩)
  have HYR := hide hyr
  clear hyr
  have HNYR := hide nyr
  clear hsb HSG0 nyr
  refine (HCK.out _ cc).mono ?_
  rintro e w6 ⟨rfl, c6⟩
  replace hr := hr.chg c6 id
  replace hy := hy.chg c6 id
  replace hs := hs.chg c6 id
  replace cc := cc.trans c6
  clear c6
  have HY := hide hy
  have HS := hide hs
  have HR := hide hr
  have HC := hide cc
  clear hy hs hr cc
  go_wp2_with fail
  have HK := hide (fun W (c : Grow w6 W) => show W.cell? ⟨sb, 0, none⟩ = some (.pointer (some ⟨b, 0, none⟩)) ∧ W.cell? ⟨sb, 1, none⟩ = some (.pointer tp) ∧ W.cell? ⟨yb, 0, none⟩ = some (.int .i64 f.y.OF) ∧ W.cell? ⟨yb, 1, none⟩ = some (.int .i64 f.y.OT) ∧ W.cell? ⟨yb, 2, none⟩ = some (.int .i64 f.y.OE) ∧ W.cell? ⟨yb, 3, none⟩ = some (.int .i64 f.y.EF) ∧ W.cell? ⟨yb, 4, none⟩ = some (.int .i64 f.y.ET) ∧ W.cell? ⟨yb, 5, none⟩ = some (.int .i64 f.y.EE) ∧ W.cell? ⟨yb, 6, none⟩ = some (.int .i64 f.y.FF) ∧ W.cell? ⟨yb, 7, none⟩ = some (.int .i64 f.y.FT) ∧ W.cell? ⟨yb, 8, none⟩ = some (.int .i64 f.y.FE) ∧ W.cell? ⟨yb, 9, none⟩ = some (.int .i64 f.y.TF) ∧ W.cell? ⟨yb, 10, none⟩ = some (.int .i64 f.y.TT) ∧ W.cell? ⟨yb, 11, none⟩ = some (.int .i64 f.y.TE) ∧ W.cell? ⟨yb, 12, none⟩ = some (.int .i64 f.y.th) from
    ⟨(HS.out.chg c id).cell 0, (HS.out.chg c id).cell 1, (HY.out.chg c id).cell 0, (HY.out.chg c id).cell 1, (HY.out.chg c id).cell 2, (HY.out.chg c id).cell 3, (HY.out.chg c id).cell 4, (HY.out.chg c id).cell 5, (HY.out.chg c id).cell 6, (HY.out.chg c id).cell 7, (HY.out.chg c id).cell 8, (HY.out.chg c id).cell 9, (HY.out.chg c id).cell 10, (HY.out.chg c id).cell 11, (HY.out.chg c id).cell 12⟩)
  have hk0 := HK.out w6 (Chg.refl _ _)
  have HLN2 := hide (fun W (c : Grow w6 W) => HLN.out W (HC.out.trans c))
  go_region_held3 (fun W => W.cell? ⟨sb, 0, none⟩ = some (.pointer (some ⟨b, 0, none⟩)) ∧ W.cell? ⟨sb, 1, none⟩ = some (.pointer tp) ∧ W.cell? ⟨yb, 0, none⟩ = some (.int .i64 f.y.OF) ∧ W.cell? ⟨yb, 1, none⟩ = some (.int .i64 f.y.OT) ∧ W.cell? ⟨yb, 2, none⟩ = some (.int .i64 f.y.OE) ∧ W.cell? ⟨yb, 3, none⟩ = some (.int .i64 f.y.EF) ∧ W.cell? ⟨yb, 4, none⟩ = some (.int .i64 f.y.ET) ∧ W.cell? ⟨yb, 5, none⟩ = some (.int .i64 f.y.EE) ∧ W.cell? ⟨yb, 6, none⟩ = some (.int .i64 f.y.FF) ∧ W.cell? ⟨yb, 7, none⟩ = some (.int .i64 f.y.FT) ∧ W.cell? ⟨yb, 8, none⟩ = some (.int .i64 f.y.FE) ∧ W.cell? ⟨yb, 9, none⟩ = some (.int .i64 f.y.TF) ∧ W.cell? ⟨yb, 10, none⟩ = some (.int .i64 f.y.TT) ∧ W.cell? ⟨yb, 11, none⟩ = some (.int .i64 f.y.TE) ∧ W.cell? ⟨yb, 12, none⟩ = some (.int .i64 f.y.th))
    (first | exact hk0 | exact HK.out _ (Chg.drew (Chg.refl _ _)) | exact HK.out _ ((Chg.drew (Chg.refl _ _)).alloc _) | exact HK.out _ (((Chg.drew (Chg.refl _ _)).alloc _).alloc _))
    (first | (go_at_call 39; with_reducible refine (HLN2.out _ (Chg.drew (Chg.refl _ _))).mono ?_; rintro e w7 ⟨rfl, rfl⟩))
  clear HK hk0 HLN2 hmk
  obtain ⟨hmg, hmb, c7, -, -, -⟩ := boxes2 w6 3 (ints (zeros f.n)) 91 (mvCs b tp f.y f.y.OT f.y.TT w6.heap.size f.n)
  have hmg := hmg.drew
  have hmb := hmb.drew
  have c7 := Chg.drew c7
  have hw7 : w6.heap.size + 1 < ((w6.alloc (.cells (ints (zeros f.n)).toArray 3)).alloc (.cells #[.pointer (some ⟨b, 0, none⟩), .pointer (some ⟨b, 0, none⟩), .pointer tp, .int .i64 f.y.OF, .int .i64 f.y.OT, .int .i64 f.y.OE, .int .i64 f.y.EF, .int .i64 f.y.ET, .int .i64 f.y.EE, .int .i64 f.y.FF, .int .i64 f.y.FT, .int .i64 f.y.FE, .int .i64 f.y.TF, .int .i64 f.y.TT, .int .i64 f.y.TE, .int .i64 f.y.th, .int .i64 f.y.OF, .int .i64 f.y.OT, .int .i64 f.y.OE, .int .i64 f.y.TF, .int .i64 f.y.TT, .int .i64 f.y.TE, .slice (some ⟨w6.heap.size, 0, none⟩) f.n f.n] 91)).drew.heap.size := by simp [World.drew]
  dsimp only [mvCs] at hmb hmg c7
  have hyl := HY.out.lt
  have hsl := HS.out.lt
  have hrl := HR.out.lt
  have hcl := HC.out.size
  generalize ((w6.alloc (.cells (ints (zeros f.n)).toArray 3)).alloc (.cells #[.pointer (some ⟨b, 0, none⟩), .pointer (some ⟨b, 0, none⟩), .pointer tp, .int .i64 f.y.OF, .int .i64 f.y.OT, .int .i64 f.y.OE, .int .i64 f.y.EF, .int .i64 f.y.ET, .int .i64 f.y.EE, .int .i64 f.y.FF, .int .i64 f.y.FT, .int .i64 f.y.FE, .int .i64 f.y.TF, .int .i64 f.y.TT, .int .i64 f.y.TE, .int .i64 f.y.th, .int .i64 f.y.OF, .int .i64 f.y.OT, .int .i64 f.y.OE, .int .i64 f.y.TF, .int .i64 f.y.TT, .int .i64 f.y.TE, .slice (some ⟨w6.heap.size, 0, none⟩) f.n f.n] 91)).drew = w7 at *
  have c7' := HC.out.trans c7
  obtain ⟨mb, hmbe⟩ : ∃ mb, w6.heap.size + 1 = mb := ⟨_, rfl⟩
  obtain ⟨mg, hmge⟩ : ∃ mg, w6.heap.size = mg := ⟨_, rfl⟩
  rw [hmbe, hmge] at hmb
  rw [hmge] at hmg
  rw [hmbe] at hw7
  rw [hmge] at hyl hsl hrl hcl hmbe
  rw [hmge, hmbe]
  clear hmge HLN
  have hTT : f.y.TT = f.y.TF := HWF.out.ok.t.2.1
  have hMg : Mg w7 f ⟨xs0, zeros f.n, f.y.OT, f.y.TF, f.ob, [], [], id, [], fun _ => 0⟩ z b tp g mb mg := by
    have h1 := HLO.out.grow c7'
    have h2 : Blk w7 mb 91 (mvCs b tp f.y f.y.OT f.y.TF mg f.n) := by
      have := hmb
      rw [hTT] at this
      show Blk w7 mb 91 [_, _, _, _, _, _, _, _, _, _, _, _, _, .int .i64 f.y.TT, _, _, _, _, _, _, _, _, _]
      rw [hTT]
      exact this
    have := HZ.out
    exact ⟨h1, h2, hmg, by omega, by omega⟩
  have HM := hide hMg
  have HY7 := hide (HY.out.chg c7 id)
  have HS7 := hide (HS.out.chg c7 id)
  have HR7 := hide (HR.out.chg c7 id)
  have HC7 := hide c7'
  have HB := hide (show yb < mg ∧ sb < mg ∧ r < mg ∧ yb ≤ mg ∧ mg + 1 = mb ∧ mb < w7.heap.size from ⟨hyl, hsl, hrl, by omega, hmbe, hw7⟩)
  clear hmb hmg c7 c7' hyl hsl hrl hcl hTT hMg HY HS HR HC hmbe hw7
  go_wp2_with fail
  refine (clone_any (c := rc) (HZS.out.grow HC7.out) (by have := HRN.out; omega)).mono ?_
  rintro e w8 ⟨v, rfl, hol, c8⟩
  obtain ⟨va, vc, rfl⟩ := own_len hol
  have HLP := hide (show Lp w8 w8 f z b tp g mb mg w7.heap.size (.slice va f.zs.length vc) 0 f.zs ⟨xs0, zeros f.n, f.y.OT, f.y.TF, f.ob, [], [], id, [], fun _ => 0⟩ from ⟨Inv.start HWF.out, HM.out.grow c8, hol, rfl, (fun j h => by omega), (fun j _ => rfl), (fun x _ => rfl), Chg.refl _ _⟩)
  have HY8 := hide (HY7.out.chg c8 id)
  have HS8 := hide (HS7.out.chg c8 id)
  have HR8 := hide (HR7.out.chg c8 id)
  have HC8 := hide (HC7.out.trans c8)
  clear hol c8 HY7 HS7 HR7 HC7 HM
  have HNL := hide (show f.zs.length < 1000000 from by have := HZS.out.1; have := HRN.out; omega)
  obtain ⟨N, hN⟩ : ∃ N, f.zs.length = N := ⟨_, rfl⟩
  have HN := hide hN
  rw [hN]
  clear hN
  go_wp2_with fail
  go_loopw [48] (fun v wr => ∃ (k : Nat) (rsk : List Int) (sk : Mst), k ≤ N ∧ v = .int .i64 k ∧ Lp w8 wr f z b tp g mb mg w7.heap.size (.slice va f.zs.length vc) k rsk sk) (fun v _ => N - (Go.RowKit.intOf v).toNat)
  case atStart => exact ⟨0, _, _, Nat.zero_le _, rfl, HLP.out⟩
  case round =>
    obtain ⟨k, rsk, sk, hk, rfl, hlp⟩ := hrel
    rcases Nat.eq_or_lt_of_le hk with hke | hlt
    · subst hke
      have q1 : decide ((k : Int) < k) = false := by simp
      have HLPK := hide hlp
      clear hlp hk
      go_wp2_with fail
      refine (scan_any HWF.out HLPK.out.i HLPK.out.m (by have := HLPK.out.c.size; have := HZ.out; have := HC8.out.size; omega) HRM.out HLPK.out.dn).mono ?_
      rintro e w9 ⟨s', rfl, hsc, hM9, c9⟩
      have hri := Yg.Ok.ris HWF.out.ok
      have hAF := after_any hM9.bl hri.2.1 hri.2.2.1
      have HAF := hide hAF
      have HSC := hide hsc
      have HM9 := hide hM9
      have HC9 := hide (HLPK.out.c.trans (c9.mono (S := fun i => i = g ∨ i = mb ∨ i = mg ∨ some i = (Value.slice va f.zs.length vc).ownBlock) (fun i _ hi => by
        rcases hi with hi | hi | hi
        · exact .inl hi
        · exact .inr (.inl hi)
        · exact .inr (.inr (.inl hi)))))
      have HOL := hide (HLPK.out.ol.chg c9 (fun j e hj => by
        obtain ⟨h1, h2⟩ := HLPK.out.ol.lt j e
        have := HB.out
        have := HLO.out.gz
        have := HZ.out
        rcases hj with hj | hj | hj <;> omega))
      clear hsc hM9 c9 hri hAF
      go_wp2_with fail
      refine HAF.out.mono ?_
      rintro e w10 ⟨rfl, c10⟩
      have HC10 := hide (HC9.out.trans (c10.mono (fun _ _ h => h.elim)))
      have HM10 := hide (HM9.out.grow c10)
      have HOL10 := hide (HOL.out.grow c10)
      clear c10 HM9 HC9 HAF HOL
      have hyn : ∀ q, q < w7.heap.size → q ≠ g → q ≠ mb → q ≠ mg → ¬ (q = g ∨ q = mb ∨ q = mg ∨ some q = (Value.slice va f.zs.length vc).ownBlock) := fun q h0 h1 h2 h3 h => by
        rcases h with h | h | h | h
        · exact h1 h
        · exact h2 h
        · exact h3 h
        · have := (HOL10.out.lt q h.symm).1
          omega
      have hgz : g < yb := by have := HLO.out.gz; have := HZ.out; omega
      have hy := HY8.out.chg HC10.out (hyn yb (by have := HB.out; omega) (by omega) (by have := HB.out; omega) (by have := HB.out; omega))
      have hs := HS8.out.chg HC10.out (hyn sb (by have := HB.out; omega) HSG.out.1 (by have := HB.out; omega) (by have := HB.out; omega))
      have hr := HR8.out.chg HC10.out (hyn r (by have := HB.out; omega) HSG.out.2 (by have := HB.out; omega) (by have := HB.out; omega))
      have HNE := hide (show ¬ sb = yb ∧ ¬ r = yb from ⟨hs.ne_ hy (by decide), fun e => HNYR.out e.symm⟩)
      obtain ⟨f0, f1, f2, f3, f4, f5, f6, f7, f8, f9, f10, f11, f12⟩ := fr13 hy
      obtain ⟨z0, z1, z2, z3, z4, z5, z6, z7, z8, z9, z10, z11, z12⟩ : YC w10 yb f.y := Blk.yc (y := f.y) hy
      have HY11 := hide (put13 rfl hy (.int .i64 f.y.OF) (.int .i64 s'.ot) (.int .i64 f.y.OE) (.int .i64 f.y.EF) (.int .i64 f.y.EF) (.int .i64 f.y.EE) (.int .i64 f.y.TF) (.int .i64 s'.tt) (.int .i64 f.y.TE) (.int .i64 f.y.FF) (.int .i64 f.y.FF) (.int .i64 f.y.FE) (.int .i64 f.y.th))
      have HC11 := hide (chg13 (Chg.refl (· = yb) w10) (.int .i64 f.y.OF) (.int .i64 s'.ot) (.int .i64 f.y.OE) (.int .i64 f.y.EF) (.int .i64 f.y.EF) (.int .i64 f.y.EE) (.int .i64 f.y.TF) (.int .i64 s'.tt) (.int .i64 f.y.TE) (.int .i64 f.y.FF) (.int .i64 f.y.FF) (.int .i64 f.y.FE) (.int .i64 f.y.th))
      have HAV := hide (show (f.y.aft s'.ot s'.tt).v = .agg #[.int .i64 f.y.OF, .int .i64 s'.ot, .int .i64 f.y.OE, .int .i64 f.y.EF, .int .i64 f.y.EF, .int .i64 f.y.EE, .int .i64 f.y.TF, .int .i64 s'.tt, .int .i64 f.y.TE, .int .i64 f.y.FF, .int .i64 f.y.FF, .int .i64 f.y.FE, .int .i64 f.y.th] from rfl)
      have hav : (f.y.aft s'.ot s'.tt).v = .agg #[.int .i64 f.y.OF, .int .i64 s'.ot, .int .i64 f.y.OE, .int .i64 f.y.EF, .int .i64 f.y.EF, .int .i64 f.y.EE, .int .i64 f.y.TF, .int .i64 s'.tt, .int .i64 f.y.TE, .int .i64 f.y.FF, .int .i64 f.y.FF, .int .i64 f.y.FE, .int .i64 f.y.th] := rfl
      rw [hav]
      clear hy hyn hav
      go_upto_region 14 with fail
      clear f0 f1 f2 f3 f4 f5 f6 f7 f8 f9 f10 f11 f12 z0 z1 z2 z3 z4 z5 z6 z7 z8 z9 z10 z11 z12
      generalize (((((((((((((w10.setCell ⟨yb, 0, none⟩ (.int .i64 f.y.OF)).setCell ⟨yb, 1, none⟩ (.int .i64 s'.ot)).setCell ⟨yb, 2, none⟩ (.int .i64 f.y.OE)).setCell ⟨yb, 3, none⟩ (.int .i64 f.y.EF)).setCell ⟨yb, 4, none⟩ (.int .i64 f.y.EF)).setCell ⟨yb, 5, none⟩ (.int .i64 f.y.EE)).setCell ⟨yb, 6, none⟩ (.int .i64 f.y.TF)).setCell ⟨yb, 7, none⟩ (.int .i64 s'.tt)).setCell ⟨yb, 8, none⟩ (.int .i64 f.y.TE)).setCell ⟨yb, 9, none⟩ (.int .i64 f.y.FF)).setCell ⟨yb, 10, none⟩ (.int .i64 f.y.FF)).setCell ⟨yb, 11, none⟩ (.int .i64 f.y.FE)).setCell ⟨yb, 12, none⟩ (.int .i64 f.y.th)) = w11 at *
      replace hs := hs.chg HC11.out HNE.out.1
      replace hr := hr.chg HC11.out HNE.out.2
      have hgcl : gc < yb := by have := HCT.out.glt; omega
      have hlo11 : Low w11 z b tp g s'.xs f.cs := HM10.out.lo.chg HC11.out (fun i e => by rw [e]; exact HZ.out)
      have hct11 : Ct w11 pc mc gc fc tc S := by
        have h1 := HCT.out.grow HC8.out
        have hp : pc < yb ∧ mc < yb := ⟨by have := HCT.out.plt; omega, by have := HCT.out.mlt; omega⟩
        have hzc := HZC.out
        have hg := HLO.out.gz
        have hB := HB.out
        have hnT : ∀ q, q < yb → z ≤ q → ¬ (q = g ∨ q = mb ∨ q = mg ∨ some q = (Value.slice va f.zs.length vc).ownBlock) := fun q h1 h2 h => by
          rcases h with h | h | h | h
          · omega
          · omega
          · omega
          · have := (HOL10.out.lt q h.symm).1
            omega
        have h2 := h1.chg HC10.out (hnT pc hp.1 hzc.1) (hnT mc hp.2 hzc.2.1) (hnT gc hgcl hzc.2.2)
        exact h2.chg HC11.out (by omega) (by omega) (by omega)
      have hrec := record_any (y := f.y.aft s'.ot s'.tt) (ob := s'.ob) (L := f.OS ++ s'.PO) hlo11 hct11 HZC.out.2.2 HSC.out.i.so (by
        have h1 := HSC.out.i.oo
        have h2 := HWF.out.ok.o
        simp only [riB, decide_eq_true_eq]
        omega)
      have HREC := hide hrec
      clear hrec hlo11 hct11
      obtain ⟨z0, z1, z2, z3, z4, z5, z6, z7, z8, z9, z10, z11, z12⟩ : YC w11 yb (f.y.aft s'.ot s'.tt) := Blk.yc (y := f.y.aft s'.ot s'.tt) HY11.out
      obtain ⟨s0, s1⟩ := hs.cell2
      go_wp2_with fail
      clear z0 z1 z2 z3 z4 z5 z6 z7 z8 z9 z10 z11 z12 s0 s1
      refine HREC.out.mono ?_
      rintro e w12 ⟨rfl, hlo12, hct12, c12⟩
      have HLO12 := hide hlo12
      have HCT12 := hide hct12
      have HC12 := hide c12
      have hy12 := HY11.out.chg c12 (by omega)
      have hr12 := hr.chg c12 (by have := HYR.out; omega)
      clear hlo12 hct12 c12 hs hr HREC
      obtain ⟨z0, z1, z2, z3, z4, z5, z6, z7, z8, z9, z10, z11, z12⟩ : YC w12 yb (f.y.aft s'.ot s'.tt) := Blk.yc (y := f.y.aft s'.ot s'.tt) hy12
      go_upto_region 15 with fail
      go_still_tail 3, (by kernel_rfl)
      change wpList _ _ _ _ _ w12.drew
      clear z0 z1 z2 z3 z4 z5 z6 z7 z8 z9 z10 z11 z12
      have hrd := hr12.drew
      have hcd : Grow w12 w12.drew := Chg.drew (Chg.refl _ _)
      generalize w12.drew = w12d at *
      obtain ⟨f0, f1, f2, f3, f4, f5, f6, f7, f8, f9, f10, f11, f12⟩ := fr13 hrd
      obtain ⟨z0, z1, z2, z3, z4, z5, z6, z7, z8, z9, z10, z11, z12⟩ : YC w12d r y0 := Blk.yc (y := y0) hrd
      have HR13 := hide (put13 rfl hrd (.int .i64 f.y.OF) (.int .i64 s'.ot) (.int .i64 f.y.OE) (.int .i64 f.y.EF) (.int .i64 f.y.EF) (.int .i64 f.y.EE) (.int .i64 f.y.TF) (.int .i64 s'.tt) (.int .i64 f.y.TE) (.int .i64 f.y.FF) (.int .i64 f.y.FF) (.int .i64 f.y.FE) (.int .i64 f.y.th))
      have HC13 := hide (chg13 (Chg.refl (· = r) w12d) (.int .i64 f.y.OF) (.int .i64 s'.ot) (.int .i64 f.y.OE) (.int .i64 f.y.EF) (.int .i64 f.y.EF) (.int .i64 f.y.EE) (.int .i64 f.y.TF) (.int .i64 s'.tt) (.int .i64 f.y.TE) (.int .i64 f.y.FF) (.int .i64 f.y.FF) (.int .i64 f.y.FE) (.int .i64 f.y.th))
      have HCD := hide hcd
      clear hrd hcd hr12 hy12
      go_wp2_with fail
      clear f0 f1 f2 f3 f4 f5 f6 f7 f8 f9 f10 f11 f12 z0 z1 z2 z3 z4 z5 z6 z7 z8 z9 z10 z11 z12
      generalize (((((((((((((w12d.setCell ⟨r, 0, none⟩ (.int .i64 f.y.OF)).setCell ⟨r, 1, none⟩ (.int .i64 s'.ot)).setCell ⟨r, 2, none⟩ (.int .i64 f.y.OE)).setCell ⟨r, 3, none⟩ (.int .i64 f.y.EF)).setCell ⟨r, 4, none⟩ (.int .i64 f.y.EF)).setCell ⟨r, 5, none⟩ (.int .i64 f.y.EE)).setCell ⟨r, 6, none⟩ (.int .i64 f.y.TF)).setCell ⟨r, 7, none⟩ (.int .i64 s'.tt)).setCell ⟨r, 8, none⟩ (.int .i64 f.y.TE)).setCell ⟨r, 9, none⟩ (.int .i64 f.y.FF)).setCell ⟨r, 10, none⟩ (.int .i64 f.y.FF)).setCell ⟨r, 11, none⟩ (.int .i64 f.y.FE)).setCell ⟨r, 12, none⟩ (.int .i64 f.y.th)) = w13 at *
      obtain ⟨z0, z1, z2, z3, z4, z5, z6, z7, z8, z9, z10, z11, z12⟩ : YC w13 r (f.y.aft s'.ot s'.tt) := Blk.yc (y := f.y.aft s'.ot s'.tt) HR13.out
      refine bodyPost_ret (v := .tuple #[.slice va f.zs.length vc, (f.y.aft s'.ot s'.tt).v, .int .i64 0]) (by rw [HN.out]; simp [results, Tryz.results10, go_sem, z0, z1, z2, z3, z4, z5, z6, z7, z8, z9, z10, z11, z12]) rfl ?_
      have hgcb : gc < w7.heap.size := by have := HB.out; omega
      have hrb := HB.out
      have c1 : Chg (fun i => i = gc ∨ i = r) w11 w13 := ((HC12.out.mono (S := fun i => i = gc ∨ i = r) (fun i _ e => .inl e)).trans (HCD.out.mono (fun _ _ h => h.elim))).trans (HC13.out.mono (fun i _ e => .inr e))
      have hyr := HYR.out
      have hlp := HLPK.out
      refine ⟨_, rsk, s', rfl, HSC.out.i, HSC.out.d, ?_, hlp.n, fun j hj => (hlp.led j (by rw [← HN.out]; exact hj) hj).mono HSC.out.mv, ?_, ?_, ?_⟩
      · have h1 := HOL10.out.chg HC11.out (fun j e h => by have := (HOL10.out.lt j e).1; omega)
        have h2 := h1.chg c1 (fun j e h => by
          have := (HOL10.out.lt j e).1
          rcases h with h | h <;> omega)
        exact h2.lower (by omega)
      · exact HLO12.out.chg ((HCD.out.mono (S := (· = r)) (fun _ _ h => h.elim)).trans HC13.out) (fun i e => by have := HZ.out; omega)
      · have hp : pc < r ∧ mc < r := ⟨by have := HCT.out.plt; omega, by have := HCT.out.mlt; omega⟩
        exact HCT12.out.chg ((HCD.out.mono (S := (· = r)) (fun _ _ h => h.elim)).trans HC13.out) (by omega) (by omega) (by omega)
      · have e1 := HC8.out.mono (S := fun i => i = g ∨ i = gc) (fun _ _ h => h.elim)
        have e2 := e1.step HC10.out (fun i hi h => by
          rcases h with h | h | h | h
          · exact .inl h
          · omega
          · omega
          · have := (HOL10.out.lt i h.symm).1
            omega)
        have e3 := e2.step HC11.out (fun i hi h => by omega)
        exact e3.step c1 (fun i hi h => by
          rcases h with h | h
          · exact .inr h
          · omega)
    · have q1 : decide ((k : Int) < N) = true := decide_eq_true (by omega)
      have q2 : k < N := hlt
      have hkl : k < f.zs.length := by rw [HN.out]; exact hlt
      have hlen : rsk.length = f.zs.length := hlp.n
      obtain ⟨lb, c', e1, hlb, hlb2⟩ := hlp.ol.pos (by omega)
      injection e1 with e1 e2 e3
      subst e1
      have hcell : wr.cell? ⟨lb, k, none⟩ = some (.int .i64 (f.zs.getD k 0)) := by
        have := hlp.ol
        rw [← hlen] at this
        rw [← hlp.raw k (Nat.le_refl _)]
        exact this.cell (by omega)
      have hw1 : IntKind.i64.wrap ((k : Int) + 1) = ((k + 1 : Nat) : Int) := (IntWalk.i64_in _ (by have := HNL.out; omega)).trans (by omega)
      have HB2 := hide (And.intro hlb hlb2)
      have HMV := hide (move_any HWF.out hlp.i hlp.m (by have := hlp.c.size; have := HZ.out; have := HC8.out.size; omega) HRM.out (HRO.out _ (getD_mem hkl)) (fun h0 => Rc.rt (getD_mem hkl) h0))
      have HLPK := hide hlp
      have HKL := hide hkl
      clear hlp hk hlen hkl e2 e3 hlb hlb2
      obtain ⟨x, hx⟩ : ∃ x, f.zs.getD k 0 = x := ⟨_, rfl⟩
      rw [hx] at hcell HMV
      have HX := hide hx
      clear hx
      go_wp2_with fail
      refine HMV.out.mono ?_
      rintro e wa ⟨s', r', rfl, hl, hi, hm, he, hc⟩
      have hlbn : z ≤ lb ∧ mb ≠ lb ∧ mg ≠ lb ∧ g ≠ lb := by
        have := HB.out
        have := HB2.out.1
        have := HZ.out
        have := HLO.out.gz
        exact ⟨by omega, by omega, by omega, by omega⟩
      rw [← HX.out] at hl
      have HSTEP := hide (HLPK.out.step HKL.out hl hi hm he hc hlbn.1 hlbn.2.1 hlbn.2.2.1 hlbn.2.2.2)
      have hown := HLPK.out.ol.chg hc (fun i e => by
        injection e with e
        rintro (rfl | rfl | rfl)
        · exact hlbn.2.2.2 e.symm
        · exact hlbn.2.1 e.symm
        · exact hlbn.2.2.1 e.symm)
      have hfr : wa.frozen? ⟨lb, k, none⟩ = false := by
        have := hown
        rw [← HLPK.out.n] at this
        exact this.frozenAt k
      have hca : wa.cell? ⟨lb, k, none⟩ = some (.int .i64 (rsk.getD k 0)) := by
        have := hown
        rw [← HLPK.out.n] at this
        exact this.cell (by rw [HLPK.out.n]; exact HKL.out)
      clear hl hi hm he hc hlbn hown hcell
      go_wp2
      go_roundw
      case rel => exact ⟨k + 1, _, _, q2, rfl, HSTEP.out⟩
      case measure => simp [Go.RowKit.intOf]; omega
end
end Go.Proofs.YtogfjclmohpjkaaGreatDoor.L15

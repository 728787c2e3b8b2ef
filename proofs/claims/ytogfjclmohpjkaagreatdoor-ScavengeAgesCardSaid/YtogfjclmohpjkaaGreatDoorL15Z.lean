/- What Run answers where it fails; spaces that can be. Conditions: check fails. -/
import Derived.Test.YtogfjclmohpjkaaGreatDoorL15X
namespace Go.Proofs.YtogfjclmohpjkaaGreatDoor.L15
open Go.ChangeShapes Go.WideShapes Go.ChangeAt Go.RowKit Go.Shelf
open Go.Proofs.YtogfjclmohpjkaaGreatDoor.L1 (Sl Ar ptr exB)
open Go.Proofs.YtogfjclmohpjkaaGreatDoor.L5 (Cl clV rtB Tb clAt shX shR shD)
open Go.Proofs.YtogfjclmohpjkaaGreatDoor.L6 (Th th0 stV St fdT fdX obT obX slX slP slV gw Wk)
open Go.Proofs.YtogfjclmohpjkaaGreatDoor.L2 (spV riB orZ hasB)
open Go.Proofs.YtogfjclmohpjkaaGreatDoor.L7 (Ct isd isnew tset tb_touch tb_wipe)
set_option linter.unusedVariables false
set_option maxRecDepth 100000
theorem dj_of {F T E F' T' E' : Int} (h : meB ⟨F, T, E⟩ ⟨F', T', E'⟩ = false) : dj F' E' F E := by
  have : ¬ max F F' < min E E' := of_decide_eq_false h
  unfold dj
  omega
theorem Yg.rg_ok {y : Yg} {n : Nat} (h : y.rgB n = true) : y.Ok n := by
  obtain ⟨OF, OT, OE, EF, ET, EE, FF, FT, FE, TF, TT, TE, th⟩ := y
  have e0 : Yg.sps ⟨OF, OT, OE, EF, ET, EE, FF, FT, FE, TF, TT, TE, th⟩ = [⟨OF, OT, OE⟩, ⟨EF, ET, EE⟩, ⟨FF, FT, FE⟩, ⟨TF, TT, TE⟩] := rfl
  simp only [Yg.rgB, finAt, finB, e0, Yg.tl, List.take_zero, List.take_succ_cons, List.getD_cons_zero, List.getD_cons_succ, List.any_nil, List.any_cons, Bool.or_false, Bool.not_or, Bool.and_eq_true, Bool.not_eq_true', decide_eq_true_eq] at h
  obtain ⟨⟨r1, n1, l1, -⟩, ⟨r2, n2, l2, m21⟩, ⟨r3, n3, l3, m31, m32⟩, ⟨r4, n4, l4, m41, m42, m43⟩, t1, t2, t3, t4⟩ := h
  have r1 := L2.ri_true r1
  have r2 := L2.ri_true r2
  have r3 := L2.ri_true r3
  have r4 := L2.ri_true r4
  exact ⟨⟨by dsimp only; omega, by dsimp only; omega, by dsimp only; omega, by dsimp only; omega, by dsimp only; omega⟩, ⟨by dsimp only; omega, by dsimp only; omega, by dsimp only; omega, by dsimp only; omega, by dsimp only; omega⟩, ⟨by dsimp only; omega, by dsimp only; omega, by dsimp only; omega, by dsimp only; omega, by dsimp only; omega⟩, ⟨by dsimp only; omega, by dsimp only; omega, by dsimp only; omega, by dsimp only; omega, by dsimp only; omega⟩,
    dj_of m21, dj_of m31, dj_of m41, dj_of m32, dj_of m42, dj_of m43, by dsimp only; omega, by dsimp only; omega⟩
abbrev y0 : Yg := ⟨0, 0, 0, 0, 0, 0, 0, 0, 0, 0, 0, 0, 0⟩
section
variable {w w' W : World} {p tp : Option Addr} {y : Yg} {X : Int} {rv dv : Value}
set_option maxHeartbeats 4000000 in
theorem run_err (hx : ¬ X = 0) (hck : ∀ W, Grow w W → Calls Tryz.prog 38 #[y.v, .pointer p, stV p tp, rv, dv] W fun e w' => e = .returned (.int .i64 X) ∧ Grow W w') :
    Calls Tryz.prog 10 #[.pointer p, .pointer tp, y.v, rv, dv] w fun e w' => e = .returned (.tuple #[.slice none 0 0, y0.v, .int .i64 X]) ∧ Grow w w' := by
  have HX := hide hx
  have HCK := hide hck
  have qx : (X != 0) = true := by simpa using hx
  obtain ⟨hy, hr, cc, fy, fr, nyr⟩ := boxes2 w 36 y.cells 36 zs13
  dsimp only [zs13, Yg.cells] at hy hr cc
  clear hx hck
  go_enter Tryz.func10, Tryz.ntmps10
  go_wp2_with fail
  generalize (w.alloc (.cells #[.int .i64 y.OF, .int .i64 y.OT, .int .i64 y.OE, .int .i64 y.EF, .int .i64 y.ET, .int .i64 y.EE, .int .i64 y.FF, .int .i64 y.FT, .int .i64 y.FE, .int .i64 y.TF, .int .i64 y.TT, .int .i64 y.TE, .int .i64 y.th] 36)).alloc (.cells #[.int .i64 0, .int .i64 0, .int .i64 0, .int .i64 0, .int .i64 0, .int .i64 0, .int .i64 0, .int .i64 0, .int .i64 0, .int .i64 0, .int .i64 0, .int .i64 0, .int .i64 0] 36) = w3 at *
  generalize w.heap.size + 1 = r at *
  generalize w.heap.size = yb at *
  refine (L6.on_any p tp w3).mono ?_
  rintro e w4 ⟨rfl, c4⟩
  replace hy := hy.chg c4 id
  replace hr := hr.chg c4 id
  replace cc := cc.trans c4
  clear c4
  have hs := Blk.new w4 32 [.pointer p, .pointer tp]
  replace hy := hy.alloc (.cells [.pointer p, .pointer tp].toArray 32)
  replace hr := hr.alloc (.cells [.pointer p, .pointer tp].toArray 32)
  replace cc := cc.alloc (.cells [.pointer p, .pointer tp].toArray 32)
  obtain ⟨s0, s1⟩ := hs.cell2
  obtain ⟨y0', y1, y2, y3, y4, y5, y6, y7, y8, y9, y10, y11, y12⟩ : YC _ yb y := hy.yc
  go_wp2_with fail
  clear s0 s1 y0' y1 y2 y3 y4 y5 y6 y7 y8 y9 y10 y11 y12
  generalize w4.alloc (.cells #[.pointer p, .pointer tp] 32) = w5 at *
  generalize w4.heap.size = sb at *
  refine (HCK.out _ cc).mono ?_
  rintro e w6 ⟨rfl, c6⟩
  replace hr := hr.chg c6 id
  replace cc := cc.trans c6
  clear c6 hs hy
  obtain ⟨f0, f1, f2, f3, f4, f5, f6, f7, f8, f9, f10, f11, f12⟩ := fr13 hr
  have HR := hide (put13 rfl hr (.int .i64 0) (.int .i64 0) (.int .i64 0) (.int .i64 0) (.int .i64 0) (.int .i64 0) (.int .i64 0) (.int .i64 0) (.int .i64 0) (.int .i64 0) (.int .i64 0) (.int .i64 0) (.int .i64 0))
  have HN := hide (new13 fr cc (.int .i64 0) (.int .i64 0) (.int .i64 0) (.int .i64 0) (.int .i64 0) (.int .i64 0) (.int .i64 0) (.int .i64 0) (.int .i64 0) (.int .i64 0) (.int .i64 0) (.int .i64 0) (.int .i64 0))
  obtain ⟨z0, z1, z2, z3, z4, z5, z6, z7, z8, z9, z10, z11, z12⟩ : YC w6 r y0 := Blk.yc (y := y0) hr
  clear hr cc
  go_wp2_with fail
  clear f0 f1 f2 f3 f4 f5 f6 f7 f8 f9 f10 f11 f12 z0 z1 z2 z3 z4 z5 z6 z7 z8 z9 z10 z11 z12
  generalize (((((((((((((w6.setCell ⟨r, 0, none⟩ (.int .i64 0)).setCell ⟨r, 1, none⟩ (.int .i64 0)).setCell ⟨r, 2, none⟩ (.int .i64 0)).setCell ⟨r, 3, none⟩ (.int .i64 0)).setCell ⟨r, 4, none⟩ (.int .i64 0)).setCell ⟨r, 5, none⟩ (.int .i64 0)).setCell ⟨r, 6, none⟩ (.int .i64 0)).setCell ⟨r, 7, none⟩ (.int .i64 0)).setCell ⟨r, 8, none⟩ (.int .i64 0)).setCell ⟨r, 9, none⟩ (.int .i64 0)).setCell ⟨r, 10, none⟩ (.int .i64 0)).setCell ⟨r, 11, none⟩ (.int .i64 0)).setCell ⟨r, 12, none⟩ (.int .i64 0)) = w7 at *
  obtain ⟨z0, z1, z2, z3, z4, z5, z6, z7, z8, z9, z10, z11, z12⟩ : YC w7 r y0 := Blk.yc (y := y0) HR.out
  refine bodyPost_ret (v := .tuple #[.slice none 0 0, y0.v, .int .i64 X]) (by simp [results, Tryz.results10, go_sem, z0, z1, z2, z3, z4, z5, z6, z7, z8, z9, z10, z11, z12]) rfl ?_
  exact ⟨rfl, HN.out⟩
end
end Go.Proofs.YtogfjclmohpjkaaGreatDoor.L15

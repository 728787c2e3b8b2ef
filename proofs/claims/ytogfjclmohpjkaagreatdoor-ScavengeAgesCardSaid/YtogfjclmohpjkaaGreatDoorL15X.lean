/- What after answers. Conditions: the spaces can be. -/
import Derived.Test.YtogfjclmohpjkaaGreatDoorL15U
import Derived.Test.YtogfjclmohpjkaaGreatDoorL15G
namespace Go.Proofs.YtogfjclmohpjkaaGreatDoor.L15
open Go.ChangeShapes Go.WideShapes Go.ChangeAt Go.RowKit Go.Shelf
open Go.Proofs.YtogfjclmohpjkaaGreatDoor.L1 (Sl Ar ptr exB)
open Go.Proofs.YtogfjclmohpjkaaGreatDoor.L5 (Cl clV rtB Tb clAt shX shR shD)
open Go.Proofs.YtogfjclmohpjkaaGreatDoor.L6 (Th th0 stV St fdT fdX obT obX slX slP slV gw Wk)
open Go.Proofs.YtogfjclmohpjkaaGreatDoor.L2 (spV riB orZ hasB)
set_option linter.unusedVariables false
set_option maxRecDepth 100000
/-- The spaces behind it. -/
abbrev Yg.aft (y : Yg) (ot tt : Int) : Yg := ⟨y.OF, ot, y.OE, y.EF, y.EF, y.EE, y.TF, tt, y.TE, y.FF, y.FF, y.FE, y.th⟩
section
variable {w w' W : World} {tp : Option Addr} {n b mb mg : Nat} {y : Yg} {ot tt : Int}
abbrev zs13 : List Value := [.int .i64 0, .int .i64 0, .int .i64 0, .int .i64 0, .int .i64 0, .int .i64 0, .int .i64 0, .int .i64 0, .int .i64 0, .int .i64 0, .int .i64 0, .int .i64 0, .int .i64 0]
theorem fr13 {t : TypeId} {r : Nat} {cs : List Value} (h : Blk w r t cs) : w.frozen? ⟨r, 0, none⟩ = false ∧ w.frozen? ⟨r, 1, none⟩ = false ∧ w.frozen? ⟨r, 2, none⟩ = false ∧ w.frozen? ⟨r, 3, none⟩ = false ∧ w.frozen? ⟨r, 4, none⟩ = false ∧ w.frozen? ⟨r, 5, none⟩ = false ∧ w.frozen? ⟨r, 6, none⟩ = false ∧ w.frozen? ⟨r, 7, none⟩ = false ∧ w.frozen? ⟨r, 8, none⟩ = false ∧ w.frozen? ⟨r, 9, none⟩ = false ∧ w.frozen? ⟨r, 10, none⟩ = false ∧ w.frozen? ⟨r, 11, none⟩ = false ∧ w.frozen? ⟨r, 12, none⟩ = false :=
  ⟨h.frozen 0, h.frozen 1, h.frozen 2, h.frozen 3, h.frozen 4, h.frozen 5, h.frozen 6, h.frozen 7, h.frozen 8, h.frozen 9, h.frozen 10, h.frozen 11, h.frozen 12⟩
theorem put13 {t : TypeId} {g : Nat} {cs : List Value} (hl : cs.length = 13) (h : Blk w g t cs) (a0 a1 a2 a3 a4 a5 a6 a7 a8 a9 a10 a11 a12 : Value) : Blk (((((((((((((w.setCell ⟨g, 0, none⟩ a0).setCell ⟨g, 1, none⟩ a1).setCell ⟨g, 2, none⟩ a2).setCell ⟨g, 3, none⟩ a3).setCell ⟨g, 4, none⟩ a4).setCell ⟨g, 5, none⟩ a5).setCell ⟨g, 6, none⟩ a6).setCell ⟨g, 7, none⟩ a7).setCell ⟨g, 8, none⟩ a8).setCell ⟨g, 9, none⟩ a9).setCell ⟨g, 10, none⟩ a10).setCell ⟨g, 11, none⟩ a11).setCell ⟨g, 12, none⟩ a12) g t [a0, a1, a2, a3, a4, a5, a6, a7, a8, a9, a10, a11, a12] := by
  have := (((((((((((((h.set_ 0 a0).set_ 1 a1).set_ 2 a2).set_ 3 a3).set_ 4 a4).set_ 5 a5).set_ 6 a6).set_ 7 a7).set_ 8 a8).set_ 9 a9).set_ 10 a10).set_ 11 a11).set_ 12 a12)
  obtain ⟨c0, c1, c2, c3, c4, c5, c6, c7, c8, c9, c10, c11, c12, rfl⟩ : ∃ c0 c1 c2 c3 c4 c5 c6 c7 c8 c9 c10 c11 c12, cs = [c0, c1, c2, c3, c4, c5, c6, c7, c8, c9, c10, c11, c12] := by
    match cs, hl with
    | [c0, c1, c2, c3, c4, c5, c6, c7, c8, c9, c10, c11, c12], _ => exact ⟨c0, c1, c2, c3, c4, c5, c6, c7, c8, c9, c10, c11, c12, rfl⟩
  exact this
theorem new13 {w0 : World} {g : Nat} (f : Fresh w0 g) (c : Grow w0 w) (a0 a1 a2 a3 a4 a5 a6 a7 a8 a9 a10 a11 a12 : Value) : Grow w0 (((((((((((((w.setCell ⟨g, 0, none⟩ a0).setCell ⟨g, 1, none⟩ a1).setCell ⟨g, 2, none⟩ a2).setCell ⟨g, 3, none⟩ a3).setCell ⟨g, 4, none⟩ a4).setCell ⟨g, 5, none⟩ a5).setCell ⟨g, 6, none⟩ a6).setCell ⟨g, 7, none⟩ a7).setCell ⟨g, 8, none⟩ a8).setCell ⟨g, 9, none⟩ a9).setCell ⟨g, 10, none⟩ a10).setCell ⟨g, 11, none⟩ a11).setCell ⟨g, 12, none⟩ a12) :=
  f.put (f.put (f.put (f.put (f.put (f.put (f.put (f.put (f.put (f.put (f.put (f.put (f.put (c) 0 a0) 1 a1) 2 a2) 3 a3) 4 a4) 5 a5) 6 a6) 7 a7) 8 a8) 9 a9) 10 a10) 11 a11) 12 a12
set_option maxHeartbeats 4000000 in
theorem after_any (hb : Blk w mb 91 (mvCs b tp y ot tt mg n)) (he : riB y.EF y.ET y.EE = true) (hf : riB y.FF y.FT y.FE = true) :
    Calls Tryz.prog 43 #[ptr mb] w fun e w' => e = .returned ((y.aft ot tt).v) ∧ Grow w w' := by
  obtain ⟨hr, ht, cc, fr, ft, nrt⟩ := boxes2 w 36 zs13 36 y.cells
  have hb3 := hb.chg cc id
  have HE := hide he
  have HF := hide hf
  obtain ⟨m3, m4, m5, m6, m7, m8, m9, m10, m11, m12, m13, m14, m15⟩ := mv_y (hb.chg (Grow.box w (.cells zs13.toArray 36)) id)
  clear hb he hf
  dsimp only [zs13, Yg.cells] at hr ht cc hb3 m3 m4 m5 m6 m7 m8 m9 m10 m11 m12 m13 m14 m15
  go_enter Tryz.func43, Tryz.ntmps43
  go_wp2_with fail
  clear m3 m4 m5 m6 m7 m8 m9 m10 m11 m12 m13 m14 m15
  generalize (w.alloc (.cells #[.int .i64 0, .int .i64 0, .int .i64 0, .int .i64 0, .int .i64 0, .int .i64 0, .int .i64 0, .int .i64 0, .int .i64 0, .int .i64 0, .int .i64 0, .int .i64 0, .int .i64 0] 36)).alloc (.cells #[.int .i64 y.OF, .int .i64 y.OT, .int .i64 y.OE, .int .i64 y.EF, .int .i64 y.ET, .int .i64 y.EE, .int .i64 y.FF, .int .i64 y.FT, .int .i64 y.FE, .int .i64 y.TF, .int .i64 y.TT, .int .i64 y.TE, .int .i64 y.th] 36) = w3 at *
  generalize w.heap.size + 1 = q at *
  generalize w.heap.size = r at *
  obtain ⟨y0, y1, y2, y3, y4, y5, y6, y7, y8, y9, y10, y11, y12⟩ : YC w3 q y := ht.yc
  obtain ⟨-, m16, m17, m18, m19, m20, m21, -⟩ := mv_cells hb3
  refine wp_region_grow_tail 17 (by kernel_rfl) (by kernel_rfl) ?_
  simp only [List.take_succ_cons, List.take_zero, List.drop_succ_cons, List.drop_zero]
  repeat (
    with_reducible refine wpQuiet_step ?_
    intro K hK
    first
      | ((with_reducible refine quiet_offT rfl ?_ (hK _ ?_)); focus (refine ⟨_, rfl, ?_⟩; with_reducible rfl))
      | ((with_reducible refine quiet_offF rfl ?_ (hK _ ?_)); focus (refine ⟨_, rfl, ?_⟩; with_reducible rfl))
      | ((with_reducible refine quiet_offN rfl ?_ (hK _ ?_)); focus (exact rfl))
      | ((first | with_reducible refine quiet_free rfl ?_ | ((with_reducible refine quiet_on rfl ?_ ?_); focus (refine ⟨_, rfl, ?_⟩; with_reducible rfl)))
         apply Exists.intro
         refine ⟨fun Wq hW => ?_, hK _ ?_⟩
         focus (have q0 := Grow.cell hW y3; have q1 := Grow.cell hW y4; have q2 := Grow.cell hW y5; have q3 := Grow.cell hW y6; have q4 := Grow.cell hW y7; have q5 := Grow.cell hW y8; have q6 := Grow.cell hW y12; have q7 := Grow.cell hW m16; have q8 := Grow.cell hW m17; have q9 := Grow.cell hW m18; have q10 := Grow.cell hW m19; have q11 := Grow.cell hW m20; have q12 := Grow.cell hW m21; go_simp; first | done | with_reducible rfl | (go_at_call 81; (first | with_reducible exact grown_call hW (L2.empty_ok y.EF y.ET y.EE _ HE.out) | with_reducible exact grown_same hW (L2.empty_ok y.EF y.ET y.EE _ HE.out))) | (go_at_call 81; (first | with_reducible exact grown_call hW (L2.empty_ok y.FF y.FT y.FE _ HF.out) | with_reducible exact grown_same hW (L2.empty_ok y.FF y.FT y.FE _ HF.out)))))
    clear hK K
    simp only [Act.put, List.setIfInBounds_toArray, List.set_cons_zero, List.set_cons_succ])
  with_reducible refine wpQuiet_nil ?_
  intro w5 c5
  clear y0 y1 y2 y3 y4 y5 y6 y7 y8 y9 y10 y11 y12 m16 m17 m18 m19 m20 m21
  replace hr := hr.chg c5 id
  replace cc := cc.trans c5
  clear c5 ht hb3
  obtain ⟨f0, f1, f2, f3, f4, f5, f6, f7, f8, f9, f10, f11, f12⟩ := fr13 hr
  obtain ⟨z0, z1, z2, z3, z4, z5, z6, z7, z8, z9, z10, z11, z12⟩ := Blk.yc (y := ⟨0, 0, 0, 0, 0, 0, 0, 0, 0, 0, 0, 0, 0⟩) hr
  have HR := hide (put13 rfl hr (.int .i64 y.OF) (.int .i64 ot) (.int .i64 y.OE) (.int .i64 y.EF) (.int .i64 y.EF) (.int .i64 y.EE) (.int .i64 y.TF) (.int .i64 tt) (.int .i64 y.TE) (.int .i64 y.FF) (.int .i64 y.FF) (.int .i64 y.FE) (.int .i64 y.th))
  have HN := hide (new13 fr cc (.int .i64 y.OF) (.int .i64 ot) (.int .i64 y.OE) (.int .i64 y.EF) (.int .i64 y.EF) (.int .i64 y.EE) (.int .i64 y.TF) (.int .i64 tt) (.int .i64 y.TE) (.int .i64 y.FF) (.int .i64 y.FF) (.int .i64 y.FE) (.int .i64 y.th))
  clear hr cc
  go_wp2_with fail
  clear f0 f1 f2 f3 f4 f5 f6 f7 f8 f9 f10 f11 f12 z0 z1 z2 z3 z4 z5 z6 z7 z8 z9 z10 z11 z12
  generalize (((((((((((((w5.setCell ⟨r, 0, none⟩ (.int .i64 y.OF)).setCell ⟨r, 1, none⟩ (.int .i64 ot)).setCell ⟨r, 2, none⟩ (.int .i64 y.OE)).setCell ⟨r, 3, none⟩ (.int .i64 y.EF)).setCell ⟨r, 4, none⟩ (.int .i64 y.EF)).setCell ⟨r, 5, none⟩ (.int .i64 y.EE)).setCell ⟨r, 6, none⟩ (.int .i64 y.TF)).setCell ⟨r, 7, none⟩ (.int .i64 tt)).setCell ⟨r, 8, none⟩ (.int .i64 y.TE)).setCell ⟨r, 9, none⟩ (.int .i64 y.FF)).setCell ⟨r, 10, none⟩ (.int .i64 y.FF)).setCell ⟨r, 11, none⟩ (.int .i64 y.FE)).setCell ⟨r, 12, none⟩ (.int .i64 y.th)) = w6 at *
  obtain ⟨z0, z1, z2, z3, z4, z5, z6, z7, z8, z9, z10, z11, z12⟩ : YC w6 r (y.aft ot tt) := Blk.yc (y := y.aft ot tt) HR.out
  refine bodyPost_ret (v := (y.aft ot tt).v) (by simp [results, Tryz.results43, go_sem, z0, z1, z2, z3, z4, z5, z6, z7, z8, z9, z10, z11, z12]) rfl ?_
  exact ⟨rfl, HN.out⟩
end
end Go.Proofs.YtogfjclmohpjkaaGreatDoor.L15

/- What check answers; it only makes memory. Conditions: as each part says. -/
import Derived.Test.YtogfjclmohpjkaaGreatDoorL15S
import Derived.Test.YtogfjclmohpjkaaGreatDoorL7A
namespace Go.Proofs.YtogfjclmohpjkaaGreatDoor.L15
open Go.ChangeShapes Go.WideShapes Go.ChangeAt Go.RowKit Go.Shelf
open Go.Proofs.YtogfjclmohpjkaaGreatDoor.L1 (Sl Ar ptr exB)
open Go.Proofs.YtogfjclmohpjkaaGreatDoor.L5 (Cl clV rtB Tb clAt shX shR shD)
open Go.Proofs.YtogfjclmohpjkaaGreatDoor.L6 (Th th0 stV St fdT fdX obT obX slX slP slV gw Wk)
open Go.Proofs.YtogfjclmohpjkaaGreatDoor.L2 (spV riB orZ hasB)
open Go.Proofs.YtogfjclmohpjkaaGreatDoor.L7 (Ct isd)
set_option linter.unusedVariables false
set_option maxRecDepth 100000
theorem Yg.rg_ri {y : Yg} {n : Int} (h : y.rgB n = true) : riB y.OF y.OT y.OE = true ∧ riB y.EF y.ET y.EE = true ∧ riB y.FF y.FT y.FE = true ∧ riB y.TF y.TT y.TE = true := by
  simp only [Yg.rgB, finAt, finB, Bool.and_eq_true] at h
  exact ⟨h.1.1, h.2.1.1, h.2.2.1.1, h.2.2.2.1.1⟩
abbrev Yg.s3 (y : Yg) : List Sp := [⟨y.OF, y.OT, y.OE⟩, ⟨y.EF, y.ET, y.EE⟩, ⟨y.FF, y.FT, y.FE⟩]
/-- Is an object old, clean, with a reference to a young one? -/
def badB (y : Yg) (S : Nat → Bool) (f t : Nat) (ob : Int → Ob) (x : Int) : Bool := hasB y.OF y.OT y.OE x && (!(isd S f t x) && y.ld (ob x))
section
variable {w w' W : World} {p tp a ra : Option Addr} {g n m c b q rn rc pc mc gc f t : Nat} {xs L rs : List Int} {v : Value} {x e : Int} {cs : List Cl} {ob : Int → Ob} {y : Yg} {S : Nat → Bool}
set_option maxHeartbeats 2000000 in
theorem chk_arg (h : St w p tp g xs cs) (hr : y.rgB xs.length = false) (dv rv : Value) :
    Calls Tryz.prog 38 #[y.v, .pointer p, stV p tp, rv, dv] w fun en w' => en = .returned (.int .i64 1) ∧ Grow w w' := by
  have H := hide h
  have HRG := hide hr
  clear h hr
  obtain ⟨hy, hs, cc, -, -, -⟩ := boxes2 w 36 y.cells 32 [.pointer p, .pointer tp]
  have HR := hide (right_any y (xs.length : Int))
  obtain ⟨OF, OT, OE, EF, ET, EE, FF, FT, FE, TF, TT, TE, th⟩ := y
  dsimp only [Yg.cells] at hy hs cc
  try dsimp only [badB]
  go_enter Tryz.func38, Tryz.ntmps38
  go_wp2_with fail
  generalize (w.alloc (.cells #[.int .i64 OF, .int .i64 OT, .int .i64 OE, .int .i64 EF, .int .i64 ET, .int .i64 EE, .int .i64 FF, .int .i64 FT, .int .i64 FE, .int .i64 TF, .int .i64 TT, .int .i64 TE, .int .i64 th] 36)).alloc (.cells #[.pointer p, .pointer tp] 32) = w3 at *
  generalize w.heap.size + 1 = s at *
  generalize w.heap.size = b at *
  obtain ⟨y0, y1, y2, y3, y4, y5, y6, y7, y8, y9, y10, y11, y12⟩ : YC w3 b ⟨OF, OT, OE, EF, ET, EE, FF, FT, FE, TF, TT, TE, th⟩ := hy.yc (y := ⟨OF, OT, OE, EF, ET, EE, FF, FT, FE, TF, TT, TE, th⟩)
  dsimp only at y0 y1 y2 y3 y4 y5 y6 y7 y8 y9 y10 y11 y12
  have HC := hide cc
  have HLN := hide (fun W (c : Grow w3 W) => L6.len_any (H.out.grow (HC.out.trans c)).ar)
  rw [HRG.out] at HR
  refine wp_region_grow (by kernel_rfl) (by kernel_rfl) ?_
  repeat (
    with_reducible refine wpQuiet_step ?_
    intro K hK
    first
      | ((with_reducible refine quiet_offT rfl ?_ (hK _ ?_)); focus (refine ⟨_, rfl, ?_⟩; with_reducible rfl))
      | ((with_reducible refine quiet_offF rfl ?_ (hK _ ?_)); focus (refine ⟨_, rfl, ?_⟩; with_reducible rfl))
      | ((with_reducible refine quiet_offN rfl ?_ (hK _ ?_)); focus (exact rfl))
      | ((first | with_reducible refine quiet_free rfl ?_ | ((with_reducible refine quiet_on rfl ?_ ?_); focus (refine ⟨_, rfl, ?_⟩; with_reducible rfl)))
         apply Exists.intro
         refine ⟨fun Wq hW => ?_, hK _ ?_⟩
         focus (have q0 := Grow.cell hW y0; have q1 := Grow.cell hW y1; have q2 := Grow.cell hW y2; have q3 := Grow.cell hW y3; have q4 := Grow.cell hW y4; have q5 := Grow.cell hW y5; have q6 := Grow.cell hW y6; have q7 := Grow.cell hW y7; have q8 := Grow.cell hW y8; have q9 := Grow.cell hW y9; have q10 := Grow.cell hW y10; have q11 := Grow.cell hW y11; have q12 := Grow.cell hW y12; go_simp; first | done | with_reducible rfl | (go_at_call 39; (first | with_reducible exact grown_call hW (HLN.out _ hW) | with_reducible exact grown_same hW (HLN.out _ hW))) | (go_at_call 72; (first | with_reducible exact grown_call hW (HR.out _) | with_reducible exact grown_same hW (HR.out _)))))
    clear hK K
    simp only [Act.put, List.setIfInBounds_toArray, List.set_cons_zero, List.set_cons_succ])
  with_reducible refine wpQuiet_nil ?_
  intro w5 c5
  replace hy := hy.chg c5 id
  replace hs := hs.chg c5 id
  replace cc := cc.trans c5
  clear c5 y0 y1 y2 y3 y4 y5 y6 y7 y8 y9 y10 y11 y12 HC HLN
  go_wp2
  go_ret
  exact ⟨rfl, cc⟩
set_option maxHeartbeats 2000000 in
theorem chk_walk (h : St w p tp g xs cs) (hr : y.rgB xs.length = true) (hw : Wks xs cs y.s3 L e) (he : ¬ e = 0) (dv rv : Value) :
    Calls Tryz.prog 38 #[y.v, .pointer p, stV p tp, rv, dv] w fun en w' => en = .returned (.int .i64 12) ∧ Grow w w' := by
  have H := hide h
  have HRG := hide hr
  have HW := hide hw
  have HE := hide he
  have qe : (e != 0) = true := by simpa using he
  obtain ⟨r1, r2, r3, r4⟩ := Yg.rg_ri hr
  have H64 := hide (show ∀ s ∈ y.s3, s.F ≤ 9223372036854775807 ∧ s.T ≤ 9223372036854775807 from by
    have := L2.ri_true r1
    have := L2.ri_true r2
    have := L2.ri_true r3
    intro s hs
    simp only [Yg.s3, List.mem_cons, List.not_mem_nil, or_false] at hs
    rcases hs with rfl | rfl | rfl <;> dsimp only <;> omega)
  clear h hr hw he r1 r2 r3 r4
  obtain ⟨hy, hs, cc, -, -, -⟩ := boxes2 w 36 y.cells 32 [.pointer p, .pointer tp]
  have HR := hide (right_any y (xs.length : Int))
  obtain ⟨OF, OT, OE, EF, ET, EE, FF, FT, FE, TF, TT, TE, th⟩ := y
  dsimp only [Yg.cells] at hy hs cc
  try dsimp only [badB]
  go_enter Tryz.func38, Tryz.ntmps38
  go_wp2_with fail
  generalize (w.alloc (.cells #[.int .i64 OF, .int .i64 OT, .int .i64 OE, .int .i64 EF, .int .i64 ET, .int .i64 EE, .int .i64 FF, .int .i64 FT, .int .i64 FE, .int .i64 TF, .int .i64 TT, .int .i64 TE, .int .i64 th] 36)).alloc (.cells #[.pointer p, .pointer tp] 32) = w3 at *
  generalize w.heap.size + 1 = s at *
  generalize w.heap.size = b at *
  obtain ⟨y0, y1, y2, y3, y4, y5, y6, y7, y8, y9, y10, y11, y12⟩ : YC w3 b ⟨OF, OT, OE, EF, ET, EE, FF, FT, FE, TF, TT, TE, th⟩ := hy.yc (y := ⟨OF, OT, OE, EF, ET, EE, FF, FT, FE, TF, TT, TE, th⟩)
  dsimp only at y0 y1 y2 y3 y4 y5 y6 y7 y8 y9 y10 y11 y12
  have HC := hide cc
  have HLN := hide (fun W (c : Grow w3 W) => L6.len_any (H.out.grow (HC.out.trans c)).ar)
  rw [HRG.out] at HR
  refine wp_region_grow (by kernel_rfl) (by kernel_rfl) ?_
  repeat (
    with_reducible refine wpQuiet_step ?_
    intro K hK
    first
      | ((with_reducible refine quiet_offT rfl ?_ (hK _ ?_)); focus (refine ⟨_, rfl, ?_⟩; with_reducible rfl))
      | ((with_reducible refine quiet_offF rfl ?_ (hK _ ?_)); focus (refine ⟨_, rfl, ?_⟩; with_reducible rfl))
      | ((with_reducible refine quiet_offN rfl ?_ (hK _ ?_)); focus (exact rfl))
      | ((first | with_reducible refine quiet_free rfl ?_ | ((with_reducible refine quiet_on rfl ?_ ?_); focus (refine ⟨_, rfl, ?_⟩; with_reducible rfl)))
         apply Exists.intro
         refine ⟨fun Wq hW => ?_, hK _ ?_⟩
         focus (have q0 := Grow.cell hW y0; have q1 := Grow.cell hW y1; have q2 := Grow.cell hW y2; have q3 := Grow.cell hW y3; have q4 := Grow.cell hW y4; have q5 := Grow.cell hW y5; have q6 := Grow.cell hW y6; have q7 := Grow.cell hW y7; have q8 := Grow.cell hW y8; have q9 := Grow.cell hW y9; have q10 := Grow.cell hW y10; have q11 := Grow.cell hW y11; have q12 := Grow.cell hW y12; go_simp; first | done | with_reducible rfl | (go_at_call 39; (first | with_reducible exact grown_call hW (HLN.out _ hW) | with_reducible exact grown_same hW (HLN.out _ hW))) | (go_at_call 72; (first | with_reducible exact grown_call hW (HR.out _) | with_reducible exact grown_same hW (HR.out _)))))
    clear hK K
    simp only [Act.put, List.setIfInBounds_toArray, List.set_cons_zero, List.set_cons_succ])
  with_reducible refine wpQuiet_nil ?_
  intro w5 c5
  replace hy := hy.chg c5 id
  replace hs := hs.chg c5 id
  replace cc := cc.trans c5
  clear c5 y0 y1 y2 y3 y4 y5 y6 y7 y8 y9 y10 y11 y12 HC HLN
  obtain ⟨y0, y1, y2, y3, y4, y5, y6, y7, y8, -⟩ : YC w5 b ⟨OF, OT, OE, EF, ET, EE, FF, FT, FE, TF, TT, TE, th⟩ := hy.yc (y := ⟨OF, OT, OE, EF, ET, EE, FF, FT, FE, TF, TT, TE, th⟩)
  dsimp only at y0 y1 y2 y3 y4 y5 y6 y7 y8
  obtain ⟨s0, s1⟩ := hs.cell2
  have hb3 : Blk (w5.alloc (.cells [.int .i64 OF, .int .i64 OT, .int .i64 OE, .int .i64 EF, .int .i64 ET, .int .i64 EE, .int .i64 FF, .int .i64 FT, .int .i64 FE].toArray 34)) w5.heap.size 34 (spCs [⟨OF, OT, OE⟩, ⟨EF, ET, EE⟩, ⟨FF, FT, FE⟩]) := Blk.new _ _ _
  go_wp2_with fail
  clear y0 y1 y2 y3 y4 y5 y6 y7 y8 s0 s1
  replace hy := hy.alloc (.cells [.int .i64 OF, .int .i64 OT, .int .i64 OE, .int .i64 EF, .int .i64 ET, .int .i64 EE, .int .i64 FF, .int .i64 FT, .int .i64 FE].toArray 34)
  replace hs := hs.alloc (.cells [.int .i64 OF, .int .i64 OT, .int .i64 OE, .int .i64 EF, .int .i64 ET, .int .i64 EE, .int .i64 FF, .int .i64 FT, .int .i64 FE].toArray 34)
  replace cc := cc.alloc (.cells [.int .i64 OF, .int .i64 OT, .int .i64 OE, .int .i64 EF, .int .i64 ET, .int .i64 EE, .int .i64 FF, .int .i64 FT, .int .i64 FE].toArray 34)
  generalize w5.alloc (.cells #[.int .i64 OF, .int .i64 OT, .int .i64 OE, .int .i64 EF, .int .i64 ET, .int .i64 EE, .int .i64 FF, .int .i64 FT, .int .i64 FE] 34) = w6 at *
  generalize w5.heap.size = q3 at *
  refine (walk_any (H.out.grow cc) hb3 rfl (by simp) H64.out HW.out).mono ?_
  rintro en w7 ⟨c7, ⟨h0, _⟩ | ⟨_, rfl⟩⟩
  · exact absurd h0 HE.out
  go_wp2
  go_ret
  exact ⟨rfl, cc.trans c7⟩
set_option maxHeartbeats 2000000 in
theorem chk_clo (h : St w p tp g xs cs) (hr : y.rgB xs.length = true) (hw : Wks xs cs y.s3 L 0) (hll : L.length ≤ 100000) (hat : ∀ x ∈ L, ObAt xs cs x (ob x)) (hz : L1.Rd w ra rn rs) (hrn : rn < 1000000) (hc : cloB ob L rs = false) (dv : Value) :
    Calls Tryz.prog 38 #[y.v, .pointer p, stV p tp, .slice ra rn rc, dv] w fun en w' => en = .returned (.int .i64 12) ∧ Grow w w' := by
  have H := hide h
  have HRG := hide hr
  have HW := hide hw
  have HAT := hide hat
  have HZ := hide hz
  have HRN := hide hrn
  obtain ⟨r1, r2, r3, r4⟩ := Yg.rg_ri hr
  have HLL := hide hll
  have H64 := hide (show ∀ s ∈ y.s3, s.F ≤ 9223372036854775807 ∧ s.T ≤ 9223372036854775807 from by
    have := L2.ri_true r1
    have := L2.ri_true r2
    have := L2.ri_true r3
    intro s hs
    simp only [Yg.s3, List.mem_cons, List.not_mem_nil, or_false] at hs
    rcases hs with rfl | rfl | rfl <;> dsimp only <;> omega)
  have R1 := hide r1
  have R2 := hide r2
  have R3 := hide r3
  clear h hr hw hll hat hz hrn r1 r2 r3 r4
  obtain ⟨hy, hs, cc, -, -, -⟩ := boxes2 w 36 y.cells 32 [.pointer p, .pointer tp]
  have HR := hide (right_any y (xs.length : Int))
  obtain ⟨OF, OT, OE, EF, ET, EE, FF, FT, FE, TF, TT, TE, th⟩ := y
  dsimp only [Yg.cells] at hy hs cc
  try dsimp only [badB]
  go_enter Tryz.func38, Tryz.ntmps38
  go_wp2_with fail
  generalize (w.alloc (.cells #[.int .i64 OF, .int .i64 OT, .int .i64 OE, .int .i64 EF, .int .i64 ET, .int .i64 EE, .int .i64 FF, .int .i64 FT, .int .i64 FE, .int .i64 TF, .int .i64 TT, .int .i64 TE, .int .i64 th] 36)).alloc (.cells #[.pointer p, .pointer tp] 32) = w3 at *
  generalize w.heap.size + 1 = s at *
  generalize w.heap.size = b at *
  obtain ⟨y0, y1, y2, y3, y4, y5, y6, y7, y8, y9, y10, y11, y12⟩ : YC w3 b ⟨OF, OT, OE, EF, ET, EE, FF, FT, FE, TF, TT, TE, th⟩ := hy.yc (y := ⟨OF, OT, OE, EF, ET, EE, FF, FT, FE, TF, TT, TE, th⟩)
  dsimp only at y0 y1 y2 y3 y4 y5 y6 y7 y8 y9 y10 y11 y12
  have HC := hide cc
  have HLN := hide (fun W (c : Grow w3 W) => L6.len_any (H.out.grow (HC.out.trans c)).ar)
  rw [HRG.out] at HR
  refine wp_region_grow (by kernel_rfl) (by kernel_rfl) ?_
  repeat (
    with_reducible refine wpQuiet_step ?_
    intro K hK
    first
      | ((with_reducible refine quiet_offT rfl ?_ (hK _ ?_)); focus (refine ⟨_, rfl, ?_⟩; with_reducible rfl))
      | ((with_reducible refine quiet_offF rfl ?_ (hK _ ?_)); focus (refine ⟨_, rfl, ?_⟩; with_reducible rfl))
      | ((with_reducible refine quiet_offN rfl ?_ (hK _ ?_)); focus (exact rfl))
      | ((first | with_reducible refine quiet_free rfl ?_ | ((with_reducible refine quiet_on rfl ?_ ?_); focus (refine ⟨_, rfl, ?_⟩; with_reducible rfl)))
         apply Exists.intro
         refine ⟨fun Wq hW => ?_, hK _ ?_⟩
         focus (have q0 := Grow.cell hW y0; have q1 := Grow.cell hW y1; have q2 := Grow.cell hW y2; have q3 := Grow.cell hW y3; have q4 := Grow.cell hW y4; have q5 := Grow.cell hW y5; have q6 := Grow.cell hW y6; have q7 := Grow.cell hW y7; have q8 := Grow.cell hW y8; have q9 := Grow.cell hW y9; have q10 := Grow.cell hW y10; have q11 := Grow.cell hW y11; have q12 := Grow.cell hW y12; go_simp; first | done | with_reducible rfl | (go_at_call 39; (first | with_reducible exact grown_call hW (HLN.out _ hW) | with_reducible exact grown_same hW (HLN.out _ hW))) | (go_at_call 72; (first | with_reducible exact grown_call hW (HR.out _) | with_reducible exact grown_same hW (HR.out _)))))
    clear hK K
    simp only [Act.put, List.setIfInBounds_toArray, List.set_cons_zero, List.set_cons_succ])
  with_reducible refine wpQuiet_nil ?_
  intro w5 c5
  replace hy := hy.chg c5 id
  replace hs := hs.chg c5 id
  replace cc := cc.trans c5
  clear c5 y0 y1 y2 y3 y4 y5 y6 y7 y8 y9 y10 y11 y12 HC HLN
  obtain ⟨y0, y1, y2, y3, y4, y5, y6, y7, y8, -⟩ : YC w5 b ⟨OF, OT, OE, EF, ET, EE, FF, FT, FE, TF, TT, TE, th⟩ := hy.yc (y := ⟨OF, OT, OE, EF, ET, EE, FF, FT, FE, TF, TT, TE, th⟩)
  dsimp only at y0 y1 y2 y3 y4 y5 y6 y7 y8
  obtain ⟨s0, s1⟩ := hs.cell2
  have hb3 : Blk (w5.alloc (.cells [.int .i64 OF, .int .i64 OT, .int .i64 OE, .int .i64 EF, .int .i64 ET, .int .i64 EE, .int .i64 FF, .int .i64 FT, .int .i64 FE].toArray 34)) w5.heap.size 34 (spCs [⟨OF, OT, OE⟩, ⟨EF, ET, EE⟩, ⟨FF, FT, FE⟩]) := Blk.new _ _ _
  go_wp2_with fail
  clear y0 y1 y2 y3 y4 y5 y6 y7 y8 s0 s1
  replace hy := hy.alloc (.cells [.int .i64 OF, .int .i64 OT, .int .i64 OE, .int .i64 EF, .int .i64 ET, .int .i64 EE, .int .i64 FF, .int .i64 FT, .int .i64 FE].toArray 34)
  replace hs := hs.alloc (.cells [.int .i64 OF, .int .i64 OT, .int .i64 OE, .int .i64 EF, .int .i64 ET, .int .i64 EE, .int .i64 FF, .int .i64 FT, .int .i64 FE].toArray 34)
  replace cc := cc.alloc (.cells [.int .i64 OF, .int .i64 OT, .int .i64 OE, .int .i64 EF, .int .i64 ET, .int .i64 EE, .int .i64 FF, .int .i64 FT, .int .i64 FE].toArray 34)
  generalize w5.alloc (.cells #[.int .i64 OF, .int .i64 OT, .int .i64 OE, .int .i64 EF, .int .i64 ET, .int .i64 EE, .int .i64 FF, .int .i64 FT, .int .i64 FE] 34) = w6 at *
  generalize w5.heap.size = q3 at *
  refine (walk_any (H.out.grow cc) hb3 rfl (by simp) H64.out HW.out).mono ?_
  rintro en w7 ⟨c7, ⟨_, v, rfl, hol⟩ | ⟨h0, _⟩⟩
  rotate_left
  · exact absurd rfl h0
  obtain ⟨va, vc, hva⟩ := own_len hol
  subst hva
  replace hy := hy.chg c7 id
  replace hs := hs.chg c7 id
  replace cc := cc.trans c7
  clear c7 hb3
  have hrd := own_rd hol
  obtain ⟨s0, s1⟩ := hs.cell2
  go_wp2_with fail
  clear s0 s1
  refine (closed_any (ob := ob) (H.out.grow cc) hrd HLL.out HAT.out (HZ.out.grow cc) HRN.out).mono ?_
  rintro e w8 ⟨rfl, c8⟩
  replace hy := hy.chg c8 id
  replace hs := hs.chg c8 id
  replace cc := cc.trans c8
  replace hrd := hrd.grow c8
  clear c8 hol
  rw [hc]
  go_wp2
  go_ret
  exact ⟨rfl, cc⟩
set_option maxHeartbeats 2000000 in
theorem chk_full (h : St w p tp g xs cs) (hr : y.rgB xs.length = true) (hw : Wks xs cs y.s3 L 0) (hll : L.length ≤ 100000) (hat : ∀ x ∈ L, ObAt xs cs x (ob x)) (hz : L1.Rd w ra rn rs) (hrn : rn < 1000000) (hc : cloB ob L rs = true) (hf : decide (y.OE - y.OT < (y.ET - y.EF) + (y.FT - y.FF)) = true) (dv : Value) :
    Calls Tryz.prog 38 #[y.v, .pointer p, stV p tp, .slice ra rn rc, dv] w fun en w' => en = .returned (.int .i64 3) ∧ Grow w w' := by
  have H := hide h
  have HRG := hide hr
  have HW := hide hw
  have HAT := hide hat
  have HZ := hide hz
  have HRN := hide hrn
  obtain ⟨r1, r2, r3, r4⟩ := Yg.rg_ri hr
  have HLL := hide hll
  have H64 := hide (show ∀ s ∈ y.s3, s.F ≤ 9223372036854775807 ∧ s.T ≤ 9223372036854775807 from by
    have := L2.ri_true r1
    have := L2.ri_true r2
    have := L2.ri_true r3
    intro s hs
    simp only [Yg.s3, List.mem_cons, List.not_mem_nil, or_false] at hs
    rcases hs with rfl | rfl | rfl <;> dsimp only <;> omega)
  have R1 := hide r1
  have R2 := hide r2
  have R3 := hide r3
  clear h hr hw hll hat hz hrn r1 r2 r3 r4
  obtain ⟨hy, hs, cc, -, -, -⟩ := boxes2 w 36 y.cells 32 [.pointer p, .pointer tp]
  have HR := hide (right_any y (xs.length : Int))
  obtain ⟨OF, OT, OE, EF, ET, EE, FF, FT, FE, TF, TT, TE, th⟩ := y
  dsimp only [Yg.cells] at hy hs cc
  try dsimp only [badB]
  go_enter Tryz.func38, Tryz.ntmps38
  go_wp2_with fail
  generalize (w.alloc (.cells #[.int .i64 OF, .int .i64 OT, .int .i64 OE, .int .i64 EF, .int .i64 ET, .int .i64 EE, .int .i64 FF, .int .i64 FT, .int .i64 FE, .int .i64 TF, .int .i64 TT, .int .i64 TE, .int .i64 th] 36)).alloc (.cells #[.pointer p, .pointer tp] 32) = w3 at *
  generalize w.heap.size + 1 = s at *
  generalize w.heap.size = b at *
  obtain ⟨y0, y1, y2, y3, y4, y5, y6, y7, y8, y9, y10, y11, y12⟩ : YC w3 b ⟨OF, OT, OE, EF, ET, EE, FF, FT, FE, TF, TT, TE, th⟩ := hy.yc (y := ⟨OF, OT, OE, EF, ET, EE, FF, FT, FE, TF, TT, TE, th⟩)
  dsimp only at y0 y1 y2 y3 y4 y5 y6 y7 y8 y9 y10 y11 y12
  have HC := hide cc
  have HLN := hide (fun W (c : Grow w3 W) => L6.len_any (H.out.grow (HC.out.trans c)).ar)
  rw [HRG.out] at HR
  refine wp_region_grow (by kernel_rfl) (by kernel_rfl) ?_
  repeat (
    with_reducible refine wpQuiet_step ?_
    intro K hK
    first
      | ((with_reducible refine quiet_offT rfl ?_ (hK _ ?_)); focus (refine ⟨_, rfl, ?_⟩; with_reducible rfl))
      | ((with_reducible refine quiet_offF rfl ?_ (hK _ ?_)); focus (refine ⟨_, rfl, ?_⟩; with_reducible rfl))
      | ((with_reducible refine quiet_offN rfl ?_ (hK _ ?_)); focus (exact rfl))
      | ((first | with_reducible refine quiet_free rfl ?_ | ((with_reducible refine quiet_on rfl ?_ ?_); focus (refine ⟨_, rfl, ?_⟩; with_reducible rfl)))
         apply Exists.intro
         refine ⟨fun Wq hW => ?_, hK _ ?_⟩
         focus (have q0 := Grow.cell hW y0; have q1 := Grow.cell hW y1; have q2 := Grow.cell hW y2; have q3 := Grow.cell hW y3; have q4 := Grow.cell hW y4; have q5 := Grow.cell hW y5; have q6 := Grow.cell hW y6; have q7 := Grow.cell hW y7; have q8 := Grow.cell hW y8; have q9 := Grow.cell hW y9; have q10 := Grow.cell hW y10; have q11 := Grow.cell hW y11; have q12 := Grow.cell hW y12; go_simp; first | done | with_reducible rfl | (go_at_call 39; (first | with_reducible exact grown_call hW (HLN.out _ hW) | with_reducible exact grown_same hW (HLN.out _ hW))) | (go_at_call 72; (first | with_reducible exact grown_call hW (HR.out _) | with_reducible exact grown_same hW (HR.out _)))))
    clear hK K
    simp only [Act.put, List.setIfInBounds_toArray, List.set_cons_zero, List.set_cons_succ])
  with_reducible refine wpQuiet_nil ?_
  intro w5 c5
  replace hy := hy.chg c5 id
  replace hs := hs.chg c5 id
  replace cc := cc.trans c5
  clear c5 y0 y1 y2 y3 y4 y5 y6 y7 y8 y9 y10 y11 y12 HC HLN
  obtain ⟨y0, y1, y2, y3, y4, y5, y6, y7, y8, -⟩ : YC w5 b ⟨OF, OT, OE, EF, ET, EE, FF, FT, FE, TF, TT, TE, th⟩ := hy.yc (y := ⟨OF, OT, OE, EF, ET, EE, FF, FT, FE, TF, TT, TE, th⟩)
  dsimp only at y0 y1 y2 y3 y4 y5 y6 y7 y8
  obtain ⟨s0, s1⟩ := hs.cell2
  have hb3 : Blk (w5.alloc (.cells [.int .i64 OF, .int .i64 OT, .int .i64 OE, .int .i64 EF, .int .i64 ET, .int .i64 EE, .int .i64 FF, .int .i64 FT, .int .i64 FE].toArray 34)) w5.heap.size 34 (spCs [⟨OF, OT, OE⟩, ⟨EF, ET, EE⟩, ⟨FF, FT, FE⟩]) := Blk.new _ _ _
  go_wp2_with fail
  clear y0 y1 y2 y3 y4 y5 y6 y7 y8 s0 s1
  replace hy := hy.alloc (.cells [.int .i64 OF, .int .i64 OT, .int .i64 OE, .int .i64 EF, .int .i64 ET, .int .i64 EE, .int .i64 FF, .int .i64 FT, .int .i64 FE].toArray 34)
  replace hs := hs.alloc (.cells [.int .i64 OF, .int .i64 OT, .int .i64 OE, .int .i64 EF, .int .i64 ET, .int .i64 EE, .int .i64 FF, .int .i64 FT, .int .i64 FE].toArray 34)
  replace cc := cc.alloc (.cells [.int .i64 OF, .int .i64 OT, .int .i64 OE, .int .i64 EF, .int .i64 ET, .int .i64 EE, .int .i64 FF, .int .i64 FT, .int .i64 FE].toArray 34)
  generalize w5.alloc (.cells #[.int .i64 OF, .int .i64 OT, .int .i64 OE, .int .i64 EF, .int .i64 ET, .int .i64 EE, .int .i64 FF, .int .i64 FT, .int .i64 FE] 34) = w6 at *
  generalize w5.heap.size = q3 at *
  refine (walk_any (H.out.grow cc) hb3 rfl (by simp) H64.out HW.out).mono ?_
  rintro en w7 ⟨c7, ⟨_, v, rfl, hol⟩ | ⟨h0, _⟩⟩
  rotate_left
  · exact absurd rfl h0
  obtain ⟨va, vc, hva⟩ := own_len hol
  subst hva
  replace hy := hy.chg c7 id
  replace hs := hs.chg c7 id
  replace cc := cc.trans c7
  clear c7 hb3
  have hrd := own_rd hol
  obtain ⟨s0, s1⟩ := hs.cell2
  go_wp2_with fail
  clear s0 s1
  refine (closed_any (ob := ob) (H.out.grow cc) hrd HLL.out HAT.out (HZ.out.grow cc) HRN.out).mono ?_
  rintro e w8 ⟨rfl, c8⟩
  replace hy := hy.chg c8 id
  replace hs := hs.chg c8 id
  replace cc := cc.trans c8
  replace hrd := hrd.grow c8
  clear c8 hol
  rw [hc]
  obtain ⟨y0, y1, y2, y3, y4, y5, y6, y7, y8, -⟩ : YC w8 b ⟨OF, OT, OE, EF, ET, EE, FF, FT, FE, TF, TT, TE, th⟩ := hy.yc (y := ⟨OF, OT, OE, EF, ET, EE, FF, FT, FE, TF, TT, TE, th⟩)
  dsimp only at y0 y1 y2 y3 y4 y5 y6 y7 y8
  try dsimp only at hf
  try dsimp only at R1 R2 R3
  obtain ⟨M, hM⟩ : ∃ M, OE - OT = M := ⟨_, rfl⟩
  obtain ⟨U, hU⟩ : ∃ U, ET - EF = U := ⟨_, rfl⟩
  obtain ⟨V, hV⟩ : ∃ V, FT - FF = V := ⟨_, rfl⟩
  have hwU : IntKind.i64.wrap (U + V) = U + V := IntWalk.i64_in _ (by have := L2.ri_true R2.out; have := L2.ri_true R3.out; omega)
  rw [hM, hU, hV] at hf
  have HM := hide hM
  have HU := hide hU
  have HV := hide hV
  clear hM hU hV
  go_wp2_with fail
  refine wp_region_grow (by kernel_rfl) (by kernel_rfl) ?_
  repeat (
    with_reducible refine wpQuiet_step ?_
    intro K hK
    first
      | ((with_reducible refine quiet_offT rfl ?_ (hK _ ?_)); focus (refine ⟨_, rfl, ?_⟩; with_reducible rfl))
      | ((with_reducible refine quiet_offF rfl ?_ (hK _ ?_)); focus (refine ⟨_, rfl, ?_⟩; with_reducible rfl))
      | ((with_reducible refine quiet_offN rfl ?_ (hK _ ?_)); focus (exact rfl))
      | ((first | with_reducible refine quiet_free rfl ?_ | ((with_reducible refine quiet_on rfl ?_ ?_); focus (refine ⟨_, rfl, ?_⟩; with_reducible rfl)))
         apply Exists.intro
         refine ⟨fun Wq hW => ?_, hK _ ?_⟩
         focus (have q0 := Grow.cell hW y0; have q1 := Grow.cell hW y1; have q2 := Grow.cell hW y2; have q3 := Grow.cell hW y3; have q4 := Grow.cell hW y4; have q5 := Grow.cell hW y5; have q6 := Grow.cell hW y6; have q7 := Grow.cell hW y7; have q8 := Grow.cell hW y8; go_simp; first | done | with_reducible rfl | (go_at_call 21; (first | with_reducible exact grown_call hW (L2.room_is OF OT OE _ R1.out HM.out) | with_reducible exact grown_same hW (L2.room_is OF OT OE _ R1.out HM.out))) | (go_at_call 20; (first | with_reducible exact grown_call hW (L2.used_is EF ET EE _ R2.out HU.out) | with_reducible exact grown_same hW (L2.used_is EF ET EE _ R2.out HU.out))) | (go_at_call 20; (first | with_reducible exact grown_call hW (L2.used_is FF FT FE _ R3.out HV.out) | with_reducible exact grown_same hW (L2.used_is FF FT FE _ R3.out HV.out)))))
    clear hK K
    simp only [Act.put, List.setIfInBounds_toArray, List.set_cons_zero, List.set_cons_succ])
  with_reducible refine wpQuiet_nil ?_
  intro w9 c9
  replace hy := hy.chg c9 id
  replace hs := hs.chg c9 id
  replace cc := cc.trans c9
  replace hrd := hrd.grow c9
  clear y0 y1 y2 y3 y4 y5 y6 y7 y8 c9
  go_wp2
  go_ret
  exact ⟨rfl, cc⟩
set_option maxHeartbeats 4000000 in
theorem chk_loop (h : St w p tp g xs cs) (hr : y.rgB xs.length = true) (hw : Wks xs cs y.s3 L 0) (hll : L.length ≤ 100000) (hat : ∀ x ∈ L, ObAt xs cs x (ob x)) (hz : L1.Rd w ra rn rs) (hrn : rn < 1000000) (hc : cloB ob L rs = true) (hf : decide (y.OE - y.OT < (y.ET - y.EF) + (y.FT - y.FF)) = false)
    (hct : Ct w pc mc gc f t S) :
    Calls Tryz.prog 38 #[y.v, .pointer p, stV p tp, .slice ra rn rc, ptr pc] w fun en w' => en = .returned (.int .i64 (if L.any (badB y S f t ob) then 11 else 0)) ∧ Grow w w' := by
  have H := hide h
  have HRG := hide hr
  have HW := hide hw
  have HAT := hide hat
  have HZ := hide hz
  have HRN := hide hrn
  obtain ⟨r1, r2, r3, r4⟩ := Yg.rg_ri hr
  have HLL := hide hll
  have H64 := hide (show ∀ s ∈ y.s3, s.F ≤ 9223372036854775807 ∧ s.T ≤ 9223372036854775807 from by
    have := L2.ri_true r1
    have := L2.ri_true r2
    have := L2.ri_true r3
    intro s hs
    simp only [Yg.s3, List.mem_cons, List.not_mem_nil, or_false] at hs
    rcases hs with rfl | rfl | rfl <;> dsimp only <;> omega)
  have R1 := hide r1
  have R2 := hide r2
  have R3 := hide r3
  have HCT := hide hct
  have HLD := hide (fun W x hx (c : Grow w W) => leads_any (h.grow c) (hat x hx) y)
  have HBD := hide (fun x => show badB y S f t ob x = (hasB y.OF y.OT y.OE x && (!(isd S f t x) && y.ld (ob x))) from rfl)
  generalize badB y S f t ob = bad at *
  obtain ⟨X, hX⟩ : ∃ X : Int, (if L.any bad then (11 : Int) else 0) = X := ⟨_, rfl⟩
  have HX0 := hide (show L.any bad = false → X = 0 from fun h => by rw [← hX, h]; rfl)
  have HX1 := hide (show L.any bad = true → X = 11 from fun h => by rw [← hX, h]; rfl)
  rw [hX]
  clear h hr hw hll hat hz hrn r1 r2 r3 r4 hct hX
  obtain ⟨hy, hs, cc, -, -, -⟩ := boxes2 w 36 y.cells 32 [.pointer p, .pointer tp]
  have HR := hide (right_any y (xs.length : Int))
  obtain ⟨OF, OT, OE, EF, ET, EE, FF, FT, FE, TF, TT, TE, th⟩ := y
  dsimp only [Yg.cells] at hy hs cc
  try dsimp only [badB]
  go_enter Tryz.func38, Tryz.ntmps38
  go_wp2_with fail
  generalize (w.alloc (.cells #[.int .i64 OF, .int .i64 OT, .int .i64 OE, .int .i64 EF, .int .i64 ET, .int .i64 EE, .int .i64 FF, .int .i64 FT, .int .i64 FE, .int .i64 TF, .int .i64 TT, .int .i64 TE, .int .i64 th] 36)).alloc (.cells #[.pointer p, .pointer tp] 32) = w3 at *
  generalize w.heap.size + 1 = s at *
  generalize w.heap.size = b at *
  obtain ⟨y0, y1, y2, y3, y4, y5, y6, y7, y8, y9, y10, y11, y12⟩ : YC w3 b ⟨OF, OT, OE, EF, ET, EE, FF, FT, FE, TF, TT, TE, th⟩ := hy.yc (y := ⟨OF, OT, OE, EF, ET, EE, FF, FT, FE, TF, TT, TE, th⟩)
  dsimp only at y0 y1 y2 y3 y4 y5 y6 y7 y8 y9 y10 y11 y12
  have HC := hide cc
  have HLN := hide (fun W (c : Grow w3 W) => L6.len_any (H.out.grow (HC.out.trans c)).ar)
  rw [HRG.out] at HR
  refine wp_region_grow (by kernel_rfl) (by kernel_rfl) ?_
  repeat (
    with_reducible refine wpQuiet_step ?_
    intro K hK
    first
      | ((with_reducible refine quiet_offT rfl ?_ (hK _ ?_)); focus (refine ⟨_, rfl, ?_⟩; with_reducible rfl))
      | ((with_reducible refine quiet_offF rfl ?_ (hK _ ?_)); focus (refine ⟨_, rfl, ?_⟩; with_reducible rfl))
      | ((with_reducible refine quiet_offN rfl ?_ (hK _ ?_)); focus (exact rfl))
      | ((first | with_reducible refine quiet_free rfl ?_ | ((with_reducible refine quiet_on rfl ?_ ?_); focus (refine ⟨_, rfl, ?_⟩; with_reducible rfl)))
         apply Exists.intro
         refine ⟨fun Wq hW => ?_, hK _ ?_⟩
         focus (have q0 := Grow.cell hW y0; have q1 := Grow.cell hW y1; have q2 := Grow.cell hW y2; have q3 := Grow.cell hW y3; have q4 := Grow.cell hW y4; have q5 := Grow.cell hW y5; have q6 := Grow.cell hW y6; have q7 := Grow.cell hW y7; have q8 := Grow.cell hW y8; have q9 := Grow.cell hW y9; have q10 := Grow.cell hW y10; have q11 := Grow.cell hW y11; have q12 := Grow.cell hW y12; go_simp; first | done | with_reducible rfl | (go_at_call 39; (first | with_reducible exact grown_call hW (HLN.out _ hW) | with_reducible exact grown_same hW (HLN.out _ hW))) | (go_at_call 72; (first | with_reducible exact grown_call hW (HR.out _) | with_reducible exact grown_same hW (HR.out _)))))
    clear hK K
    simp only [Act.put, List.setIfInBounds_toArray, List.set_cons_zero, List.set_cons_succ])
  with_reducible refine wpQuiet_nil ?_
  intro w5 c5
  replace hy := hy.chg c5 id
  replace hs := hs.chg c5 id
  replace cc := cc.trans c5
  clear c5 y0 y1 y2 y3 y4 y5 y6 y7 y8 y9 y10 y11 y12 HC HLN
  try dsimp only at HLD HBD
  obtain ⟨y0, y1, y2, y3, y4, y5, y6, y7, y8, -⟩ : YC w5 b ⟨OF, OT, OE, EF, ET, EE, FF, FT, FE, TF, TT, TE, th⟩ := hy.yc (y := ⟨OF, OT, OE, EF, ET, EE, FF, FT, FE, TF, TT, TE, th⟩)
  dsimp only at y0 y1 y2 y3 y4 y5 y6 y7 y8
  obtain ⟨s0, s1⟩ := hs.cell2
  have hb3 : Blk (w5.alloc (.cells [.int .i64 OF, .int .i64 OT, .int .i64 OE, .int .i64 EF, .int .i64 ET, .int .i64 EE, .int .i64 FF, .int .i64 FT, .int .i64 FE].toArray 34)) w5.heap.size 34 (spCs [⟨OF, OT, OE⟩, ⟨EF, ET, EE⟩, ⟨FF, FT, FE⟩]) := Blk.new _ _ _
  go_wp2_with fail
  clear y0 y1 y2 y3 y4 y5 y6 y7 y8 s0 s1
  replace hy := hy.alloc (.cells [.int .i64 OF, .int .i64 OT, .int .i64 OE, .int .i64 EF, .int .i64 ET, .int .i64 EE, .int .i64 FF, .int .i64 FT, .int .i64 FE].toArray 34)
  replace hs := hs.alloc (.cells [.int .i64 OF, .int .i64 OT, .int .i64 OE, .int .i64 EF, .int .i64 ET, .int .i64 EE, .int .i64 FF, .int .i64 FT, .int .i64 FE].toArray 34)
  replace cc := cc.alloc (.cells [.int .i64 OF, .int .i64 OT, .int .i64 OE, .int .i64 EF, .int .i64 ET, .int .i64 EE, .int .i64 FF, .int .i64 FT, .int .i64 FE].toArray 34)
  generalize w5.alloc (.cells #[.int .i64 OF, .int .i64 OT, .int .i64 OE, .int .i64 EF, .int .i64 ET, .int .i64 EE, .int .i64 FF, .int .i64 FT, .int .i64 FE] 34) = w6 at *
  generalize w5.heap.size = q3 at *
  refine (walk_any (H.out.grow cc) hb3 rfl (by simp) H64.out HW.out).mono ?_
  rintro en w7 ⟨c7, ⟨_, v, rfl, hol⟩ | ⟨h0, _⟩⟩
  rotate_left
  · exact absurd rfl h0
  obtain ⟨va, vc, hva⟩ := own_len hol
  subst hva
  replace hy := hy.chg c7 id
  replace hs := hs.chg c7 id
  replace cc := cc.trans c7
  clear c7 hb3
  have hrd := own_rd hol
  obtain ⟨s0, s1⟩ := hs.cell2
  go_wp2_with fail
  clear s0 s1
  refine (closed_any (ob := ob) (H.out.grow cc) hrd HLL.out HAT.out (HZ.out.grow cc) HRN.out).mono ?_
  rintro e w8 ⟨rfl, c8⟩
  replace hy := hy.chg c8 id
  replace hs := hs.chg c8 id
  replace cc := cc.trans c8
  replace hrd := hrd.grow c8
  clear c8 hol
  rw [hc]
  obtain ⟨y0, y1, y2, y3, y4, y5, y6, y7, y8, -⟩ : YC w8 b ⟨OF, OT, OE, EF, ET, EE, FF, FT, FE, TF, TT, TE, th⟩ := hy.yc (y := ⟨OF, OT, OE, EF, ET, EE, FF, FT, FE, TF, TT, TE, th⟩)
  dsimp only at y0 y1 y2 y3 y4 y5 y6 y7 y8
  try dsimp only at hf
  try dsimp only at R1 R2 R3
  obtain ⟨M, hM⟩ : ∃ M, OE - OT = M := ⟨_, rfl⟩
  obtain ⟨U, hU⟩ : ∃ U, ET - EF = U := ⟨_, rfl⟩
  obtain ⟨V, hV⟩ : ∃ V, FT - FF = V := ⟨_, rfl⟩
  have hwU : IntKind.i64.wrap (U + V) = U + V := IntWalk.i64_in _ (by have := L2.ri_true R2.out; have := L2.ri_true R3.out; omega)
  rw [hM, hU, hV] at hf
  have HM := hide hM
  have HU := hide hU
  have HV := hide hV
  clear hM hU hV
  go_wp2_with fail
  refine wp_region_grow (by kernel_rfl) (by kernel_rfl) ?_
  repeat (
    with_reducible refine wpQuiet_step ?_
    intro K hK
    first
      | ((with_reducible refine quiet_offT rfl ?_ (hK _ ?_)); focus (refine ⟨_, rfl, ?_⟩; with_reducible rfl))
      | ((with_reducible refine quiet_offF rfl ?_ (hK _ ?_)); focus (refine ⟨_, rfl, ?_⟩; with_reducible rfl))
      | ((with_reducible refine quiet_offN rfl ?_ (hK _ ?_)); focus (exact rfl))
      | ((first | with_reducible refine quiet_free rfl ?_ | ((with_reducible refine quiet_on rfl ?_ ?_); focus (refine ⟨_, rfl, ?_⟩; with_reducible rfl)))
         apply Exists.intro
         refine ⟨fun Wq hW => ?_, hK _ ?_⟩
         focus (have q0 := Grow.cell hW y0; have q1 := Grow.cell hW y1; have q2 := Grow.cell hW y2; have q3 := Grow.cell hW y3; have q4 := Grow.cell hW y4; have q5 := Grow.cell hW y5; have q6 := Grow.cell hW y6; have q7 := Grow.cell hW y7; have q8 := Grow.cell hW y8; go_simp; first | done | with_reducible rfl | (go_at_call 21; (first | with_reducible exact grown_call hW (L2.room_is OF OT OE _ R1.out HM.out) | with_reducible exact grown_same hW (L2.room_is OF OT OE _ R1.out HM.out))) | (go_at_call 20; (first | with_reducible exact grown_call hW (L2.used_is EF ET EE _ R2.out HU.out) | with_reducible exact grown_same hW (L2.used_is EF ET EE _ R2.out HU.out))) | (go_at_call 20; (first | with_reducible exact grown_call hW (L2.used_is FF FT FE _ R3.out HV.out) | with_reducible exact grown_same hW (L2.used_is FF FT FE _ R3.out HV.out)))))
    clear hK K
    simp only [Act.put, List.setIfInBounds_toArray, List.set_cons_zero, List.set_cons_succ])
  with_reducible refine wpQuiet_nil ?_
  intro w9 c9
  replace hy := hy.chg c9 id
  replace hs := hs.chg c9 id
  replace cc := cc.trans c9
  replace hrd := hrd.grow c9
  clear y0 y1 y2 y3 y4 y5 y6 y7 y8 c9
  have HY := hide hy
  have HS := hide hs
  have HC := hide cc
  have HRD := hide hrd
  clear hy hs cc hrd
  go_wp2_with fail
  go_loopw [54] (fun v wr => ∃ k : Nat, k ≤ L.length ∧ v = .int .i64 k ∧ (L.take k).any bad = false ∧ Grow w9 wr) (fun v _ => L.length - (Go.RowKit.intOf v).toNat)
  case atStart => exact ⟨0, Nat.zero_le _, rfl, by simp, Chg.refl _ _⟩
  case round =>
    obtain ⟨k, hk, rfl, hno, gg⟩ := hrel
    rcases Nat.eq_or_lt_of_le hk with hke | hlt
    · have hX := hide (show X = 0 from HX0.out (by rw [hke, List.take_length] at hno; exact hno))
      have HG := hide gg
      obtain ⟨N, hN⟩ : ∃ N, L.length = N := ⟨_, rfl⟩
      rw [hN] at hke
      subst hke
      have q1 : decide ((k : Int) < k) = false := by simp
      rw [hN]
      clear gg hno hk
      go_wp2
      go_ret
      exact ⟨ret_int hX.out.symm, HC.out.trans HG.out⟩
    · have q1 : decide ((k : Int) < (L.length : Int)) = true := decide_eq_true (by omega)
      have q2 : k < L.length := hlt
      have HK := hide hlt
      obtain ⟨ad, hva, hcx⟩ := (HRD.out.grow gg).at_ hlt
      have hm : L.getD k 0 ∈ L := getD_mem hlt
      have htk : (L.take (k + 1)).any bad = bad (L.getD k 0) := by
        rw [List.take_add_one, List.getElem?_eq_getElem hlt, List.any_append, hno, List.getD_eq_getElem?_getD, List.getElem?_eq_getElem hlt]
        simp
      have hyes : bad (L.getD k 0) = true → X = 11 := fun hb => HX1.out (List.any_eq_true.2 ⟨_, hm, hb⟩)
      have HL3 := hide (fun W (c : Grow w W) => HLD.out W _ hm c)
      have hbd := HBD.out (L.getD k 0)
      have hw1 : IntKind.i64.wrap ((k : Int) + 1) = ((k + 1 : Nat) : Int) := (IntWalk.i64_in _ (by have := HLL.out; omega)).trans (by omega)
      obtain ⟨b1, hb1⟩ : ∃ b1, hasB OF OT OE (L.getD k 0) = b1 := ⟨_, rfl⟩
      obtain ⟨b2, hb2⟩ : ∃ b2, isd S f t (L.getD k 0) = b2 := ⟨_, rfl⟩
      obtain ⟨b3, hb3⟩ : ∃ b3, Yg.ld ⟨OF, OT, OE, EF, ET, EE, FF, FT, FE, TF, TT, TE, th⟩ (ob (L.getD k 0)) = b3 := ⟨_, rfl⟩
      have HB1 := hide hb1
      have HB2 := hide hb2
      rw [hb1, hb2, hb3] at hbd
      rw [hb3] at HL3
      have HBD2 := hide hbd
      have HTK := hide htk
      have HYES := hide hyes
      clear hno hm htk hyes hbd hb1 hb2 hb3 hk
      obtain ⟨y0, y1, y2, -⟩ : YC wr b ⟨OF, OT, OE, EF, ET, EE, FF, FT, FE, TF, TT, TE, th⟩ := (HY.out.chg gg id).yc (y := ⟨OF, OT, OE, EF, ET, EE, FF, FT, FE, TF, TT, TE, th⟩)
      dsimp only at y0 y1 y2
      have HG := hide gg
      clear gg
      subst hva
      generalize L.getD k 0 = x at *
      cases b1 with
      | false =>
        go_wp2_with fail
        refine (L2.has_is OF OT OE x _ HB1.out).mono ?_
        rintro e wa ⟨rfl, ca⟩
        clear y0 y1 y2
        go_wp2
        go_roundw
        case rel => exact ⟨k + 1, HK.out, rfl, by rw [HTK.out, HBD2.out]; simp, HG.out.trans ca⟩
        case measure => have := HK.out; simp [Go.RowKit.intOf]; omega
      | true =>
        go_wp2_with fail
        refine (L2.has_is OF OT OE x _ HB1.out).mono ?_
        rintro e wa ⟨rfl, ca⟩
        clear y0 y1 y2
        have HCA := hide (HC.out.trans (HG.out.trans ca))
        go_wp2_with fail
        refine (L7.tb_dirty (HCT.out.grow HCA.out) x HB2.out).mono ?_
        rintro e wb ⟨rfl, cb⟩
        cases b2 with
        | true =>
          go_wp2
          go_roundw
          case rel => exact ⟨k + 1, HK.out, rfl, by rw [HTK.out, HBD2.out]; simp, HG.out.trans (ca.trans cb)⟩
          case measure => have := HK.out; simp [Go.RowKit.intOf]; omega
        | false =>
          obtain ⟨y0, y1, y2, y3, y4, y5, y6, y7, y8, y9, y10, y11, y12⟩ : YC wb b ⟨OF, OT, OE, EF, ET, EE, FF, FT, FE, TF, TT, TE, th⟩ := (HY.out.chg (HG.out.trans (ca.trans cb)) id).yc (y := ⟨OF, OT, OE, EF, ET, EE, FF, FT, FE, TF, TT, TE, th⟩)
          dsimp only at y0 y1 y2 y3 y4 y5 y6 y7 y8 y9 y10 y11 y12
          obtain ⟨s0, s1⟩ := (HS.out.chg (HG.out.trans (ca.trans cb)) id).cell2
          go_wp2_with fail
          clear y0 y1 y2 y3 y4 y5 y6 y7 y8 y9 y10 y11 y12 s0 s1
          refine (HL3.out _ (HCA.out.trans cb)).mono ?_
          rintro e wc ⟨rfl, cg⟩
          cases b3 with
          | false =>
            go_wp2
            go_roundw
            case rel => exact ⟨k + 1, HK.out, rfl, by rw [HTK.out, HBD2.out]; simp, HG.out.trans (ca.trans (cb.trans cg))⟩
            case measure => have := HK.out; simp [Go.RowKit.intOf]; omega
          | true =>
            have HX := hide (HYES.out HBD2.out)
            go_wp2
            go_ret
            exact ⟨ret_int HX.out.symm, HCA.out.trans (cb.trans cg)⟩
end
end Go.Proofs.YtogfjclmohpjkaaGreatDoor.L15

/- Graphs: Aim: what it answers. Conditions: the number fits an int. -/
import Derived.Test.YtjofdamobnemcaaL9Sp
import Derived.Test.YtjofdamobnemcaaL9Call
import Derived.Deep.RegionHeld3
namespace Go.Proofs.Ytjofdamobnemcaa.L9
open Go.ChangeShapes Go.WideShapes Go.ChangeAt Go.RowKit Go.Maps
open Go.Proofs.Ytjofdamobnemcaa.L5 (Cl clV rtB Tb clAt shX shR shD woV hoB IsCls newX isRf)
set_option linter.unusedVariables false
section
variable {w : World} {z p m tb : Nat} {S : Nat → Prop} {f : Int → Option Nat} {ow : Nat → Int} {cs : List Cl} {L : List Nd} {x : Nd} {i : Int}
set_option maxRecDepth 100000 in
set_option maxHeartbeats 1000000 in
theorem aim_any (h : Gr w z S p m tb f ow cs L) (hi : In64 i) :
    Calls Try.prog 42 #[ptr p, .int .i64 i] w fun e w' => e = .returned (.tuple #[.int .i64 (aimX cs L i).1, .int .i64 (aimX cs L i).2]) ∧ Grow w w' := by
  have HG := hide h
  obtain ⟨base, v, ht⟩ := h.tb_
  have HT := hide ht
  have k0 := h.cell0
  clear ht
  cases hn : nd L i with
  | none =>
    have HX := hide (show aimX cs L i = (0, 0) by simp [aimX, hn])
    have hl := look_none h hi hn
    clear h
    go_enter Try.func42, Try.ntmps42
    go_wp2_with fail
    refine (all_g HG.out).mono ?_
    rintro e w' ⟨rfl, rfl⟩
    go_wp2_with fail
    refine wp_region_grow (by kernel_rfl) (by kernel_rfl) ?_
    repeat (
      with_reducible refine wpQuiet_step ?_
      intro K hK
      first
        | ((with_reducible refine quiet_offT rfl ?_ (hK _ ?_)); focus (refine ⟨_, rfl, ?_⟩; with_reducible rfl))
        | ((with_reducible refine quiet_offF rfl ?_ (hK _ ?_)); focus (refine ⟨_, rfl, ?_⟩; with_reducible rfl))
        | ((with_reducible refine quiet_offN rfl ?_ (hK _ ?_)); focus (exact rfl))
        | ((first | with_reducible refine quiet_free rfl ?_ | ((with_reducible refine quiet_on rfl ?_ ?_); focus (refine ⟨_, rfl, ?_⟩; with_reducible rfl)))
           apply Exists.intro
           refine ⟨fun Wq hW => ?_, hK _ ?_⟩
           focus (have q0 := Grow.cell hW k0; go_simp; first | done | with_reducible rfl))
      clear hK K
      simp only [Act.put, List.setIfInBounds_toArray, List.set_cons_zero, List.set_cons_succ])
    with_reducible refine wpQuiet_nil ?_
    intro w5 c5
    go_wp2
    go_returns
    rw [HX.out]
    exact ⟨rfl, c5⟩
  | some x =>
    obtain ⟨b, br, bd, hb, hl, hx⟩ := look_some h hi hn
    have hok := h.ok x (nd_some hn).1
    obtain ⟨c, hc, hc1⟩ := hok.cl
    obtain ⟨j, hcj, hjl, hjc⟩ := L5.clAt_some hc
    obtain ⟨x0, x1, x2, x3, x4, x5⟩ := hx.cells
    have HJ := hide (And.intro hcj hjc)
    cases hrf : isRf c.k with
    | false =>
      have HX := hide (show aimX cs L i = (0, 0) by simp [aimX, hn, hc, kd, hrf])
      have HHO := hide (fun W (hW : Grow w W) => L5.holds_is (HT.out.grow hW) HG.out.cl (n := x.c) (l := 0) (b := true) (by rw [hc]; simp [hoB, hrf]))
      clear h hok hx hc1 hb hc hcj hjc
      go_enter Try.func42, Try.ntmps42
      go_wp2_with fail
      refine (all_g HG.out).mono ?_
      rintro e w' ⟨rfl, rfl⟩
      go_wp2_with fail
      refine wp_region_grow (by kernel_rfl) (by kernel_rfl) ?_
      repeat (
        with_reducible refine wpQuiet_step ?_
        intro K hK
        first
          | ((with_reducible refine quiet_offT rfl ?_ (hK _ ?_)); focus (refine ⟨_, rfl, ?_⟩; with_reducible rfl))
          | ((with_reducible refine quiet_offF rfl ?_ (hK _ ?_)); focus (refine ⟨_, rfl, ?_⟩; with_reducible rfl))
          | ((with_reducible refine quiet_offN rfl ?_ (hK _ ?_)); focus (exact rfl))
          | ((first | with_reducible refine quiet_free rfl ?_ | ((with_reducible refine quiet_on rfl ?_ ?_); focus (refine ⟨_, rfl, ?_⟩; with_reducible rfl)))
             apply Exists.intro
             refine ⟨fun Wq hW => ?_, hK _ ?_⟩
             focus (have q0 := Grow.cell hW k0; have q1 := Grow.cell hW x1; go_simp; first | done | with_reducible rfl | (go_at_call 55; (first | with_reducible exact grown_call hW (HHO.out _ hW) | with_reducible exact grown_same hW (HHO.out _ hW)))))
        clear hK K
        simp only [Act.put, List.setIfInBounds_toArray, List.set_cons_zero, List.set_cons_succ])
      with_reducible refine wpQuiet_nil ?_
      intro w5 c5
      go_wp2
      go_returns
      rw [HX.out]
      exact ⟨rfl, c5⟩
    | true =>
      have HX := hide (show aimX cs L i = (x.refs.getD 0 0, c.k) by simp [aimX, hn, hc, kd, hrf])
      have h0 := hc1 hrf
      have y0 := hx.2.1.cell 0
      rw [ints_get _ _ h0] at y0
      obtain ⟨q, hq⟩ : ∃ q, x.refs.getD 0 0 = q := ⟨_, rfl⟩
      rw [hq] at y0 HX
      clear hq
      have HHO := hide (fun W (hW : Grow w W) => L5.holds_is (HT.out.grow hW) HG.out.cl (n := x.c) (l := 0) (b := false) (by rw [hc]; simp [hoB, hrf]))
      clear h hok hx hc1 hb hc hcj hjc
      go_enter Try.func42, Try.ntmps42
      go_wp2_with fail
      refine (all_g HG.out).mono ?_
      rintro e w' ⟨rfl, rfl⟩
      go_wp2_with fail
      refine wp_region_grow (by kernel_rfl) (by kernel_rfl) ?_
      repeat (
        with_reducible refine wpQuiet_step ?_
        intro K hK
        first
          | ((with_reducible refine quiet_offT rfl ?_ (hK _ ?_)); focus (refine ⟨_, rfl, ?_⟩; with_reducible rfl))
          | ((with_reducible refine quiet_offF rfl ?_ (hK _ ?_)); focus (refine ⟨_, rfl, ?_⟩; with_reducible rfl))
          | ((with_reducible refine quiet_offN rfl ?_ (hK _ ?_)); focus (exact rfl))
          | ((first | with_reducible refine quiet_free rfl ?_ | ((with_reducible refine quiet_on rfl ?_ ?_); focus (refine ⟨_, rfl, ?_⟩; with_reducible rfl)))
             apply Exists.intro
             refine ⟨fun Wq hW => ?_, hK _ ?_⟩
             focus (have q0 := Grow.cell hW k0; have q1 := Grow.cell hW x1; go_simp; first | done | with_reducible rfl | (go_at_call 55; (first | with_reducible exact grown_call hW (HHO.out _ hW) | with_reducible exact grown_same hW (HHO.out _ hW)))))
        clear hK K
        simp only [Act.put, List.setIfInBounds_toArray, List.set_cons_zero, List.set_cons_succ])
      with_reducible refine wpQuiet_nil ?_
      intro w5 c5
      replace k0 := Grow.cell c5 k0
      replace x1 := Grow.cell c5 x1
      replace x2 := Grow.cell c5 x2
      replace y0 := Grow.cell c5 y0
      obtain ⟨K, R, D, F⟩ := c
      have HKS := hide (fun W W' (c : Grow W W') (hS : W.cell? ⟨p, 0, none⟩ = some (.pointer (some ⟨tb, 0, none⟩)) ∧ W.cell? ⟨b, 1, none⟩ = some (.int .i64 x.c)) => (show W'.cell? ⟨p, 0, none⟩ = some (.pointer (some ⟨tb, 0, none⟩)) ∧ W'.cell? ⟨b, 1, none⟩ = some (.int .i64 x.c) from ⟨Grow.cell c hS.1, Grow.cell c hS.2⟩))
      have hpb : p < w5.heap.size ∧ b < w5.heap.size := ⟨cell_lt k0, cell_lt x1⟩
      have HKT := hide (fun (W : World) (j : Nat) (u : Value) (hS : W.cell? ⟨p, 0, none⟩ = some (.pointer (some ⟨tb, 0, none⟩)) ∧ W.cell? ⟨b, 1, none⟩ = some (.int .i64 x.c)) => (show (W.setCell ⟨w5.heap.size, j, none⟩ u).cell? ⟨p, 0, none⟩ = some (.pointer (some ⟨tb, 0, none⟩)) ∧ (W.setCell ⟨w5.heap.size, j, none⟩ u).cell? ⟨b, 1, none⟩ = some (.int .i64 x.c) from
        ⟨Chg.cell (S := (· = w5.heap.size)) ((Chg.refl _ _).set1 _ _) hS.1 (by show ¬ p = _; omega), Chg.cell (S := (· = w5.heap.size)) ((Chg.refl _ _).set1 _ _) hS.2 (by show ¬ b = _; omega)⟩))
      have HFR := hide (show Fresh w5 w5.heap.size from Nat.le_refl _)
      have HBX := hide (Blk.new w5.drew 54 [.int .i64 0, .int .i64 0, .int .i64 0, .bool false])
      clear hpb
      have HOF := hide (fun W (hW : Grow w5 W) => L5.of_in ((HT.out.grow c5).grow hW) HG.out.cl HJ.out.2 HJ.out.1)
      go_wp2_with fail
      go_region_held3 (fun W => W.cell? ⟨p, 0, none⟩ = some (.pointer (some ⟨tb, 0, none⟩)) ∧ W.cell? ⟨b, 1, none⟩ = some (.int .i64 x.c)) (first | assumption | (refine HKS.out _ _ ?_ (by assumption); assumption) | (refine HKS.out _ _ (Grow.box _ _) ?_; assumption) | (refine HKS.out _ _ (Grow.box _ _) hk6) | (exact HKT.out _ _ _ (HKT.out _ _ _ (HKT.out _ _ _ (HKT.out _ _ _ hk6)))) | go_keep) (first | (go_at_call 32; (first | (with_reducible refine (HOF.out _ (Chg.refl _ _)).mono ?_) | (refine (HOF.out _ (Chg.drew (Chg.refl _ _))).mono ?_) | (refine (HOF.out _ (Chg.drew (Grow.box _ _))).mono ?_)); rintro e w6 ⟨rfl, c6⟩; have hk6 := HKS.out _ _ c6 (by assumption); (first | (have gk : Grow w5 w6 := (Chg.drew (Chg.refl _ _)).trans c6) | (have gk : Grow w5 w6 := (Chg.alloc (Chg.drew (Chg.refl _ _)) _).trans c6) | (have gk : Grow w5 w6 := (Chg.drew (Chg.alloc (Chg.refl _ _) _)).trans c6)); (try (have kb := HBX.out.chg c6 id; (have kc0 : w6.cell? ⟨w5.heap.size, 0, none⟩ = some (.int .i64 0) := kb.cell 0); (have kc1 : w6.cell? ⟨w5.heap.size, 1, none⟩ = some (.int .i64 0) := kb.cell 1); (have kc2 : w6.cell? ⟨w5.heap.size, 2, none⟩ = some (.int .i64 0) := kb.cell 2); (have kc3 : w6.cell? ⟨w5.heap.size, 3, none⟩ = some (.bool false) := kb.cell 3); (have kz0 : w6.frozen? ⟨w5.heap.size, 0, none⟩ = false := kb.frozen 0); (have kz1 : w6.frozen? ⟨w5.heap.size, 1, none⟩ = false := kb.frozen 1); (have kz2 : w6.frozen? ⟨w5.heap.size, 2, none⟩ = false := kb.frozen 2); (have kz3 : w6.frozen? ⟨w5.heap.size, 3, none⟩ = false := kb.frozen 3)))))
      all_goals first
        | (have t0 : ((((w6.setCell ⟨w5.heap.size, 0, none⟩ (.int .i64 K)).setCell ⟨w5.heap.size, 1, none⟩ (.int .i64 R)).setCell ⟨w5.heap.size, 2, none⟩ (.int .i64 D)).setCell ⟨w5.heap.size, 3, none⟩ (.bool F)).cell? ⟨w5.heap.size, 0, none⟩ = some (.int .i64 K) := ((((kb.set_ 0 (.int .i64 K)).set_ 1 (.int .i64 R)).set_ 2 (.int .i64 D)).set_ 3 (.bool F)).cell 0
           have gW : Grow w5 ((((w6.setCell ⟨w5.heap.size, 0, none⟩ (.int .i64 K)).setCell ⟨w5.heap.size, 1, none⟩ (.int .i64 R)).setCell ⟨w5.heap.size, 2, none⟩ (.int .i64 D)).setCell ⟨w5.heap.size, 3, none⟩ (.bool F)) := Fresh.put HFR.out (Fresh.put HFR.out (Fresh.put HFR.out (Fresh.put HFR.out gk 0 _) 1 _) 2 _) 3 _)
        | (have t0 : (w6.alloc (.cells #[.int .i64 K, .int .i64 R, .int .i64 D, .bool F] 54)).cell? ⟨w6.heap.size, 0, none⟩ = some (.int .i64 K) := (Blk.new w6 54 [.int .i64 K, .int .i64 R, .int .i64 D, .bool F]).cell 0
           have gW : Grow w5 (w6.alloc (.cells #[.int .i64 K, .int .i64 R, .int .i64 D, .bool F] 54)) := gk.alloc _)
      all_goals replace x2 := Grow.cell gW x2
      all_goals replace y0 := Grow.cell gW y0
      all_goals clear HHO hk6 HKS HKT HBX HOF k0 x1
      · go_wp2_with fail
        refine wp_region_grow (by kernel_rfl) (by kernel_rfl) ?_
        repeat (
          with_reducible refine wpQuiet_step ?_
          intro K hK
          first
            | ((with_reducible refine quiet_offT rfl ?_ (hK _ ?_)); focus (refine ⟨_, rfl, ?_⟩; with_reducible rfl))
            | ((with_reducible refine quiet_offF rfl ?_ (hK _ ?_)); focus (refine ⟨_, rfl, ?_⟩; with_reducible rfl))
            | ((with_reducible refine quiet_offN rfl ?_ (hK _ ?_)); focus (exact rfl))
            | ((first | with_reducible refine quiet_free rfl ?_ | ((with_reducible refine quiet_on rfl ?_ ?_); focus (refine ⟨_, rfl, ?_⟩; with_reducible rfl)))
               apply Exists.intro
               refine ⟨fun Wq hW => ?_, hK _ ?_⟩
               focus (have q0 := Grow.cell hW x2; have q1 := Grow.cell hW y0; have q2 := Grow.cell hW t0; go_simp; first | done | with_reducible rfl))
          clear hK K
          simp only [Act.put, List.setIfInBounds_toArray, List.set_cons_zero, List.set_cons_succ])
        with_reducible refine wpQuiet_nil ?_
        intro w9 c9
        go_wp2
        go_returns
        rw [HX.out]
        exact ⟨rfl, (c5.trans gW).trans c9⟩
      · go_wp2_with fail
        refine wp_region_grow (by kernel_rfl) (by kernel_rfl) ?_
        repeat (
          with_reducible refine wpQuiet_step ?_
          intro K hK
          first
            | ((with_reducible refine quiet_offT rfl ?_ (hK _ ?_)); focus (refine ⟨_, rfl, ?_⟩; with_reducible rfl))
            | ((with_reducible refine quiet_offF rfl ?_ (hK _ ?_)); focus (refine ⟨_, rfl, ?_⟩; with_reducible rfl))
            | ((with_reducible refine quiet_offN rfl ?_ (hK _ ?_)); focus (exact rfl))
            | ((first | with_reducible refine quiet_free rfl ?_ | ((with_reducible refine quiet_on rfl ?_ ?_); focus (refine ⟨_, rfl, ?_⟩; with_reducible rfl)))
               apply Exists.intro
               refine ⟨fun Wq hW => ?_, hK _ ?_⟩
               focus (have q0 := Grow.cell hW x2; have q1 := Grow.cell hW y0; have q2 := Grow.cell hW t0; go_simp; first | done | with_reducible rfl))
          clear hK K
          simp only [Act.put, List.setIfInBounds_toArray, List.set_cons_zero, List.set_cons_succ])
        with_reducible refine wpQuiet_nil ?_
        intro w9 c9
        go_wp2
        go_returns
        rw [HX.out]
        exact ⟨rfl, (c5.trans gW).trans c9⟩
end
end Go.Proofs.Ytjofdamobnemcaa.L9

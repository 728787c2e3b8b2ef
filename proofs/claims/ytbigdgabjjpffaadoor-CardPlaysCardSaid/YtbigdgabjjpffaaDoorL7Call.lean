/- Tables of cards: what Touch, Dirty and Wipe do to a table, or to nil. Conditions: addresses are at most 4096. -/
import Derived.Test.YtbigdgabjjpffaaDoorL7Ct
namespace Go.Proofs.YtbigdgabjjpffaaDoor.L7
open Go.ChangeShapes Go.WideShapes Go.ChangeAt Go.RowKit
open Go.Proofs.YtbigdgabjjpffaaDoor.L3
set_option linter.unusedVariables false

section
variable {mp : Option Addr} {pv : Value} {f t : Nat} {w : World}
theorem keep3 {w2 W W' : World} {b : Nat} {ty : TypeId} {u v x : Value} {C : Nat → Prop} (hb : Blk w2 b ty [u, v, x]) (hC : ¬ C b) (c1 : Grow w2 W) (c2 : Chg C W W') :
    W'.cell? ⟨b, 0, none⟩ = some u ∧ W'.cell? ⟨b, 1, none⟩ = some v ∧ W'.cell? ⟨b, 2, none⟩ = some x := by
  have h := (hb.chg c1 id).chg c2 hC
  exact ⟨h.cell 0, h.cell 1, h.cell 2⟩
set_option maxHeartbeats 1000000 in
theorem touch_by {a : Int} {c : Bool} {C : Nat → Prop} {R : World → Prop} (h : Cv w pv mp f t) (ht : t ≤ 4096) (hC : ∀ i, C i → i < w.heap.size)
    (hs : ∀ W, Grow w W → Calls Tryd.prog 24 #[.pointer mp, .int .i64 (num f t a)] W fun e w' => e = .returned (.bool c) ∧ R w' ∧ Chg C W w') :
    Calls Tryd.prog 12 #[pv, .int .i64 a] w fun e w' => e = .returned (.bool c) ∧ R w' ∧ Chg C w w' := by
  have HSET := hide hs
  have HC := hide hC
  clear hs hC
  have HA := hide (all_any mp f t w pv h)
  clear h
  go_enter Tryd.func12, Tryd.ntmps12
  go_wp2_with fail
  refine HA.out.mono ?_
  rintro e w1 ⟨rfl, c1⟩
  clear HA
  have hb := Blk.new w1 49 [.pointer mp, .int .i64 f, .int .i64 t]
  have c2 : Grow w (w1.alloc (.cells [.pointer mp, .int .i64 f, .int .i64 t].toArray 49)) := c1.alloc _
  have HS := hide c1.size
  clear c1
  go_wp2_with fail
  generalize w1.alloc (.cells #[.pointer mp, .int .i64 f, .int .i64 t] 49) = w2 at *
  generalize w1.heap.size = b at *
  have x0 : w2.cell? ⟨b, 0, none⟩ = some (.pointer mp) := hb.cell 0
  have x1 : w2.cell? ⟨b, 1, none⟩ = some (.int .i64 f) := hb.cell 1
  have x2 : w2.cell? ⟨b, 2, none⟩ = some (.int .i64 t) := hb.cell 2
  have HN := hide fun W => number_any mp f t W a ht
  have HBC : Hid (¬ C b) := hide fun h => by have := HC.out b h; have := HS.out; omega
  have HK := hide fun W W' (c1 : Grow w2 W) (c3 : Chg C W W') => keep3 hb HBC.out c1 c3
  have HK0 := hide fun W (c1 : Grow w2 W) => keep3 hb HBC.out c1 (Chg.refl C W)
  clear hb
  generalize num f t a = z at *
  go_region_held3 (fun W => W.cell? ⟨b, 0, none⟩ = some (.pointer mp) ∧ W.cell? ⟨b, 1, none⟩ = some (.int .i64 f) ∧ W.cell? ⟨b, 2, none⟩ = some (.int .i64 t)) (first | exact HK.out _ _ ((Chg.refl _ _).drew.trans c3) c4 | exact HK0.out _ ((Chg.refl _ _).drew.trans c3) | go_keep) (first | (go_at_call 25; refine (HN.out _).mono ?_; rintro e w3 ⟨rfl, c3⟩) | (go_at_call 24; refine (HSET.out _ (c2.drew.trans c3)).mono ?_; rintro e w4 ⟨rfl, r4, c4⟩))
  go_wp2
  go_ret
  exact ⟨rfl, r4, (c2.drew.trans c3 |>.mono (fun _ _ h => h.elim)).trans c4⟩

set_option maxHeartbeats 1000000 in
theorem dirty_by {a : Int} {c : Bool} (h : Cv w pv mp f t) (ht : t ≤ 4096)
    (hs : ∀ W, Grow w W → Calls Tryd.prog 27 #[.pointer mp, .int .i64 (num f t a)] W fun e w' => e = .returned (.bool c) ∧ Grow W w') :
    Calls Tryd.prog 14 #[pv, .int .i64 a] w fun e w' => e = .returned (.bool c) ∧ Grow w w' := by
  have HHAS := hide hs
  clear hs
  have HA := hide (all_any mp f t w pv h)
  clear h
  go_enter Tryd.func14, Tryd.ntmps14
  go_wp2_with fail
  refine HA.out.mono ?_
  rintro e w1 ⟨rfl, c1⟩
  clear HA
  have hb := Blk.new w1 49 [.pointer mp, .int .i64 f, .int .i64 t]
  have c2 : Grow w (w1.alloc (.cells [.pointer mp, .int .i64 f, .int .i64 t].toArray 49)) := c1.alloc _
  have HS := hide c1.size
  clear c1
  go_wp2_with fail
  generalize w1.alloc (.cells #[.pointer mp, .int .i64 f, .int .i64 t] 49) = w2 at *
  generalize w1.heap.size = b at *
  have x0 : w2.cell? ⟨b, 0, none⟩ = some (.pointer mp) := hb.cell 0
  have x1 : w2.cell? ⟨b, 1, none⟩ = some (.int .i64 f) := hb.cell 1
  have x2 : w2.cell? ⟨b, 2, none⟩ = some (.int .i64 t) := hb.cell 2
  have HN := hide fun W => number_any mp f t W a ht
  clear hb
  generalize num f t a = z at *
  have HQ := hide fun W (c3 : Grow w2 W) => HHAS.out W (c2.trans c3)
  refine wp_region_grow (by kernel_rfl) (by kernel_rfl) ?_
  repeat (
    with_reducible refine wpQuiet_step ?_
    intro K hK
    first
      | ((with_reducible refine quiet_offT rfl ?_ (hK _ ?_)); focus (refine ⟨_, rfl, ?_⟩; with_reducible rfl))
      | ((with_reducible refine quiet_offF rfl ?_ (hK _ ?_)); focus (refine ⟨_, rfl, ?_⟩; with_reducible rfl))
      | ((with_reducible refine quiet_offN rfl ?_ (hK _ ?_)); focus (exact rfl))
      | ((first | with_reducible refine quiet_free rfl ?_ | ((with_reducible refine quiet_on rfl ?_ ?_); focus (refine ⟨_, rfl, ?_⟩; with_reducible rfl)))
         apply Exists.intro
         refine ⟨fun Wq hW => ?_, hK _ ?_⟩
         focus (have q0 := Grow.cell hW x0; have q1 := Grow.cell hW x1; have q2 := Grow.cell hW x2; go_simp; first | done | with_reducible rfl | (go_at_call 25; (first | with_reducible exact grown_call hW (HN.out _) | with_reducible exact grown_same hW (HN.out _))) | (go_at_call 27; (first | with_reducible exact grown_call hW (HQ.out _ hW) | with_reducible exact grown_same hW (HQ.out _ hW)))))
    clear hK K
    simp only [Act.put, List.setIfInBounds_toArray, List.set_cons_zero, List.set_cons_succ])
  with_reducible refine wpQuiet_nil ?_
  intro w3 c3
  go_wp2
  go_ret
  exact ⟨rfl, c2.trans c3⟩

theorem wipe_by {C : Nat → Prop} {R : World → Prop} (h : Cv w pv mp f t)
    (hs : ∀ W, Grow w W → Calls Tryd.prog 31 #[.pointer mp] W fun e w' => e = .returned (.tuple #[]) ∧ R w' ∧ Chg C W w') :
    Calls Tryd.prog 18 #[pv] w fun e w' => e = .returned (.tuple #[]) ∧ R w' ∧ Chg C w w' := by
  have HW := hide hs
  have hfd : ∀ W, (Instr.field 49 (cdV mp f t) 0).run Tryd.prog W = .ok (.pointer mp) W := fun W => by kernel_rfl
  clear hs
  have HA := hide (all_any mp f t w pv h)
  clear h
  go_enter Tryd.func18, Tryd.ntmps18
  go_wp2_with fail
  refine HA.out.mono ?_
  rintro e w1 ⟨rfl, c1⟩
  go_wp2_with fail
  refine (HW.out _ c1).mono ?_
  rintro e w2 ⟨rfl, r2, c2⟩
  go_wp2
  go_returns
  exact ⟨rfl, r2, (c1.mono (fun _ _ h => h.elim)).trans c2⟩

set_option maxHeartbeats 1000000 in
theorem take_none (h : Cv w pv mp f t)
    (hs : ∀ W, Grow w W → Calls Tryd.prog 28 #[.pointer mp, .int .i64 0] W fun e w' => e = .returned (.int .i64 (-1)) ∧ Grow W w') :
    Calls Tryd.prog 16 #[pv] w fun e w' => e = .returned (.tuple #[.int .i64 0, .int .i64 0, .bool false]) ∧ Grow w w' := by
  have HNX := hide hs
  clear hs
  have HA := hide (all_any mp f t w pv h)
  clear h
  go_enter Tryd.func16, Tryd.ntmps16
  go_wp2_with fail
  refine HA.out.mono ?_
  rintro e w1 ⟨rfl, c1⟩
  clear HA
  have hb := Blk.new w1 49 [.pointer mp, .int .i64 f, .int .i64 t]
  have c2 : Grow w (w1.alloc (.cells [.pointer mp, .int .i64 f, .int .i64 t].toArray 49)) := c1.alloc _
  have HS := hide c1.size
  clear c1
  go_wp2_with fail
  generalize w1.alloc (.cells #[.pointer mp, .int .i64 f, .int .i64 t] 49) = w2 at *
  generalize w1.heap.size = b at *
  have x0 : w2.cell? ⟨b, 0, none⟩ = some (.pointer mp) := hb.cell 0
  have x1 : w2.cell? ⟨b, 1, none⟩ = some (.int .i64 f) := hb.cell 1
  have x2 : w2.cell? ⟨b, 2, none⟩ = some (.int .i64 t) := hb.cell 2
  refine (HNX.out _ c2).mono ?_
  rintro e w3 ⟨rfl, c3⟩
  replace c2 := c2.trans c3
  clear HNX hb x0 x1 x2 c3
  go_wp2
  go_returns
  exact ⟨rfl, c2⟩

set_option maxHeartbeats 2000000 in
theorem take_by {j x y : Nat} {C : Nat → Prop} {R : World → Prop} (h : Cv w pv mp f t) (ht : t ≤ 4096) (hC : ∀ i, C i → i < w.heap.size) (hj : j ≤ 4096) (hx : x = f + 16 * j) (hx2 : x ≤ 1000000) (hy : y = min (x + 16) t)
    (hs : ∀ W, Grow w W → Calls Tryd.prog 28 #[.pointer mp, .int .i64 0] W fun e w' => e = .returned (.int .i64 j) ∧ Grow W w')
    (hc : ∀ W, Grow w W → Calls Tryd.prog 29 #[.pointer mp, .int .i64 j] W fun e w' => e = .returned (.bool true) ∧ R w' ∧ Chg C W w')
    (hR : ∀ W W', R W → Grow W W' → R W') :
    Calls Tryd.prog 16 #[pv] w fun e w' => e = .returned (.tuple #[.int .i64 x, .int .i64 y, .bool true]) ∧ R w' ∧ Chg C w w' := by
  have HNX := hide hs
  have HCL := hide hc
  have HC := hide hC
  have HR := hide hR
  have q0 : decide ((j : Int) < 0) = false := by simp
  have hmn : ∀ ts ty W, (Builtin.min_ ts ty #[.int .i64 (x + 16 : Nat), .int .i64 t]).run Tryd.prog W = .ok (.int .i64 y) W := fun ts ty W => by
    rw [run_min_int2, hy, show (if (t : Int) < ((x + 16 : Nat) : Int) then (t : Int) else ((x + 16 : Nat) : Int)) = ((min (x + 16) t : Nat) : Int) by split <;> omega]
  have HMN := hide hmn
  have hF1 : ∀ W, Calls Tryd.prog 30 #[cdV mp f t, .int .i64 j] W fun e w' => e = .returned (.int .i64 x) ∧ Grow W w' := fun W => first_any mp f t W j x hx (by omega)
  have hF2 : ∀ W, Calls Tryd.prog 30 #[cdV mp f t, .int .i64 (j + 1 : Nat)] W fun e w' => e = .returned (.int .i64 (x + 16 : Nat)) ∧ Grow W w' := fun W => first_any mp f t W (j + 1) (x + 16) (by omega) (by omega)
  have hj1 : IntKind.i64.wrap ((j : Int) + 1) = ((j + 1 : Nat) : Int) := by rw [wrap_i64_id _ (by omega)]; omega
  have HF1 := hide hF1
  have HF2 := hide hF2
  clear hs hc hC hR hmn hF1 hF2 hx hx2 hy hj ht
  generalize x + 16 = x16 at *
  generalize j + 1 = j1 at *
  have HA := hide (all_any mp f t w pv h)
  clear h
  go_enter Tryd.func16, Tryd.ntmps16
  go_wp2_with fail
  refine HA.out.mono ?_
  rintro e w1 ⟨rfl, c1⟩
  clear HA
  have hb := Blk.new w1 49 [.pointer mp, .int .i64 f, .int .i64 t]
  have c2 : Grow w (w1.alloc (.cells [.pointer mp, .int .i64 f, .int .i64 t].toArray 49)) := c1.alloc _
  have HS := hide c1.size
  clear c1
  go_wp2_with fail
  generalize w1.alloc (.cells #[.pointer mp, .int .i64 f, .int .i64 t] 49) = w2 at *
  generalize w1.heap.size = b at *
  have x0 : w2.cell? ⟨b, 0, none⟩ = some (.pointer mp) := hb.cell 0
  have x1 : w2.cell? ⟨b, 1, none⟩ = some (.int .i64 f) := hb.cell 1
  have x2 : w2.cell? ⟨b, 2, none⟩ = some (.int .i64 t) := hb.cell 2
  refine (HNX.out _ c2).mono ?_
  rintro e w3 ⟨rfl, c3⟩
  replace c2 := c2.trans c3
  replace hb := hb.chg c3 id
  clear HNX x0 x1 x2 c3
  have x0 : w3.cell? ⟨b, 0, none⟩ = some (.pointer mp) := hb.cell 0
  go_wp2_with fail
  refine (HCL.out _ c2).mono ?_
  rintro e w4 ⟨rfl, r4, c4⟩
  have HBC : Hid (¬ C b) := hide fun h => by have := HC.out b h; have := HS.out; omega
  replace hb := hb.chg c4 HBC.out
  have HCC := hide ((c2.mono (S := C) (fun _ _ h => h.elim)).trans c4)
  clear HCL x0 c4 c2
  have x0 : w4.cell? ⟨b, 0, none⟩ = some (.pointer mp) := hb.cell 0
  have x1 : w4.cell? ⟨b, 1, none⟩ = some (.int .i64 f) := hb.cell 1
  have x2 : w4.cell? ⟨b, 2, none⟩ = some (.int .i64 t) := hb.cell 2
  have hmn := HMN.out
  go_wp2_with fail
  refine wp_region_grow (by kernel_rfl) (by kernel_rfl) ?_
  repeat (
    with_reducible refine wpQuiet_step ?_
    intro K hK
    first
      | ((with_reducible refine quiet_offT rfl ?_ (hK _ ?_)); focus (refine ⟨_, rfl, ?_⟩; with_reducible rfl))
      | ((with_reducible refine quiet_offF rfl ?_ (hK _ ?_)); focus (refine ⟨_, rfl, ?_⟩; with_reducible rfl))
      | ((with_reducible refine quiet_offN rfl ?_ (hK _ ?_)); focus (exact rfl))
      | ((first | with_reducible refine quiet_free rfl ?_ | ((with_reducible refine quiet_on rfl ?_ ?_); focus (refine ⟨_, rfl, ?_⟩; with_reducible rfl)))
         apply Exists.intro
         refine ⟨fun Wq hW => ?_, hK _ ?_⟩
         focus (have q0 := Grow.cell hW x0; have q1 := Grow.cell hW x1; have q2 := Grow.cell hW x2; go_simp; first | done | with_reducible rfl | (go_at_call 30; (first | with_reducible exact grown_call hW (HF1.out _) | with_reducible exact grown_same hW (HF1.out _))) | (go_at_call 30; (first | with_reducible exact grown_call hW (HF2.out _) | with_reducible exact grown_same hW (HF2.out _)))))
    clear hK K
    simp only [Act.put, List.setIfInBounds_toArray, List.set_cons_zero, List.set_cons_succ])
  with_reducible refine wpQuiet_nil ?_
  intro w5 c5
  go_wp2
  go_returns
  exact ⟨rfl, HR.out _ _ r4 c5, HCC.out.trans (c5.mono (fun _ _ h => h.elim))⟩
end
end Go.Proofs.YtbigdgabjjpffaaDoor.L7

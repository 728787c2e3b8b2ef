/- The walk through SpaceTells at a space that can be. Conditions: the numbers fit their kinds. -/
import Derived.Test.YtbnnoelioiafdaaAwake
import Derived.BigRegion
import Derived.StillTailTactics
import Derived.ShutString
namespace Go.Proofs.Ytbnnoelioiafdaa.spaceTells
open Go.ChangeShapes Go.WideShapes Go.ChangeAt Go.RowKit
set_option linter.unusedVariables false

theorem rright_is (F T E : Int) (w : World) {b : Bool} (h : riB F T E = b) :
    Calls Try.prog 10 #[spV F T E] w fun e w' => e = .returned (.bool b) ∧ Grow w w' :=
  (rright_any F T E w).mono fun _ _ ⟨he, hg⟩ => ⟨by rw [he, h], hg⟩

theorem take_both (F T E n : Int) (hn : n ≤ 9223372036854775807) : ∃ A B C D X : Int, Hid (∀ w, Calls Try.prog 11 #[spV F T E, .int .i64 n] w fun e w' => e = .returned (.tuple #[.int .i64 A, spV B C D, .int .i64 X]) ∧ Grow w w') ∧
    Hid (∀ w, Calls Try.prog 12 #[spV F T E, .int .i64 n] w fun e w' => e = .returned (.tuple #[.int .i64 A, spV B C D, .int .i64 X]) ∧ Grow w w') :=
  ⟨_, _, _, _, _, hide fun w => take_any F T E n w hn, hide fun w => rtake_any F T E n w hn⟩
theorem new_both (f n : Int) (hf : f ≤ 9223372036854775807) (hn : n ≤ 9223372036854775807) : ∃ B D X : Int, Hid (∀ w, Calls Try.prog 13 #[.int .i64 f, .int .i64 n] w fun e w' => e = .returned (.tuple #[spV B B D, .int .i64 X]) ∧ Grow w w') ∧
    Hid (∀ w, Calls Try.prog 14 #[.int .i64 f, .int .i64 n] w fun e w' => e = .returned (.tuple #[spV B B D, .int .i64 X]) ∧ Grow w w') :=
  ⟨_, _, _, hide fun w => new_any f n w hf hn, hide fun w => rnew_any f n w hf hn⟩
theorem has_both (F T E a : Int) : ∃ b : Bool, Hid (∀ w, Calls Try.prog 16 #[spV F T E, .int .i64 a] w fun e w' => e = .returned (.bool b) ∧ Grow w w') ∧
    Hid (∀ w, Calls Try.prog 17 #[spV F T E, .int .i64 a] w fun e w' => e = .returned (.bool b) ∧ Grow w w') :=
  ⟨_, hide fun w => has_any F T E a w, hide fun w => rhas_any F T E a w⟩

set_option maxHeartbeats 2000000 in
set_option maxRecDepth 100000 in
theorem walk_yes (F T E a n f z : Int) (w : World) (hn : n ≤ 9223372036854775807) (hf : f ≤ 9223372036854775807) (hz : z ≤ 9223372036854775807) (hr : riB F T E = true) :
    Calls Try.prog 3 #[spV F T E, .int .i64 a, .int .i64 n, .int .i64 f, .int .i64 z] w fun e w' => e = .returned (.bool true) ∧ Below w.heap.size w w' := by
  obtain ⟨b1, b2, b3, b4⟩ := ri_true hr
  have hp := Blk.new w 23 [.int .i64 F, .int .i64 T, .int .i64 E]
  have cp := Grow.box w (.cells [.int .i64 F, .int .i64 T, .int .i64 E].toArray 23)
  have HR := hide hr
  clear hr
  go_enter Try.func3, Try.ntmps3
  go_wp2_with fail
  generalize w.alloc (.cells #[.int .i64 F, .int .i64 T, .int .i64 E] 23) = wp at *
  obtain ⟨p, hP⟩ : ∃ p, p = w.heap.size := ⟨_, rfl⟩
  rw [← hP] at hp ⊢
  clear hP
  refine (awake_any _).mono ?_
  rintro e wa ⟨rfl, c_wa⟩
  replace hp := hp.chg c_wa id
  replace cp := cp.step c_wa (fun _ _ h => h.elim)
  clear c_wa 
  obtain ⟨p0, p1, p2⟩ := hp.cell3
  have hx := Blk.new wa 25 [.int .i64 F, .int .i64 T, .int .i64 E]
  replace hp := hp.alloc (.cells [.int .i64 F, .int .i64 T, .int .i64 E].toArray 25)
  replace cp := cp.alloc (.cells [.int .i64 F, .int .i64 T, .int .i64 E].toArray 25)
  obtain ⟨P0, P1, P2⟩ := hp.cell3
  go_wp2_with fail
  generalize wa.alloc (.cells #[.int .i64 F, .int .i64 T, .int .i64 E] 25) = wx at *
  generalize wa.heap.size = x at *
  clear p0 p1 p2 P0 P1 P2
  refine (rright_is F T E _ HR.out).mono ?_
  rintro e w1 ⟨rfl, c_w1⟩
  replace hp := hp.chg c_w1 id
  replace hx := hx.chg c_w1 id
  replace cp := cp.step c_w1 (fun _ _ h => h.elim)
  clear c_w1 
  have npy : ¬ p = w1.heap.size := by have := hp.lt; omega
  have hyw : w.heap.size ≤ w1.heap.size := cp.size
  have hy := Blk.new w1 23 [.int .i64 0, .int .i64 0, .int .i64 0]
  replace hp := hp.alloc (.cells [.int .i64 0, .int .i64 0, .int .i64 0].toArray 23)
  replace hx := hx.alloc (.cells [.int .i64 0, .int .i64 0, .int .i64 0].toArray 23)
  replace cp := cp.alloc (.cells [.int .i64 0, .int .i64 0, .int .i64 0].toArray 23)
  obtain ⟨P0, P1, P2⟩ := hp.cell3
  go_wp2_with fail
  generalize w1.alloc (.cells #[.int .i64 0, .int .i64 0, .int .i64 0] 23) = wy at *
  generalize w1.heap.size = y at *
  obtain ⟨y0, y1, y2⟩ := hy.cell3
  obtain ⟨x0, x1, x2⟩ := hx.cell3
  have wr1 : IntKind.i64.wrap (T - F) = T - F := IntWalk.i64_in _ (by omega)
  have wr2 : IntKind.i64.wrap (E - T) = E - T := IntWalk.i64_in _ (by omega)
  go_still_tail 19, (by kernel_rfl)
  clear x0 x1 x2 y0 y1 y2 P0 P1 P2
  clear wr1 wr2
  replace hp := hp.drew
  replace hx := hx.drew
  replace hy := hy.drew
  replace cp := Chg.drew cp
  change wpList _ _ _ _ _ wy.drew
  generalize wy.drew = w2 at *
  obtain ⟨y0, y1, y2⟩ := hy.cell3
  obtain ⟨x0, x1, x2⟩ := hx.cell3
  have f0 := hy.frozen 0
  have f1 := hy.frozen 1
  have f2 := hy.frozen 2
  have ne1 : ¬ x = y := Blk.ne_ hx hy (by decide)
  go_wp2_with fail
  clear y0 y1 y2 x0 x1 x2
  replace hx := ((hx.far (p := ⟨y, 0, none⟩) ne1 (.int .i64 F)).far (p := ⟨y, 1, none⟩) ne1 (.int .i64 F)).far (p := ⟨y, 2, none⟩) ne1 (.int .i64 E)
  replace hp := ((hp.far (p := ⟨y, 0, none⟩) npy (.int .i64 F)).far (p := ⟨y, 1, none⟩) npy (.int .i64 F)).far (p := ⟨y, 2, none⟩) npy (.int .i64 E)
  replace hy := ((hy.set_ 0 (.int .i64 F)).set_ 1 (.int .i64 F)).set_ 2 (.int .i64 E)
  replace cp := ((Grow.put cp (i := 0) hyw (.int .i64 F)).put (i := 1) hyw (.int .i64 F)).put (i := 2) hyw (.int .i64 E)
  clear f0 f1 f2 ne1 npy hyw
  generalize ((w2.setCell ⟨y, 0, none⟩ (.int .i64 F)).setCell ⟨y, 1, none⟩ (.int .i64 F)).setCell ⟨y, 2, none⟩ (.int .i64 E) = w2' at *
  replace hy : Blk w2' y 23 [.int .i64 F, .int .i64 F, .int .i64 E] := hy
  obtain ⟨A, B, C, D, X, hT, hRT⟩ := take_both F T E n hn
  obtain ⟨B', D', X', hN, hRN⟩ := new_both f z hf hz
  obtain ⟨hb, hH, hRH⟩ := has_both F T E a
  refine (hT.out _).mono ?_
  rintro e w3 ⟨rfl, c_w3⟩
  replace hp := hp.chg c_w3 id
  replace hx := hx.chg c_w3 id
  replace hy := hy.chg c_w3 id
  replace cp := cp.step c_w3 (fun _ _ h => h.elim)
  clear c_w3 
  obtain ⟨p0, p1, p2⟩ := hp.cell3
  have hs := Blk.new w3 25 [.int .i64 B, .int .i64 C, .int .i64 D]
  replace hp := hp.alloc (.cells [.int .i64 B, .int .i64 C, .int .i64 D].toArray 25)
  replace hx := hx.alloc (.cells [.int .i64 B, .int .i64 C, .int .i64 D].toArray 25)
  replace hy := hy.alloc (.cells [.int .i64 B, .int .i64 C, .int .i64 D].toArray 25)
  replace cp := cp.alloc (.cells [.int .i64 B, .int .i64 C, .int .i64 D].toArray 25)
  obtain ⟨P0, P1, P2⟩ := hp.cell3
  go_wp2_with fail
  generalize w3.alloc (.cells #[.int .i64 B, .int .i64 C, .int .i64 D] 25) = ws at *
  generalize w3.heap.size = s at *
  clear p0 p1 p2 P0 P1 P2
  refine (hRT.out _).mono ?_
  rintro e w4 ⟨rfl, c_w4⟩
  replace hp := hp.chg c_w4 id
  replace hx := hx.chg c_w4 id
  replace hy := hy.chg c_w4 id
  replace hs := hs.chg c_w4 id
  replace cp := cp.step c_w4 (fun _ _ h => h.elim)
  clear c_w4 
  have ht := Blk.new w4 23 [.int .i64 B, .int .i64 C, .int .i64 D]
  replace hp := hp.alloc (.cells [.int .i64 B, .int .i64 C, .int .i64 D].toArray 23)
  replace hx := hx.alloc (.cells [.int .i64 B, .int .i64 C, .int .i64 D].toArray 23)
  replace hy := hy.alloc (.cells [.int .i64 B, .int .i64 C, .int .i64 D].toArray 23)
  replace hs := hs.alloc (.cells [.int .i64 B, .int .i64 C, .int .i64 D].toArray 23)
  replace cp := cp.alloc (.cells [.int .i64 B, .int .i64 C, .int .i64 D].toArray 23)
  go_wp2_with fail
  generalize w4.alloc (.cells #[.int .i64 B, .int .i64 C, .int .i64 D] 23) = wt at *
  generalize w4.heap.size = t at *
  refine (hN.out _).mono ?_
  rintro e w5 ⟨rfl, c_w5⟩
  replace hp := hp.chg c_w5 id
  replace hx := hx.chg c_w5 id
  replace hy := hy.chg c_w5 id
  replace hs := hs.chg c_w5 id
  replace ht := ht.chg c_w5 id
  replace cp := cp.step c_w5 (fun _ _ h => h.elim)
  clear c_w5 
  have hu := Blk.new w5 25 [.int .i64 B', .int .i64 B', .int .i64 D']
  replace hp := hp.alloc (.cells [.int .i64 B', .int .i64 B', .int .i64 D'].toArray 25)
  replace hx := hx.alloc (.cells [.int .i64 B', .int .i64 B', .int .i64 D'].toArray 25)
  replace hy := hy.alloc (.cells [.int .i64 B', .int .i64 B', .int .i64 D'].toArray 25)
  replace hs := hs.alloc (.cells [.int .i64 B', .int .i64 B', .int .i64 D'].toArray 25)
  replace ht := ht.alloc (.cells [.int .i64 B', .int .i64 B', .int .i64 D'].toArray 25)
  replace cp := cp.alloc (.cells [.int .i64 B', .int .i64 B', .int .i64 D'].toArray 25)
  go_wp2_with fail
  generalize w5.alloc (.cells #[.int .i64 B', .int .i64 B', .int .i64 D'] 25) = wu at *
  generalize w5.heap.size = u at *
  refine (hRN.out _).mono ?_
  rintro e w6 ⟨rfl, c_w6⟩
  replace hp := hp.chg c_w6 id
  replace hx := hx.chg c_w6 id
  replace hy := hy.chg c_w6 id
  replace hs := hs.chg c_w6 id
  replace ht := ht.chg c_w6 id
  replace hu := hu.chg c_w6 id
  replace cp := cp.step c_w6 (fun _ _ h => h.elim)
  clear c_w6 
  have hv := Blk.new w6 23 [.int .i64 B', .int .i64 B', .int .i64 D']
  replace hp := hp.alloc (.cells [.int .i64 B', .int .i64 B', .int .i64 D'].toArray 23)
  replace hx := hx.alloc (.cells [.int .i64 B', .int .i64 B', .int .i64 D'].toArray 23)
  replace hy := hy.alloc (.cells [.int .i64 B', .int .i64 B', .int .i64 D'].toArray 23)
  replace hs := hs.alloc (.cells [.int .i64 B', .int .i64 B', .int .i64 D'].toArray 23)
  replace ht := ht.alloc (.cells [.int .i64 B', .int .i64 B', .int .i64 D'].toArray 23)
  replace hu := hu.alloc (.cells [.int .i64 B', .int .i64 B', .int .i64 D'].toArray 23)
  replace cp := cp.alloc (.cells [.int .i64 B', .int .i64 B', .int .i64 D'].toArray 23)
  go_wp2_with fail
  generalize w6.alloc (.cells #[.int .i64 B', .int .i64 B', .int .i64 D'] 23) = wv at *
  generalize w6.heap.size = v at *
  obtain ⟨p0, p1, p2⟩ := hp.cell3
  obtain ⟨x0, x1, x2⟩ := hx.cell3
  obtain ⟨y0, y1, y2⟩ := hy.cell3
  obtain ⟨s0, s1, s2⟩ := hs.cell3
  obtain ⟨t0, t1, t2⟩ := ht.cell3
  obtain ⟨u0, u1, u2⟩ := hu.cell3
  obtain ⟨v0, v1, v2⟩ := hv.cell3
  clear hp hx hy hs ht hu hv
  refine wp_region_grow (by kernel_rfl) (by kernel_rfl) ?_
  repeat (
    with_reducible refine wpQuiet_step ?_
    intro K hK
    first
      | ((with_reducible refine quiet_offT rfl ?_ (hK _ ?_)); focus (refine ⟨_, rfl, ?_⟩; with_reducible rfl))
      | ((with_reducible refine quiet_offF rfl ?_ (hK _ ?_)); focus (refine ⟨_, rfl, ?_⟩; with_reducible rfl))
      | ((with_reducible refine quiet_offN rfl ?_ (hK _ ?_)); focus (exact rfl))
      | ((first | with_reducible refine quiet_free rfl ?_ | ((with_reducible refine quiet_on rfl ?_ ?_); focus (refine ⟨_, rfl, ?_⟩; with_reducible rfl)))
         apply Exists.intro
         refine ⟨fun W hW => ?_, hK _ ?_⟩
         focus (have q0 := Grow.cell hW p0; have q1 := Grow.cell hW p1; have q2 := Grow.cell hW p2; have q3 := Grow.cell hW x0; have q4 := Grow.cell hW x1; have q5 := Grow.cell hW x2; have q6 := Grow.cell hW y0; have q7 := Grow.cell hW y1; have q8 := Grow.cell hW y2; have q9 := Grow.cell hW s0; have q10 := Grow.cell hW s1; have q11 := Grow.cell hW s2; have q12 := Grow.cell hW t0; have q13 := Grow.cell hW t1; have q14 := Grow.cell hW t2; have q15 := Grow.cell hW u0; have q16 := Grow.cell hW u1; have q17 := Grow.cell hW u2; have q18 := Grow.cell hW v0; have q19 := Grow.cell hW v1; have q20 := Grow.cell hW v2; go_simp; first | done | with_reducible rfl | (go_at_call 15; with_reducible exact grown_call hW (right_is F T E _ HR.out)) | (go_at_call 16; with_reducible exact grown_call hW (hH.out _)) | (go_at_call 17; with_reducible exact grown_call hW (hRH.out _)) | (go_at_call 18; with_reducible exact grown_call hW (used_ok F T E _ HR.out)) | (go_at_call 19; with_reducible exact grown_call hW (room_ok F T E _ HR.out)) | (go_at_call 20; with_reducible exact grown_call hW (empty_ok F T E _ HR.out))))
    clear hK K
    simp only [Act.put, List.setIfInBounds_toArray, List.set_cons_zero, List.set_cons_succ])
  with_reducible refine wpQuiet_nil ?_
  intro w7 c7
  go_wp2
  go_ret
  exact ⟨rfl, (cp.trans c7).below (fun _ _ h => h) (Nat.le_refl _)⟩

set_option maxHeartbeats 2000000 in
set_option maxRecDepth 100000 in
theorem walk_no (F T E a n f z : Int) (w : World) (hn : n ≤ 9223372036854775807) (hf : f ≤ 9223372036854775807) (hz : z ≤ 9223372036854775807) (hr : riB F T E = false) :
    Calls Try.prog 3 #[spV F T E, .int .i64 a, .int .i64 n, .int .i64 f, .int .i64 z] w fun e w' => e = .returned (.bool true) ∧ Below w.heap.size w w' := by
  have hp := Blk.new w 23 [.int .i64 F, .int .i64 T, .int .i64 E]
  have cp := Grow.box w (.cells [.int .i64 F, .int .i64 T, .int .i64 E].toArray 23)
  have HR := hide hr
  clear hr
  go_enter Try.func3, Try.ntmps3
  go_wp2_with fail
  generalize w.alloc (.cells #[.int .i64 F, .int .i64 T, .int .i64 E] 23) = wp at *
  obtain ⟨p, hP⟩ : ∃ p, p = w.heap.size := ⟨_, rfl⟩
  rw [← hP] at hp ⊢
  clear hP
  refine (awake_any _).mono ?_
  rintro e wa ⟨rfl, c_wa⟩
  replace hp := hp.chg c_wa id
  replace cp := cp.step c_wa (fun _ _ h => h.elim)
  clear c_wa 
  obtain ⟨p0, p1, p2⟩ := hp.cell3
  have hx := Blk.new wa 25 [.int .i64 F, .int .i64 T, .int .i64 E]
  replace hp := hp.alloc (.cells [.int .i64 F, .int .i64 T, .int .i64 E].toArray 25)
  replace cp := cp.alloc (.cells [.int .i64 F, .int .i64 T, .int .i64 E].toArray 25)
  obtain ⟨P0, P1, P2⟩ := hp.cell3
  go_wp2_with fail
  generalize wa.alloc (.cells #[.int .i64 F, .int .i64 T, .int .i64 E] 25) = wx at *
  generalize wa.heap.size = x at *
  clear p0 p1 p2 P0 P1 P2
  refine (rright_is F T E _ HR.out).mono ?_
  rintro e w1 ⟨rfl, c_w1⟩
  replace hp := hp.chg c_w1 id
  replace hx := hx.chg c_w1 id
  replace cp := cp.step c_w1 (fun _ _ h => h.elim)
  clear c_w1 
  have hy := Blk.new w1 23 [.int .i64 0, .int .i64 0, .int .i64 0]
  replace hp := hp.alloc (.cells [.int .i64 0, .int .i64 0, .int .i64 0].toArray 23)
  replace hx := hx.alloc (.cells [.int .i64 0, .int .i64 0, .int .i64 0].toArray 23)
  replace cp := cp.alloc (.cells [.int .i64 0, .int .i64 0, .int .i64 0].toArray 23)
  obtain ⟨P0, P1, P2⟩ := hp.cell3
  obtain ⟨x0, x1, x2⟩ := hx.cell3
  go_wp2_with fail
  generalize w1.alloc (.cells #[.int .i64 0, .int .i64 0, .int .i64 0] 23) = wy at *
  generalize w1.heap.size = y at *
  clear P0 P1 P2 x0 x1 x2
  obtain ⟨A, B, C, D, X, hT, hRT⟩ := take_both F T E n hn
  obtain ⟨B', D', X', hN, hRN⟩ := new_both f z hf hz
  obtain ⟨hb, hH, hRH⟩ := has_both F T E a
  refine (hT.out _).mono ?_
  rintro e w3 ⟨rfl, c_w3⟩
  replace hp := hp.chg c_w3 id
  replace hx := hx.chg c_w3 id
  replace hy := hy.chg c_w3 id
  replace cp := cp.step c_w3 (fun _ _ h => h.elim)
  clear c_w3 
  obtain ⟨p0, p1, p2⟩ := hp.cell3
  have hs := Blk.new w3 25 [.int .i64 B, .int .i64 C, .int .i64 D]
  replace hp := hp.alloc (.cells [.int .i64 B, .int .i64 C, .int .i64 D].toArray 25)
  replace hx := hx.alloc (.cells [.int .i64 B, .int .i64 C, .int .i64 D].toArray 25)
  replace hy := hy.alloc (.cells [.int .i64 B, .int .i64 C, .int .i64 D].toArray 25)
  replace cp := cp.alloc (.cells [.int .i64 B, .int .i64 C, .int .i64 D].toArray 25)
  obtain ⟨P0, P1, P2⟩ := hp.cell3
  go_wp2_with fail
  generalize w3.alloc (.cells #[.int .i64 B, .int .i64 C, .int .i64 D] 25) = ws at *
  generalize w3.heap.size = s at *
  clear p0 p1 p2 P0 P1 P2
  refine (hRT.out _).mono ?_
  rintro e w4 ⟨rfl, c_w4⟩
  replace hp := hp.chg c_w4 id
  replace hx := hx.chg c_w4 id
  replace hy := hy.chg c_w4 id
  replace hs := hs.chg c_w4 id
  replace cp := cp.step c_w4 (fun _ _ h => h.elim)
  clear c_w4 
  have ht := Blk.new w4 23 [.int .i64 B, .int .i64 C, .int .i64 D]
  replace hp := hp.alloc (.cells [.int .i64 B, .int .i64 C, .int .i64 D].toArray 23)
  replace hx := hx.alloc (.cells [.int .i64 B, .int .i64 C, .int .i64 D].toArray 23)
  replace hy := hy.alloc (.cells [.int .i64 B, .int .i64 C, .int .i64 D].toArray 23)
  replace hs := hs.alloc (.cells [.int .i64 B, .int .i64 C, .int .i64 D].toArray 23)
  replace cp := cp.alloc (.cells [.int .i64 B, .int .i64 C, .int .i64 D].toArray 23)
  go_wp2_with fail
  generalize w4.alloc (.cells #[.int .i64 B, .int .i64 C, .int .i64 D] 23) = wt at *
  generalize w4.heap.size = t at *
  refine (hN.out _).mono ?_
  rintro e w5 ⟨rfl, c_w5⟩
  replace hp := hp.chg c_w5 id
  replace hx := hx.chg c_w5 id
  replace hy := hy.chg c_w5 id
  replace hs := hs.chg c_w5 id
  replace ht := ht.chg c_w5 id
  replace cp := cp.step c_w5 (fun _ _ h => h.elim)
  clear c_w5 
  have hu := Blk.new w5 25 [.int .i64 B', .int .i64 B', .int .i64 D']
  replace hp := hp.alloc (.cells [.int .i64 B', .int .i64 B', .int .i64 D'].toArray 25)
  replace hx := hx.alloc (.cells [.int .i64 B', .int .i64 B', .int .i64 D'].toArray 25)
  replace hy := hy.alloc (.cells [.int .i64 B', .int .i64 B', .int .i64 D'].toArray 25)
  replace hs := hs.alloc (.cells [.int .i64 B', .int .i64 B', .int .i64 D'].toArray 25)
  replace ht := ht.alloc (.cells [.int .i64 B', .int .i64 B', .int .i64 D'].toArray 25)
  replace cp := cp.alloc (.cells [.int .i64 B', .int .i64 B', .int .i64 D'].toArray 25)
  go_wp2_with fail
  generalize w5.alloc (.cells #[.int .i64 B', .int .i64 B', .int .i64 D'] 25) = wu at *
  generalize w5.heap.size = u at *
  refine (hRN.out _).mono ?_
  rintro e w6 ⟨rfl, c_w6⟩
  replace hp := hp.chg c_w6 id
  replace hx := hx.chg c_w6 id
  replace hy := hy.chg c_w6 id
  replace hs := hs.chg c_w6 id
  replace ht := ht.chg c_w6 id
  replace hu := hu.chg c_w6 id
  replace cp := cp.step c_w6 (fun _ _ h => h.elim)
  clear c_w6 
  have hv := Blk.new w6 23 [.int .i64 B', .int .i64 B', .int .i64 D']
  replace hp := hp.alloc (.cells [.int .i64 B', .int .i64 B', .int .i64 D'].toArray 23)
  replace hx := hx.alloc (.cells [.int .i64 B', .int .i64 B', .int .i64 D'].toArray 23)
  replace hy := hy.alloc (.cells [.int .i64 B', .int .i64 B', .int .i64 D'].toArray 23)
  replace hs := hs.alloc (.cells [.int .i64 B', .int .i64 B', .int .i64 D'].toArray 23)
  replace ht := ht.alloc (.cells [.int .i64 B', .int .i64 B', .int .i64 D'].toArray 23)
  replace hu := hu.alloc (.cells [.int .i64 B', .int .i64 B', .int .i64 D'].toArray 23)
  replace cp := cp.alloc (.cells [.int .i64 B', .int .i64 B', .int .i64 D'].toArray 23)
  go_wp2_with fail
  generalize w6.alloc (.cells #[.int .i64 B', .int .i64 B', .int .i64 D'] 23) = wv at *
  generalize w6.heap.size = v at *
  obtain ⟨p0, p1, p2⟩ := hp.cell3
  obtain ⟨x0, x1, x2⟩ := hx.cell3
  obtain ⟨y0, y1, y2⟩ := hy.cell3
  obtain ⟨s0, s1, s2⟩ := hs.cell3
  obtain ⟨t0, t1, t2⟩ := ht.cell3
  obtain ⟨u0, u1, u2⟩ := hu.cell3
  obtain ⟨v0, v1, v2⟩ := hv.cell3
  clear hp hx hy hs ht hu hv
  refine wp_region_grow (by kernel_rfl) (by kernel_rfl) ?_
  repeat (
    with_reducible refine wpQuiet_step ?_
    intro K hK
    first
      | ((with_reducible refine quiet_offT rfl ?_ (hK _ ?_)); focus (refine ⟨_, rfl, ?_⟩; with_reducible rfl))
      | ((with_reducible refine quiet_offF rfl ?_ (hK _ ?_)); focus (refine ⟨_, rfl, ?_⟩; with_reducible rfl))
      | ((with_reducible refine quiet_offN rfl ?_ (hK _ ?_)); focus (exact rfl))
      | ((first | with_reducible refine quiet_free rfl ?_ | ((with_reducible refine quiet_on rfl ?_ ?_); focus (refine ⟨_, rfl, ?_⟩; with_reducible rfl)))
         apply Exists.intro
         refine ⟨fun W hW => ?_, hK _ ?_⟩
         focus (have q0 := Grow.cell hW p0; have q1 := Grow.cell hW p1; have q2 := Grow.cell hW p2; have q3 := Grow.cell hW x0; have q4 := Grow.cell hW x1; have q5 := Grow.cell hW x2; have q6 := Grow.cell hW y0; have q7 := Grow.cell hW y1; have q8 := Grow.cell hW y2; have q9 := Grow.cell hW s0; have q10 := Grow.cell hW s1; have q11 := Grow.cell hW s2; have q12 := Grow.cell hW t0; have q13 := Grow.cell hW t1; have q14 := Grow.cell hW t2; have q15 := Grow.cell hW u0; have q16 := Grow.cell hW u1; have q17 := Grow.cell hW u2; have q18 := Grow.cell hW v0; have q19 := Grow.cell hW v1; have q20 := Grow.cell hW v2; go_simp; first | done | with_reducible rfl | (go_at_call 15; with_reducible exact grown_call hW (right_is F T E _ HR.out)) | (go_at_call 16; with_reducible exact grown_call hW (hH.out _)) | (go_at_call 17; with_reducible exact grown_call hW (hRH.out _)) | (go_at_call 18; with_reducible exact grown_call hW (used_no F T E _ HR.out)) | (go_at_call 19; with_reducible exact grown_call hW (room_no F T E _ HR.out)) | (go_at_call 20; with_reducible exact grown_call hW (empty_no F T E _ HR.out))))
    clear hK K
    simp only [Act.put, List.setIfInBounds_toArray, List.set_cons_zero, List.set_cons_succ])
  with_reducible refine wpQuiet_nil ?_
  intro w7 c7
  go_wp2
  go_ret
  exact ⟨rfl, (cp.trans c7).below (fun _ _ h => h) (Nat.le_refl _)⟩
end Go.Proofs.Ytbnnoelioiafdaa.spaceTells

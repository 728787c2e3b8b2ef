/- For every space and number of words SpaceWrong answers true: of a space that can't be nothing is taken, nor of no words. Conditions: none. -/
import Derived.Test.YtbnnoelioiafdaaAwake
import Derived.Test.YtbnnoelioiafdaaOpen
import Derived.ShutString
namespace Go.Proofs.Ytbnnoelioiafdaa.spaceWrong
open Go.ChangeShapes Go.WideShapes Go.ChangeAt Go.RowKit Go.Deep
set_option linter.unusedVariables false

set_option maxHeartbeats 2000000 in
set_option maxRecDepth 100000 in
theorem walk_full (F T E n : Int) (w : World) (hn : n ≤ 9223372036854775807) (hr : riB F T E = true) (h1 : 1 ≤ n) (h2 : E - T < n) :
    Calls Try.prog 8 #[spV F T E, .int .i64 n] w fun e w' => e = .returned (.bool true) ∧ Below w.heap.size w w' := by
  have hp := Blk.new w 23 [.int .i64 F, .int .i64 T, .int .i64 E]
  have cp := Grow.box w (.cells [.int .i64 F, .int .i64 T, .int .i64 E].toArray 23)
  have HR := hide hr
  clear hr
  have h2' : decide (n ≤ E - T) = false := by simp; omega
  go_enter Try.func8, Try.ntmps8
  go_wp2_with fail
  generalize w.alloc (.cells #[.int .i64 F, .int .i64 T, .int .i64 E] 23) = wp at *
  obtain ⟨p, hP⟩ : ∃ p, p = w.heap.size := ⟨_, rfl⟩
  rw [← hP] at hp ⊢
  clear hP
  refine (awake_any _).mono ?_
  rintro e wa ⟨rfl, ca⟩
  replace hp := hp.chg ca id
  replace cp := cp.trans ca
  clear ca
  obtain ⟨p0, p1, p2⟩ := hp.cell3
  have hx := Blk.new wa 25 [.int .i64 F, .int .i64 T, .int .i64 E]
  have cx := cp.alloc (.cells [.int .i64 F, .int .i64 T, .int .i64 E].toArray 25)
  clear hp cp
  go_wp2_with fail
  clear p0 p1 p2
  generalize wa.alloc (.cells #[.int .i64 F, .int .i64 T, .int .i64 E] 25) = wx at *
  generalize wa.heap.size = x at *
  refine (take_full F T E n _ hn HR.out h1 h2).mono ?_
  rintro e w2 ⟨rfl, c2⟩
  have ht := Blk.new w2 25 [.int .i64 0, .int .i64 0, .int .i64 0]
  have ct := c2.alloc (.cells [.int .i64 0, .int .i64 0, .int .i64 0].toArray 25)
  replace hx := hx.chg ct id
  replace cx := cx.trans ct
  clear ct c2
  obtain ⟨x0, x1, x2⟩ := hx.cell3
  go_wp2_with fail
  clear x0 x1 x2
  generalize w2.alloc (.cells #[.int .i64 0, .int .i64 0, .int .i64 0] 25) = wt at *
  generalize w2.heap.size = t at *
  refine (right_is F T E _ HR.out).mono ?_
  rintro e w3 ⟨rfl, c3⟩
  replace hx := hx.chg c3 id
  replace ht := ht.chg c3 id
  replace cx := cx.trans c3
  clear c3
  go_wp2_with fail
  obtain ⟨x0, x1, x2⟩ := hx.cell3
  obtain ⟨t0, t1, t2⟩ := ht.cell3
  clear hx ht
  refine wp_region_grow (by kernel_rfl) (by kernel_rfl) ?_
  repeat (
    with_reducible refine wpQuiet_step ?_
    intro K hK
    first
      | ((with_reducible refine quiet_offT rfl ?_ (hK _ ?_)); focus (refine ⟨_, rfl, ?_⟩; with_reducible rfl))
      | ((with_reducible refine quiet_offF rfl ?_ (hK _ ?_)); focus (refine ⟨_, rfl, ?_⟩; with_reducible rfl))
      | ((with_reducible refine quiet_offN rfl ?_ (hK _ ?_)); focus (exact rfl))
      | ((first | with_reducible refine quiet_free rfl ?_ | ((with_reducible refine quiet_on rfl ?_ ?_); focus (refine ⟨_, rfl, ?_⟩; with_reducible rfl)))
         apply Exists.intro
         refine ⟨fun W hW => ?_, hK _ ?_⟩
         focus (have q0 := Grow.cell hW x0; have q1 := Grow.cell hW x1; have q2 := Grow.cell hW x2; have q3 := Grow.cell hW t0; have q4 := Grow.cell hW t1; have q5 := Grow.cell hW t2; go_simp; first | done | with_reducible rfl | (go_at_call 19; with_reducible exact grown_call hW (room_ok F T E _ HR.out))))
    clear hK K
    simp only [Act.put, List.setIfInBounds_toArray, List.set_cons_zero, List.set_cons_succ])
  with_reducible refine wpQuiet_nil ?_
  intro w4 c4
  go_wp2
  go_ret
  exact ⟨rfl, (cx.trans c4).below (fun _ _ h => h) (Nat.le_refl _)⟩


end Go.Proofs.Ytbnnoelioiafdaa.spaceWrong

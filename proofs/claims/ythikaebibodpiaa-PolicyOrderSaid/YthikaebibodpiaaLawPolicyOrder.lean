/- For all numbers PolicyOrder answers true: sums and products don't hang on order, and never become less, where an argument grows; they are ticks. Conditions: none. -/
import Derived.Test.YthikaebibodpiaaL11
import Derived.ShutString
namespace Go.Proofs.Ythikaebibodpiaa.policyOrder
open Go.ChangeShapes Go.WideShapes Go.ChangeAt Go.RowKit Go.Proofs.Ythikaebibodpiaa.L11
set_option linter.unusedVariables false
set_option maxHeartbeats 2000000 in
set_option maxRecDepth 100000 in
theorem walk (a0 : Int) (a1 : Int) (a2 : Int) (w : World) (w0 : (Lit.int .i64 a0).wf = true) (w1 : (Lit.int .i64 a1).wf = true) (w2 : (Lit.int .i64 a2).wf = true) :
    Calls Try.prog 5 #[.int .i64 a0, .int .i64 a1, .int .i64 a2] w fun e w' => e = .returned (.bool true) ∧ Below w.heap.size w w' := by
  have HA := hide fun W => awake_any W

  obtain ⟨x, hx⟩ : ∃ x : Int, (if a2 < a1 then a2 else a1) = x := ⟨_, rfl⟩
  obtain ⟨y, hy⟩ : ∃ y : Int, (if a2 > a1 then a2 else a1) = y := ⟨_, rfl⟩
  have hxy : x ≤ y := by rw [← hx, ← hy]; (repeat' split) <;> omega
  have hmn : ∀ ts ty W, (Builtin.min_ ts ty #[.int .i64 a1, .int .i64 a2]).run Try.prog W = .ok (.int .i64 x) W := fun ts ty W => by
    rw [run_min_int2]; congr 2
  have hmx : ∀ ts ty W, (Builtin.max_ ts ty #[.int .i64 a1, .int .i64 a2]).run Try.prog W = .ok (.int .i64 y) W := fun ts ty W => by
    rw [run_max_int2]; congr 2
  have H1 := hide fun W => add_any a0 y W
  have H2 := hide fun W => mul_any a0 y W
  have H3 := hide fun W => add_any a0 a1 W
  have H4 := hide fun W => add_any a1 a0 W
  have H5 := hide fun W => mul_any a0 a1 W
  have H6 := hide fun W => mul_any a1 a0 W
  have H7 := hide fun W => add_any a0 x W
  have H8 := hide fun W => mul_any a0 x W
  have H9 := hide fun W => add_any (ad a0 a1) a2 W
  have G1 := hide fun W => add_any a1 a2 W
  have G2 := hide fun W => add_any a0 (ad a1 a2) W
  have G3 := hide fun W => since_any a0 x W
  have G4 := hide fun W => since_any a0 y W
  rw [ad_comm a1 a0] at H4
  rw [mu_comm a1 a0] at H6
  rw [ad_assoc] at H9
  have d1 : decide (ad a0 x ≤ ad a0 y) = true := decide_eq_true (ad_mono a0 hxy)
  have d2 : decide (mu a0 x ≤ mu a0 y) = true := decide_eq_true (mu_mono a0 hxy)
  have d3 : decide (0 ≤ ad a0 y) = true := decide_eq_true (ad_in _ _).1
  have d4 : decide (ad a0 y ≤ 1099511627776) = true := decide_eq_true (ad_in _ _).2
  have d5 : decide (0 ≤ mu a0 y) = true := decide_eq_true (mu_in _ _).1
  have d6 : decide (mu a0 y ≤ 1099511627776) = true := decide_eq_true (mu_in _ _).2
  have d7 : decide (si a0 y ≤ si a0 x) = true := decide_eq_true (si_anti a0 hxy)
  generalize ad a0 (ad a1 a2) = z9 at *
  generalize ad a0 a1 = z1 at *
  generalize ad a1 a2 = z2 at *
  generalize mu a0 a1 = z3 at *
  generalize ad a0 x = z4 at *
  generalize ad a0 y = z5 at *
  generalize mu a0 x = z6 at *
  generalize mu a0 y = z7 at *
  generalize si a0 x = z8 at *
  generalize si a0 y = z0 at *
  clear w0 w1 w2 hx hy hxy
  go_enter Try.func5, Try.ntmps5
  go_wp2_with (first | (go_at_call 12; (first | with_reducible refine (HA.out _).mono ?_); rintro e w' ⟨rfl, rfl⟩) | (go_at_call 13; (first | with_reducible refine (H1.out _).mono ?_ | with_reducible refine (H3.out _).mono ?_ | with_reducible refine (H4.out _).mono ?_ | with_reducible refine (H7.out _).mono ?_ | with_reducible refine (H9.out _).mono ?_ | with_reducible refine (G1.out _).mono ?_ | with_reducible refine (G2.out _).mono ?_); rintro e w' ⟨rfl, rfl⟩) | (go_at_call 15; (first | with_reducible refine (H2.out _).mono ?_ | with_reducible refine (H5.out _).mono ?_ | with_reducible refine (H6.out _).mono ?_ | with_reducible refine (H8.out _).mono ?_); rintro e w' ⟨rfl, rfl⟩) | (go_at_call 18; (first | with_reducible refine (G3.out _).mono ?_ | with_reducible refine (G4.out _).mono ?_); rintro e w' ⟨rfl, rfl⟩))
  go_ret
  exact ⟨rfl, (Chg.refl (fun _ => False) _).below (fun _ _ h => h) (Nat.le_refl _)⟩
theorem own : ownKnob Try.prog.godebug = none := by kernel_rfl
theorem laidOut : laidOutB Try.prog = true := by kernel_rfl

set_option maxRecDepth 100000 in
theorem lifted (os : Os) (started : os.Started) (H : Type) (enc : TypeId × Value → H) :
    ReturnsInHanded {} Try.checked os 5 .any (Rows.policyOrderSpec.pre6 enc Try.prog Try.f5 Rows.policyOrderRow.domain false) (Rows.policyOrderSpec.post enc Try.prog Try.f5 false true false false) := by
  refine returnsInHanded_of_change (C := Try.checked) own started (by kernel_rfl) Try.func5
    (ChangeSpec.witness6 (enc := enc) (C := Try.checked) false ⟨#[], #[.int .i64 0, .int .i64 0, .int .i64 0], []⟩ 8 (by kernel_rfl) (by kernel_rfl) (by kernel_rfl) (by kernel_rfl)) ?_
  intro W base args ds gs before hval0 hW hcnd _
  have hval : ∀ (j : Nat) t v, Try.f5.params[j]? = some t → args[j]? = some v → Value.okWide Try.prog W .any base t v := hval0
  have hW' := hW
  obtain ⟨p, q, hA0, hV, rfl, hfz, hnd⟩ := hW
  have hA : DataW.TrodAll enc Try.prog W 0 (fun _ => true) true Try.f5.params.toList args.toList ds p := hA0
  rw [Try.params5] at hA hval
  obtain ⟨v0, vs0, d0, ds0, p0, q0, hargs, rfl, rfl, h0, r0⟩ := trodAll_cons hA
  obtain ⟨v1, vs1, d1, ds1, p1, q1, rfl, rfl, rfl, h1, r1⟩ := trodAll_cons r0
  obtain ⟨v2, vs2, d2, ds2, p2, q2, rfl, rfl, rfl, h2, r2⟩ := trodAll_cons r1
  obtain ⟨rfl, rfl, rfl⟩ := trodAll_nil r2
  obtain rfl : args = #[v0, v1, v2] := by cases args; simp_all
  obtain ⟨rfl, rfl⟩ := trodVars_none hV
  obtain ⟨a0, rfl, rfl, rfl, w0⟩ := open_int Try.underlying3 (hval 0 3 v0 rfl rfl) h0
  obtain ⟨a1, rfl, rfl, rfl, w1⟩ := open_int Try.underlying3 (hval 1 3 v1 rfl rfl) h1
  obtain ⟨a2, rfl, rfl, rfl, w2⟩ := open_int Try.underlying3 (hval 2 3 v2 rfl rfl) h2
  clear hA0 hval0
  refine (walk a0 a1 a2 W w0 w1 w2).mono fun e W' ⟨he, bel⟩ => ?_
  subst he
  exact ⟨_, rfl, _, _, _, [], _, [], hW', trodAll_mk1 (shut_bool Try.underlying4 _), (trodAll_cons_mk (shut_int Try.underlying3 w0) (trodAll_cons_mk (shut_int Try.underlying3 w1) (trodAll_cons_mk (shut_int Try.underlying3 w2) trodAll_mk0))), rfl, bel.frame _, fun h => by cases h⟩

theorem over : Rows.policyOrderRow.holds Try.pinned (OpenSpec.ofChange Rows.policyOrderSpec) :=
  OpenClaim.holds_of_wide 5 Try.f5 rfl rfl rfl rfl rfl rfl rfl ⟨rfl, rfl, rfl, rfl, rfl⟩ rfl rfl rfl rfl rfl (by kernel_rfl) Try.func5 (by kernel_rfl)
    (of_decide_eq_true (by kernel_rfl)) (by unfold Func.isWrapper; first | (rw [if_pos (by decide +kernel)]; kernel_rfl) | (rw [if_neg (by decide +kernel)]; exact ⟨rfl, rfl⟩))
    (fun os started H enc _ => lifted os started H enc)

/-- The statement. -/
theorem proved : Rows.PolicyOrderSaid := over
#print axioms proved
end Go.Proofs.Ythikaebibodpiaa.policyOrder


/- For all numbers of 16 bits PolicyEdge answers true: a soft reference is kept up to the tick that is rate times free behind its last one, and no longer. Conditions: none. -/
import Derived.Test.YthikaebibodpiaaL11
import Derived.ShutString
namespace Go.Proofs.Ythikaebibodpiaa.policyEdge
open Go.ChangeShapes Go.WideShapes Go.ChangeAt Go.RowKit Go.Proofs.Ythikaebibodpiaa.L11
set_option linter.unusedVariables false
set_option maxHeartbeats 2000000 in
set_option maxRecDepth 100000 in
theorem walk (a0 : Int) (a1 : Int) (a2 : Int) (w : World) (w0 : (Lit.int .u16 a0).wf = true) (w1 : (Lit.int .u16 a1).wf = true) (w2 : (Lit.int .u16 a2).wf = true) :
    Calls Try.prog 8 #[.int .u16 a0, .int .u16 a1, .int .u16 a2] w fun e w' => e = .returned (.bool true) ∧ Below w.heap.size w w' := by
  have HA := hide fun W => awake_any W

  have b0 := bounds_u16 w0
  have b1 := bounds_u16 w1
  have b2 := bounds_u16 w2
  have hp0 : 0 ≤ a1 * a2 := Int.mul_nonneg b1.1 b2.1
  have hp1 : a1 * a2 ≤ 65535 * 65535 := Int.mul_le_mul b1.2 b2.2 b2.1 (by omega)
  have k0 : IntKind.i64.wrap a0 = a0 := IntWalk.i64_in _ (by omega)
  have k1 : IntKind.i64.wrap a1 = a1 := IntWalk.i64_in _ (by omega)
  have k2 : IntKind.i64.wrap a2 = a2 := IntWalk.i64_in _ (by omega)
  have k3 : IntKind.i64.wrap (a1 * a2) = a1 * a2 := IntWalk.i64_in _ (by omega)
  have k4 : IntKind.i64.wrap (a0 + a1 * a2) = a0 + a1 * a2 := IntWalk.i64_in _ (by omega)
  have k5 : IntKind.i64.wrap (a0 + a1 * a2 + 1) = a0 + a1 * a2 + 1 := IntWalk.i64_in _ (by omega)
  have hm : mu a1 a2 = a1 * a2 := by unfold mu; rw [tk_id b1.1 (by omega), tk_id b2.1 (by omega), tk_id hp0 (by omega)]
  have hs : si (a0 + a1 * a2) a0 = a1 * a2 := by unfold si; rw [tk_id (n := a0) b0.1 (by omega), tk_id (n := a0 + a1 * a2) (by omega) (by omega), tk_id (by omega) (by omega)]; omega
  have hs2 : si (a0 + a1 * a2 + 1) a0 = a1 * a2 + 1 := by unfold si; rw [tk_id (n := a0) b0.1 (by omega), tk_id (n := a0 + a1 * a2 + 1) (by omega) (by omega), tk_id (by omega) (by omega)]; omega
  have H1 := hide fun W => keeps_any (a0 + a1 * a2) a0 a1 a2 W
  have H2 := hide fun W => keeps_any (a0 + a1 * a2 + 1) a0 a1 a2 W
  have H3 := hide fun W => since_any (a0 + a1 * a2) a0 W
  have H4 := hide fun W => most_any a1 a2 W
  rw [show ke (a0 + a1 * a2) a0 a1 a2 = true by unfold ke; rw [hs, hm]; simp] at H1
  rw [show ke (a0 + a1 * a2 + 1) a0 a1 a2 = false by unfold ke; rw [hs2, hm]; simp; omega] at H2
  rw [hs] at H3
  rw [hm] at H4
  clear w0 w1 w2 b0 b1 b2 hp0 hp1 hm hs hs2
  go_enter Try.func8, Try.ntmps8
  go_wp2_with (first | (go_at_call 12; (first | with_reducible refine (HA.out _).mono ?_); rintro e w' ⟨rfl, rfl⟩) | (go_at_call 20; (first | with_reducible refine (H1.out _).mono ?_ | with_reducible refine (H2.out _).mono ?_); rintro e w' ⟨rfl, rfl⟩) | (go_at_call 18; (first | with_reducible refine (H3.out _).mono ?_); rintro e w' ⟨rfl, rfl⟩) | (go_at_call 17; (first | with_reducible refine (H4.out _).mono ?_); rintro e w' ⟨rfl, rfl⟩))
  go_ret
  exact ⟨rfl, (Chg.refl (fun _ => False) _).below (fun _ _ h => h) (Nat.le_refl _)⟩
theorem own : ownKnob Try.prog.godebug = none := by kernel_rfl
theorem laidOut : laidOutB Try.prog = true := by kernel_rfl

set_option maxRecDepth 100000 in
theorem lifted (os : Os) (started : os.Started) (H : Type) (enc : TypeId × Value → H) :
    ReturnsInHanded {} Try.checked os 8 .any (Rows.policyEdgeSpec.pre6 enc Try.prog Try.f8 Rows.policyEdgeRow.domain false) (Rows.policyEdgeSpec.post enc Try.prog Try.f8 false true false false) := by
  refine returnsInHanded_of_change (C := Try.checked) own started (by kernel_rfl) Try.func8
    (ChangeSpec.witness6 (enc := enc) (C := Try.checked) false ⟨#[], #[.int .u16 0, .int .u16 0, .int .u16 0], []⟩ 8 (by kernel_rfl) (by kernel_rfl) (by kernel_rfl) (by kernel_rfl)) ?_
  intro W base args ds gs before hval0 hW hcnd _
  have hval : ∀ (j : Nat) t v, Try.f8.params[j]? = some t → args[j]? = some v → Value.okWide Try.prog W .any base t v := hval0
  have hW' := hW
  obtain ⟨p, q, hA0, hV, rfl, hfz, hnd⟩ := hW
  have hA : DataW.TrodAll enc Try.prog W 0 (fun _ => true) true Try.f8.params.toList args.toList ds p := hA0
  rw [Try.params8] at hA hval
  obtain ⟨v0, vs0, d0, ds0, p0, q0, hargs, rfl, rfl, h0, r0⟩ := trodAll_cons hA
  obtain ⟨v1, vs1, d1, ds1, p1, q1, rfl, rfl, rfl, h1, r1⟩ := trodAll_cons r0
  obtain ⟨v2, vs2, d2, ds2, p2, q2, rfl, rfl, rfl, h2, r2⟩ := trodAll_cons r1
  obtain ⟨rfl, rfl, rfl⟩ := trodAll_nil r2
  obtain rfl : args = #[v0, v1, v2] := by cases args; simp_all
  obtain ⟨rfl, rfl⟩ := trodVars_none hV
  obtain ⟨a0, rfl, rfl, rfl, w0⟩ := open_int Try.underlying46 (hval 0 46 v0 rfl rfl) h0
  obtain ⟨a1, rfl, rfl, rfl, w1⟩ := open_int Try.underlying46 (hval 1 46 v1 rfl rfl) h1
  obtain ⟨a2, rfl, rfl, rfl, w2⟩ := open_int Try.underlying46 (hval 2 46 v2 rfl rfl) h2
  clear hA0 hval0
  refine (walk a0 a1 a2 W w0 w1 w2).mono fun e W' ⟨he, bel⟩ => ?_
  subst he
  exact ⟨_, rfl, _, _, _, [], _, [], hW', trodAll_mk1 (shut_bool Try.underlying4 _), (trodAll_cons_mk (shut_int Try.underlying46 w0) (trodAll_cons_mk (shut_int Try.underlying46 w1) (trodAll_cons_mk (shut_int Try.underlying46 w2) trodAll_mk0))), rfl, bel.frame _, fun h => by cases h⟩

theorem over : Rows.policyEdgeRow.holds Try.pinned (OpenSpec.ofChange Rows.policyEdgeSpec) :=
  OpenClaim.holds_of_wide 8 Try.f8 rfl rfl rfl rfl rfl rfl rfl ⟨rfl, rfl, rfl, rfl, rfl⟩ rfl rfl rfl rfl rfl (by kernel_rfl) Try.func8 (by kernel_rfl)
    (of_decide_eq_true (by kernel_rfl)) (by unfold Func.isWrapper; first | (rw [if_pos (by decide +kernel)]; kernel_rfl) | (rw [if_neg (by decide +kernel)]; exact ⟨rfl, rfl⟩))
    (fun os started H enc _ => lifted os started H enc)

/-- The statement. -/
theorem proved : Rows.PolicyEdgeSaid := over
#print axioms proved
end Go.Proofs.Ythikaebibodpiaa.policyEdge


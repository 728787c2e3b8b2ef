/- For all numbers PolicyKeeps answers true: what is kept with some free words is kept with more, with a greater rate, and earlier; at once it is always kept. Conditions: none. -/
import Derived.Test.YthikaebibodpiaaL11
import Derived.ShutString
namespace Go.Proofs.Ythikaebibodpiaa.policyKeeps
open Go.ChangeShapes Go.WideShapes Go.ChangeAt Go.RowKit Go.Proofs.Ythikaebibodpiaa.L11
set_option linter.unusedVariables false
set_option maxHeartbeats 2000000 in
set_option maxRecDepth 100000 in
theorem walk (a0 : Int) (a1 : Int) (a2 : Int) (a3 : Int) (a4 : Int) (w : World) (w0 : (Lit.int .i64 a0).wf = true) (w1 : (Lit.int .i64 a1).wf = true) (w2 : (Lit.int .i64 a2).wf = true) (w3 : (Lit.int .i64 a3).wf = true) (w4 : (Lit.int .i64 a4).wf = true) :
    Calls Try.prog 6 #[.int .i64 a0, .int .i64 a1, .int .i64 a2, .int .i64 a3, .int .i64 a4] w fun e w' => e = .returned (.bool true) ∧ Below w.heap.size w w' := by
  have HA := hide fun W => awake_any W

  obtain ⟨n, hn⟩ : ∃ n : Int, (if a4 < a0 then a4 else a0) = n := ⟨_, rfl⟩
  obtain ⟨r, hr⟩ : ∃ r : Int, (if a4 > a2 then a4 else a2) = r := ⟨_, rfl⟩
  obtain ⟨f, hf⟩ : ∃ f : Int, (if a4 > a3 then a4 else a3) = f := ⟨_, rfl⟩
  obtain ⟨l, hl⟩ : ∃ l : Int, (if a1 < a0 then a1 else a0) = l := ⟨_, rfl⟩
  have kn : n ≤ a0 := by rw [← hn]; split <;> omega
  have kr : a2 ≤ r := by rw [← hr]; split <;> omega
  have kf : a3 ≤ f := by rw [← hf]; split <;> omega
  have kl : l ≤ a1 := by rw [← hl]; split <;> omega
  have m1 : ∀ ts ty W, (Builtin.min_ ts ty #[.int .i64 a0, .int .i64 a4]).run Try.prog W = .ok (.int .i64 n) W := fun ts ty W => by
    rw [run_min_int2]; congr 2
  have m2 : ∀ ts ty W, (Builtin.max_ ts ty #[.int .i64 a2, .int .i64 a4]).run Try.prog W = .ok (.int .i64 r) W := fun ts ty W => by
    rw [run_max_int2]; congr 2
  have m3 : ∀ ts ty W, (Builtin.max_ ts ty #[.int .i64 a3, .int .i64 a4]).run Try.prog W = .ok (.int .i64 f) W := fun ts ty W => by
    rw [run_max_int2]; congr 2
  have m4 : ∀ ts ty W, (Builtin.min_ ts ty #[.int .i64 a0, .int .i64 a1]).run Try.prog W = .ok (.int .i64 l) W := fun ts ty W => by
    rw [run_min_int2]; congr 2
  have H1 := hide fun W => keeps_any n a1 a2 a3 W
  have H2 := hide fun W => keeps_any a0 a1 r a3 W
  have H3 := hide fun W => keeps_any a0 a1 a2 f W
  have H4 := hide fun W => keeps_any a0 a1 a2 a3 W
  have H5 := hide fun W => keeps_any a0 a0 a2 a3 W
  have H6 := hide fun W => keeps_any l a1 a2 a3 W
  have e1 : ke a0 a1 a2 a3 = true → ke n a1 a2 a3 = true := ke_mono kn (Int.le_refl _) (Int.le_refl _)
  have e2 : ke a0 a1 a2 a3 = true → ke a0 a1 r a3 = true := ke_mono (Int.le_refl _) kr (Int.le_refl _)
  have e3 : ke a0 a1 a2 a3 = true → ke a0 a1 a2 f = true := ke_mono (Int.le_refl _) (Int.le_refl _) kf
  rw [ke_zero (si_zero (Int.le_refl a0))] at H5
  rw [ke_zero (si_zero kl)] at H6
  generalize ke n a1 a2 a3 = x1 at *
  generalize ke a0 a1 r a3 = x2 at *
  generalize ke a0 a1 a2 f = x3 at *
  generalize ke a0 a1 a2 a3 = x4 at *
  clear w0 w1 w2 w3 w4 hn hr hf hl kn kr kf kl
  cases x4 with
  | true =>
    obtain rfl := e1 rfl
    obtain rfl := e2 rfl
    obtain rfl := e3 rfl
    clear e1 e2 e3
    go_enter Try.func6, Try.ntmps6
    go_wp2_with (first | (go_at_call 12; (first | with_reducible refine (HA.out _).mono ?_); rintro e w' ⟨rfl, rfl⟩) | (go_at_call 20; (first | with_reducible refine (H1.out _).mono ?_ | with_reducible refine (H2.out _).mono ?_ | with_reducible refine (H3.out _).mono ?_ | with_reducible refine (H4.out _).mono ?_ | with_reducible refine (H5.out _).mono ?_ | with_reducible refine (H6.out _).mono ?_); rintro e w' ⟨rfl, rfl⟩))
    go_ret
    exact ⟨rfl, (Chg.refl (fun _ => False) _).below (fun _ _ h => h) (Nat.le_refl _)⟩
  | false =>
    clear e1 e2 e3
    go_enter Try.func6, Try.ntmps6
    go_wp2_with (first | (go_at_call 12; (first | with_reducible refine (HA.out _).mono ?_); rintro e w' ⟨rfl, rfl⟩) | (go_at_call 20; (first | with_reducible refine (H1.out _).mono ?_ | with_reducible refine (H2.out _).mono ?_ | with_reducible refine (H3.out _).mono ?_ | with_reducible refine (H4.out _).mono ?_ | with_reducible refine (H5.out _).mono ?_ | with_reducible refine (H6.out _).mono ?_); rintro e w' ⟨rfl, rfl⟩))
    go_ret
    exact ⟨rfl, (Chg.refl (fun _ => False) _).below (fun _ _ h => h) (Nat.le_refl _)⟩
theorem own : ownKnob Try.prog.godebug = none := by kernel_rfl
theorem laidOut : laidOutB Try.prog = true := by kernel_rfl

set_option maxRecDepth 100000 in
theorem lifted (os : Os) (started : os.Started) (H : Type) (enc : TypeId × Value → H) :
    ReturnsInHanded {} Try.checked os 6 .any (Rows.policyKeepsSpec.pre6 enc Try.prog Try.f6 Rows.policyKeepsRow.domain false) (Rows.policyKeepsSpec.post enc Try.prog Try.f6 false true false false) := by
  refine returnsInHanded_of_change (C := Try.checked) own started (by kernel_rfl) Try.func6
    (ChangeSpec.witness6 (enc := enc) (C := Try.checked) false ⟨#[], #[.int .i64 0, .int .i64 0, .int .i64 0, .int .i64 0, .int .i64 0], []⟩ 8 (by kernel_rfl) (by kernel_rfl) (by kernel_rfl) (by kernel_rfl)) ?_
  intro W base args ds gs before hval0 hW hcnd _
  have hval : ∀ (j : Nat) t v, Try.f6.params[j]? = some t → args[j]? = some v → Value.okWide Try.prog W .any base t v := hval0
  have hW' := hW
  obtain ⟨p, q, hA0, hV, rfl, hfz, hnd⟩ := hW
  have hA : DataW.TrodAll enc Try.prog W 0 (fun _ => true) true Try.f6.params.toList args.toList ds p := hA0
  rw [Try.params6] at hA hval
  obtain ⟨v0, vs0, d0, ds0, p0, q0, hargs, rfl, rfl, h0, r0⟩ := trodAll_cons hA
  obtain ⟨v1, vs1, d1, ds1, p1, q1, rfl, rfl, rfl, h1, r1⟩ := trodAll_cons r0
  obtain ⟨v2, vs2, d2, ds2, p2, q2, rfl, rfl, rfl, h2, r2⟩ := trodAll_cons r1
  obtain ⟨v3, vs3, d3, ds3, p3, q3, rfl, rfl, rfl, h3, r3⟩ := trodAll_cons r2
  obtain ⟨v4, vs4, d4, ds4, p4, q4, rfl, rfl, rfl, h4, r4⟩ := trodAll_cons r3
  obtain ⟨rfl, rfl, rfl⟩ := trodAll_nil r4
  obtain rfl : args = #[v0, v1, v2, v3, v4] := by cases args; simp_all
  obtain ⟨rfl, rfl⟩ := trodVars_none hV
  obtain ⟨a0, rfl, rfl, rfl, w0⟩ := open_int Try.underlying3 (hval 0 3 v0 rfl rfl) h0
  obtain ⟨a1, rfl, rfl, rfl, w1⟩ := open_int Try.underlying3 (hval 1 3 v1 rfl rfl) h1
  obtain ⟨a2, rfl, rfl, rfl, w2⟩ := open_int Try.underlying3 (hval 2 3 v2 rfl rfl) h2
  obtain ⟨a3, rfl, rfl, rfl, w3⟩ := open_int Try.underlying3 (hval 3 3 v3 rfl rfl) h3
  obtain ⟨a4, rfl, rfl, rfl, w4⟩ := open_int Try.underlying3 (hval 4 3 v4 rfl rfl) h4
  clear hA0 hval0
  refine (walk a0 a1 a2 a3 a4 W w0 w1 w2 w3 w4).mono fun e W' ⟨he, bel⟩ => ?_
  subst he
  exact ⟨_, rfl, _, _, _, [], _, [], hW', trodAll_mk1 (shut_bool Try.underlying4 _), (trodAll_cons_mk (shut_int Try.underlying3 w0) (trodAll_cons_mk (shut_int Try.underlying3 w1) (trodAll_cons_mk (shut_int Try.underlying3 w2) (trodAll_cons_mk (shut_int Try.underlying3 w3) (trodAll_cons_mk (shut_int Try.underlying3 w4) trodAll_mk0))))), rfl, bel.frame _, fun h => by cases h⟩

theorem over : Rows.policyKeepsRow.holds Try.pinned (OpenSpec.ofChange Rows.policyKeepsSpec) :=
  OpenClaim.holds_of_wide 6 Try.f6 rfl rfl rfl rfl rfl rfl rfl ⟨rfl, rfl, rfl, rfl, rfl⟩ rfl rfl rfl rfl rfl (by kernel_rfl) Try.func6 (by kernel_rfl)
    (of_decide_eq_true (by kernel_rfl)) (by unfold Func.isWrapper; first | (rw [if_pos (by decide +kernel)]; kernel_rfl) | (rw [if_neg (by decide +kernel)]; exact ⟨rfl, rfl⟩))
    (fun os started H enc _ => lifted os started H enc)

/-- The statement. -/
theorem proved : Rows.PolicyKeepsSaid := over
#print axioms proved
end Go.Proofs.Ythikaebibodpiaa.policyKeeps


/- For all numbers ObjectNil answers true: the zero store has no objects. Conditions: none. -/
import Derived.Test.YtgknndbahdjghaaL6Awake
namespace Go.Proofs.Ytgknndbahdjghaa.objectNil
open Go.ChangeShapes Go.WideShapes Go.ChangeAt Go.RowKit Go.Proofs.Ytgknndbahdjghaa.L6
open Go.Proofs.Ytgknndbahdjghaa.L4 (hdV)
set_option linter.unusedVariables false

theorem st_nil (w : World) : St w none none 0 [] [] := ⟨.inl ⟨rfl, rfl⟩, ⟨0, .slice none 0 0, L5.Tb.nil w 0, by simp [Value.ownBlock], by simp⟩, by decide, by decide, by decide⟩
set_option maxHeartbeats 1000000 in
theorem walk (at_ n : Int) (w : World) (w0 : (Lit.int .i64 at_).wf = true) (w1 : (Lit.int .i64 n).wf = true) :
    Calls Try.prog 5 #[.int .i64 at_, .int .i64 n] w fun e w' => e = .returned (.bool true) ∧ Below w.heap.size w w' := by
  have h1 : at_ ≤ 9223372036854775807 := (bounds_i64 w0).2
  clear w0 w1
  go_enter Try.func5, Try.ntmps5
  go_wp2_with fail
  refine (awake_any _).mono ?_
  rintro e wa ⟨rfl, ca⟩
  have hs := Blk.new wa 28 [.pointer none, .pointer none]
  replace ca := ca.alloc (.cells [.pointer none, .pointer none].toArray 28)
  obtain ⟨s0, s1⟩ := hs.cell2
  go_wp2_with fail
  clear s0 s1
  refine (size_is (W := 0) (b := false) (X := 2) (st_nil _) h1 (by rw [(fd_nil at_).1]; rfl) (by rw [(fd_nil at_).1]; rfl) (fd_nil at_).2).mono ?_
  rintro e w2 ⟨rfl, c_w2⟩
  replace hs := hs.chg c_w2 id
  replace ca := ca.step c_w2 (fun _ _ h => h.elim)
  clear c_w2 
  obtain ⟨s0, s1⟩ := hs.cell2
  go_wp2_with fail
  clear s0 s1
  refine (oshape_is (R := 0) (D := 0) (X := 2) (st_nil _) h1 (by rw [(ob_nil at_).1]; rfl) (by rw [(ob_nil at_).1]; rfl) (ob_nil at_).2).mono ?_
  rintro e w3 ⟨rfl, c_w3⟩
  replace hs := hs.chg c_w3 id
  replace ca := ca.step c_w3 (fun _ _ h => h.elim)
  clear c_w3 
  obtain ⟨s0, s1⟩ := hs.cell2
  go_wp2_with fail
  clear s0 s1
  refine (head_is (C := 0) (A := 0) (F := 0) (m := false) (f := false) (d := false) (X := 2) (st_nil _) h1 (by rw [(ob_nil at_).1]; rfl) (ob_nil at_).2).mono ?_
  rintro e w4 ⟨rfl, c_w4⟩
  replace hs := hs.chg c_w4 id
  replace ca := ca.step c_w4 (fun _ _ h => h.elim)
  clear c_w4 
  have hh := Blk.new w4 45 [.int .i64 0, .int .i64 0, .int .i64 0, .bool false, .bool false, .bool false]
  replace hs := hs.alloc (.cells [.int .i64 0, .int .i64 0, .int .i64 0, .bool false, .bool false, .bool false].toArray 45)
  replace ca := ca.alloc (.cells [.int .i64 0, .int .i64 0, .int .i64 0, .bool false, .bool false, .bool false].toArray 45)
  obtain ⟨s0, s1⟩ := hs.cell2
  go_wp2_with fail
  clear s0 s1
  refine (lay_no (X := 4) (st_nil _) (by rw [L5.clAt_out (cs := []) (show n < 1 ∨ ((0 : Nat) : Int) < n by omega)]; rfl) (by decide)).mono ?_
  rintro e w5 ⟨rfl, c_w5⟩
  replace hs := hs.chg c_w5 id
  replace ca := ca.step c_w5 (fun _ _ h => h.elim)
  clear c_w5 
  obtain ⟨s0, s1⟩ := hs.cell2
  go_wp2_with fail
  clear s0 s1
  refine (setref_no (X := 2) (st_nil _) h1 (sl_nil at_ 0 false) (by decide)).mono ?_
  rintro e w6 ⟨rfl, c_w6⟩
  replace hs := hs.chg c_w6 id
  replace ca := ca.step c_w6 (fun _ _ h => h.elim)
  clear c_w6 
  obtain ⟨s0, s1⟩ := hs.cell2
  go_wp2_with fail
  clear s0 s1
  refine (setnum_no (X := 2) (st_nil _) h1 (sl_nil at_ 0 true) (by decide)).mono ?_
  rintro e w7 ⟨rfl, c_w7⟩
  replace hs := hs.chg c_w7 id
  replace ca := ca.step c_w7 (fun _ _ h => h.elim)
  clear c_w7 
  go_wp2
  go_ret
  exact ⟨rfl, ca.below (fun _ _ h => h) (Nat.le_refl _)⟩


theorem own : ownKnob Try.prog.godebug = none := by kernel_rfl
theorem laidOut : laidOutB Try.prog = true := by kernel_rfl

set_option maxRecDepth 100000 in
theorem lifted (os : Os) (started : os.Started) (H : Type) (enc : TypeId × Value → H) :
    ReturnsInHanded {} Try.checked os 5 .any (Rows.objectNilSpec.pre6 enc Try.prog Try.f5 Rows.objectNilRow.domain false) (Rows.objectNilSpec.post enc Try.prog Try.f5 false true false false) := by
  refine returnsInHanded_of_change (C := Try.checked) own started (by kernel_rfl) Try.func5
    (ChangeSpec.witness6 (enc := enc) (C := Try.checked) false ⟨#[], #[.int .i64 0, .int .i64 0], []⟩ 8 (by kernel_rfl) (by kernel_rfl) (by kernel_rfl) (by kernel_rfl)) ?_
  intro W base args ds gs before hval0 hW hcnd _
  have hval : ∀ (j : Nat) t v, Try.f5.params[j]? = some t → args[j]? = some v → Value.okWide Try.prog W .any base t v := hval0
  have hW' := hW
  obtain ⟨p, q, hA0, hV, rfl, hfz, hnd⟩ := hW
  have hA : DataW.TrodAll enc Try.prog W 0 (fun _ => true) true Try.f5.params.toList args.toList ds p := hA0
  rw [Try.params5] at hA hval
  obtain ⟨v0, vs0, d0, ds0, p0, q0, hargs, rfl, rfl, h0, r0⟩ := trodAll_cons hA
  obtain ⟨v1, vs1, d1, ds1, p1, q1, rfl, rfl, rfl, h1, r1⟩ := trodAll_cons r0
  obtain ⟨rfl, rfl, rfl⟩ := trodAll_nil r1
  obtain rfl : args = #[v0, v1] := by cases args; simp_all
  obtain ⟨rfl, rfl⟩ := trodVars_none hV
  obtain ⟨a0, rfl, rfl, rfl, w0⟩ := open_int Try.underlying3 (hval 0 3 v0 rfl rfl) h0
  obtain ⟨a1, rfl, rfl, rfl, w1⟩ := open_int Try.underlying3 (hval 1 3 v1 rfl rfl) h1
  clear hA0 hval0
  refine (walk a0 a1 W w0 w1).mono fun e W' ⟨he, bel⟩ => ?_
  subst he
  exact ⟨_, rfl, _, _, _, [], _, [], hW', trodAll_mk1 (shut_bool Try.underlying4 _), (trodAll_cons_mk (shut_int Try.underlying3 w0) (trodAll_cons_mk (shut_int Try.underlying3 w1) trodAll_mk0)), rfl, bel.frame _, fun h => by cases h⟩

theorem over : Rows.objectNilRow.holds Try.pinned (OpenSpec.ofChange Rows.objectNilSpec) :=
  OpenClaim.holds_of_wide 5 Try.f5 rfl rfl rfl rfl rfl rfl rfl ⟨rfl, rfl, rfl, rfl, rfl⟩ rfl rfl rfl rfl rfl (by kernel_rfl) Try.func5 (by kernel_rfl)
    (of_decide_eq_true (by kernel_rfl)) (by unfold Func.isWrapper; first | (rw [if_pos (by decide +kernel)]; kernel_rfl) | (rw [if_neg (by decide +kernel)]; exact ⟨rfl, rfl⟩))
    (fun os started H enc _ => lifted os started H enc)

/-- The statement. -/
theorem proved : Rows.ObjectNilSaid := over
#print axioms proved
end Go.Proofs.Ytgknndbahdjghaa.objectNil


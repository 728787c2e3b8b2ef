/- For every word HeadReads answers true: it tells the head that the document says, or none; and its word is it. Conditions: none. -/
import Derived.Test.YtaaimofkfcmdkaaBack
import Derived.ShutString
namespace Go.Proofs.Ytaaimofkfcmdkaa.headReads
open Go.ChangeShapes Go.WideShapes Go.ChangeAt Go.RowKit
set_option linter.unusedVariables false

set_option maxHeartbeats 2000000 in
set_option maxRecDepth 100000 in
theorem walk_yes (C A F : Int) (m f d : Bool) (w : World) (hr : riB C A F f d = true) :
    Calls Try.prog 4 #[.int .i64 (wd C A F m f d)] w fun e w' => e = .returned (.bool true) ∧ Below w.heap.size w w' := by
  have HR := hide hr
  clear hr
  go_enter Try.func4, Try.ntmps4
  go_wp2_with fail
  refine (awake_any _).mono ?_
  rintro e wa ⟨rfl, cp⟩
  go_wp2_with fail
  refine (of_word _ HR.out).mono ?_
  rintro e w1 ⟨rfl, c_w1⟩
  replace cp := cp.step c_w1 (fun _ _ h => h.elim)
  clear c_w1 
  have hx := Blk.new w1 25 [.int .i64 C, .int .i64 A, .int .i64 F, .bool m, .bool f, .bool d]
  replace cp := cp.alloc (.cells [.int .i64 C, .int .i64 A, .int .i64 F, .bool m, .bool f, .bool d].toArray 25)
  go_wp2_with fail
  generalize w1.alloc (.cells #[.int .i64 C, .int .i64 A, .int .i64 F, .bool m, .bool f, .bool d] 25) = wx at *
  generalize w1.heap.size = x at *
  refine (rof_word _ HR.out).mono ?_
  rintro e w2 ⟨rfl, c_w2⟩
  replace hx := hx.chg c_w2 id
  replace cp := cp.step c_w2 (fun _ _ h => h.elim)
  clear c_w2 
  have hy := Blk.new w2 23 [.int .i64 C, .int .i64 A, .int .i64 F, .bool m, .bool f, .bool d]
  replace hx := hx.alloc (.cells [.int .i64 C, .int .i64 A, .int .i64 F, .bool m, .bool f, .bool d].toArray 23)
  replace cp := cp.alloc (.cells [.int .i64 C, .int .i64 A, .int .i64 F, .bool m, .bool f, .bool d].toArray 23)
  obtain ⟨y0, y1, y2, y3, y4, y5⟩ := hy.cell6
  obtain ⟨x0, x1, x2, x3, x4, x5⟩ := hx.cell6
  go_wp2_with fail
  clear y0 y1 y2 y3 y4 y5 x0 x1 x2 x3 x4 x5
  generalize w2.alloc (.cells #[.int .i64 C, .int .i64 A, .int .i64 F, .bool m, .bool f, .bool d] 23) = wy at *
  generalize w2.heap.size = y at *
  refine (word_yes _ HR.out).mono ?_
  rintro e w3 ⟨rfl, c_w3⟩
  replace hx := hx.chg c_w3 id
  replace hy := hy.chg c_w3 id
  replace cp := cp.step c_w3 (fun _ _ h => h.elim)
  clear c_w3 
  go_wp2
  go_ret
  exact ⟨rfl, cp.below (fun _ _ h => h) (Nat.le_refl _)⟩
set_option maxHeartbeats 2000000 in
set_option maxRecDepth 100000 in
theorem walk_no (n : Int) (w : World) (hr : ofB n = false) :
    Calls Try.prog 4 #[.int .i64 n] w fun e w' => e = .returned (.bool true) ∧ Below w.heap.size w w' := by
  have HR := hide hr
  clear hr
  go_enter Try.func4, Try.ntmps4
  go_wp2_with fail
  refine (awake_any _).mono ?_
  rintro e wa ⟨rfl, cp⟩
  go_wp2_with fail
  refine (of_not _ HR.out).mono ?_
  rintro e w1 ⟨rfl, c_w1⟩
  replace cp := cp.step c_w1 (fun _ _ h => h.elim)
  clear c_w1 
  have hx := Blk.new w1 25 [.int .i64 0, .int .i64 0, .int .i64 0, .bool false, .bool false, .bool false]
  replace cp := cp.alloc (.cells [.int .i64 0, .int .i64 0, .int .i64 0, .bool false, .bool false, .bool false].toArray 25)
  go_wp2_with fail
  generalize w1.alloc (.cells #[.int .i64 0, .int .i64 0, .int .i64 0, .bool false, .bool false, .bool false] 25) = wx at *
  generalize w1.heap.size = x at *
  refine (rof_not _ HR.out).mono ?_
  rintro e w2 ⟨rfl, c_w2⟩
  replace hx := hx.chg c_w2 id
  replace cp := cp.step c_w2 (fun _ _ h => h.elim)
  clear c_w2 
  have hy := Blk.new w2 23 [.int .i64 0, .int .i64 0, .int .i64 0, .bool false, .bool false, .bool false]
  replace hx := hx.alloc (.cells [.int .i64 0, .int .i64 0, .int .i64 0, .bool false, .bool false, .bool false].toArray 23)
  replace cp := cp.alloc (.cells [.int .i64 0, .int .i64 0, .int .i64 0, .bool false, .bool false, .bool false].toArray 23)
  obtain ⟨y0, y1, y2, y3, y4, y5⟩ := hy.cell6
  obtain ⟨x0, x1, x2, x3, x4, x5⟩ := hx.cell6
  go_wp2_with fail
  clear y0 y1 y2 y3 y4 y5 x0 x1 x2 x3 x4 x5
  generalize w2.alloc (.cells #[.int .i64 0, .int .i64 0, .int .i64 0, .bool false, .bool false, .bool false] 23) = wy at *
  generalize w2.heap.size = y at *
  refine (word_0 _).mono ?_
  rintro e w3 ⟨rfl, c_w3⟩
  replace hx := hx.chg c_w3 id
  replace hy := hy.chg c_w3 id
  replace cp := cp.step c_w3 (fun _ _ h => h.elim)
  clear c_w3 
  go_wp2
  go_ret
  exact ⟨rfl, cp.below (fun _ _ h => h) (Nat.le_refl _)⟩
theorem walk (n : Int) (w : World) (w0 : (Lit.int .i64 n).wf = true) :
    Calls Try.prog 4 #[.int .i64 n] w fun e w' => e = .returned (.bool true) ∧ Below w.heap.size w w' := by
  cases hr : ofB n
  · exact walk_no n w hr
  · obtain ⟨C, A, F, m, f, d, rfl, h⟩ := word_ex hr
    exact walk_yes C A F m f d w h

theorem own : ownKnob Try.prog.godebug = none := by kernel_rfl
theorem laidOut : laidOutB Try.prog = true := by kernel_rfl

set_option maxRecDepth 100000 in
theorem lifted (os : Os) (started : os.Started) (H : Type) (enc : TypeId × Value → H) :
    ReturnsInHanded {} Try.checked os 4 .any (Rows.headReadsSpec.pre6 enc Try.prog Try.f4 Rows.headReadsRow.domain false) (Rows.headReadsSpec.post enc Try.prog Try.f4 false true false false) := by
  refine returnsInHanded_of_change (C := Try.checked) own started (by kernel_rfl) Try.func4
    (ChangeSpec.witness6 (enc := enc) (C := Try.checked) false ⟨#[], #[.int .i64 0], []⟩ 8 (by kernel_rfl) (by kernel_rfl) (by kernel_rfl) (by kernel_rfl)) ?_
  intro W base args ds gs before hval0 hW hcnd _
  have hval : ∀ (j : Nat) t v, Try.f4.params[j]? = some t → args[j]? = some v → Value.okWide Try.prog W .any base t v := hval0
  have hW' := hW
  obtain ⟨p, q, hA0, hV, rfl, hfz, hnd⟩ := hW
  have hA : DataW.TrodAll enc Try.prog W 0 (fun _ => true) true Try.f4.params.toList args.toList ds p := hA0
  rw [Try.params4] at hA hval
  obtain ⟨v0, vs0, d0, ds0, p0, q0, hargs, rfl, rfl, h0, r0⟩ := trodAll_cons hA
  obtain ⟨rfl, rfl, rfl⟩ := trodAll_nil r0
  obtain rfl : args = #[v0] := by cases args; simp_all
  obtain ⟨rfl, rfl⟩ := trodVars_none hV
  obtain ⟨a0, rfl, rfl, rfl, w0⟩ := open_int Try.underlying3 (hval 0 3 v0 rfl rfl) h0
  clear hA0 hval0
  refine (walk a0 W w0).mono fun e W' ⟨he, bel⟩ => ?_
  subst he
  exact ⟨_, rfl, _, _, _, [], _, [], hW', trodAll_mk1 (shut_bool Try.underlying4 _), (trodAll_cons_mk (shut_int Try.underlying3 w0) trodAll_mk0), rfl, bel.frame _, fun h => by cases h⟩

theorem over : Rows.headReadsRow.holds Try.pinned (OpenSpec.ofChange Rows.headReadsSpec) :=
  OpenClaim.holds_of_wide 4 Try.f4 rfl rfl rfl rfl rfl rfl rfl ⟨rfl, rfl, rfl, rfl, rfl⟩ rfl rfl rfl rfl rfl (by kernel_rfl) Try.func4 (by kernel_rfl)
    (of_decide_eq_true (by kernel_rfl)) (by unfold Func.isWrapper; first | (rw [if_pos (by decide +kernel)]; kernel_rfl) | (rw [if_neg (by decide +kernel)]; exact ⟨rfl, rfl⟩))
    (fun os started H enc _ => lifted os started H enc)

/-- The statement. -/
theorem proved : Rows.HeadReadsSaid := over
#print axioms proved
end Go.Proofs.Ytaaimofkfcmdkaa.headReads


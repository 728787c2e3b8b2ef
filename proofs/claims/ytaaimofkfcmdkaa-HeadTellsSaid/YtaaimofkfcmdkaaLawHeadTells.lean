/- For every head HeadTells answers true: it can be, or not, and has the word that the document says, or none. Conditions: none. -/
import Derived.Test.YtaaimofkfcmdkaaOld
import Derived.Test.YtaaimofkfcmdkaaOpen
import Derived.ShutString
namespace Go.Proofs.Ytaaimofkfcmdkaa.headTells
open Go.ChangeShapes Go.WideShapes Go.ChangeAt Go.RowKit
set_option linter.unusedVariables false

set_option maxHeartbeats 2000000 in
set_option maxRecDepth 100000 in
theorem walk_yes (C A F : Int) (m f d : Bool) (w : World) (hr : riB C A F f d = true) :
    Calls Try.prog 3 #[hdV C A F m f d] w fun e w' => e = .returned (.bool true) ∧ Below w.heap.size w w' := by
  have hp := Blk.new w 23 [.int .i64 C, .int .i64 A, .int .i64 F, .bool m, .bool f, .bool d]
  have cp := Grow.box w (.cells [.int .i64 C, .int .i64 A, .int .i64 F, .bool m, .bool f, .bool d].toArray 23)
  have HR := hide hr
  clear hr
  go_enter Try.func3, Try.ntmps3
  go_wp2_with fail
  generalize w.alloc (.cells #[.int .i64 C, .int .i64 A, .int .i64 F, .bool m, .bool f, .bool d] 23) = wp at *
  obtain ⟨p, hP⟩ : ∃ p, p = w.heap.size := ⟨_, rfl⟩
  rw [← hP] at hp ⊢
  clear hP
  refine (awake_any _).mono ?_
  rintro e wa ⟨rfl, c_wa⟩
  replace hp := hp.chg c_wa id
  replace cp := cp.step c_wa (fun _ _ h => h.elim)
  clear c_wa 
  obtain ⟨p0, p1, p2, p3, p4, p5⟩ := hp.cell6
  have hx := Blk.new wa 25 [.int .i64 C, .int .i64 A, .int .i64 F, .bool m, .bool f, .bool d]
  replace hp := hp.alloc (.cells [.int .i64 C, .int .i64 A, .int .i64 F, .bool m, .bool f, .bool d].toArray 25)
  replace cp := cp.alloc (.cells [.int .i64 C, .int .i64 A, .int .i64 F, .bool m, .bool f, .bool d].toArray 25)
  go_wp2_with fail
  generalize wa.alloc (.cells #[.int .i64 C, .int .i64 A, .int .i64 F, .bool m, .bool f, .bool d] 25) = wx at *
  generalize wa.heap.size = x at *
  clear p0 p1 p2 p3 p4 p5
  refine (word_yes _ HR.out).mono ?_
  rintro e w1 ⟨rfl, c_w1⟩
  replace hp := hp.chg c_w1 id
  replace hx := hx.chg c_w1 id
  replace cp := cp.step c_w1 (fun _ _ h => h.elim)
  clear c_w1 
  obtain ⟨p0, p1, p2, p3, p4, p5⟩ := hp.cell6
  obtain ⟨x0, x1, x2, x3, x4, x5⟩ := hx.cell6
  go_wp2_with fail
  clear p0 p1 p2 p3 p4 p5 x0 x1 x2 x3 x4 x5
  refine (rright_is _ HR.out).mono ?_
  rintro e w2 ⟨rfl, c_w2⟩
  replace hp := hp.chg c_w2 id
  replace hx := hx.chg c_w2 id
  replace cp := cp.step c_w2 (fun _ _ h => h.elim)
  clear c_w2 
  obtain ⟨p0, p1, p2, p3, p4, p5⟩ := hp.cell6
  obtain ⟨x0, x1, x2, x3, x4, x5⟩ := hx.cell6
  go_wp2_with fail
  clear p0 p1 p2 p3 p4 p5 x0 x1 x2 x3 x4 x5
  refine (right_is _ HR.out).mono ?_
  rintro e w3 ⟨rfl, c_w3⟩
  replace hp := hp.chg c_w3 id
  replace hx := hx.chg c_w3 id
  replace cp := cp.step c_w3 (fun _ _ h => h.elim)
  clear c_w3 
  obtain ⟨p0, p1, p2, p3, p4, p5⟩ := hp.cell6
  obtain ⟨x0, x1, x2, x3, x4, x5⟩ := hx.cell6
  go_wp2_with fail
  clear p0 p1 p2 p3 p4 p5 x0 x1 x2 x3 x4 x5
  refine (rword_yes _ HR.out).mono ?_
  rintro e w4 ⟨rfl, c_w4⟩
  replace hp := hp.chg c_w4 id
  replace hx := hx.chg c_w4 id
  replace cp := cp.step c_w4 (fun _ _ h => h.elim)
  clear c_w4 
  go_wp2
  go_ret
  exact ⟨rfl, cp.below (fun _ _ h => h) (Nat.le_refl _)⟩
set_option maxHeartbeats 2000000 in
set_option maxRecDepth 100000 in
theorem walk_no (C A F : Int) (m f d : Bool) (w : World) (hr : riB C A F f d = false) :
    Calls Try.prog 3 #[hdV C A F m f d] w fun e w' => e = .returned (.bool true) ∧ Below w.heap.size w w' := by
  have hp := Blk.new w 23 [.int .i64 C, .int .i64 A, .int .i64 F, .bool m, .bool f, .bool d]
  have cp := Grow.box w (.cells [.int .i64 C, .int .i64 A, .int .i64 F, .bool m, .bool f, .bool d].toArray 23)
  have HR := hide hr
  clear hr
  go_enter Try.func3, Try.ntmps3
  go_wp2_with fail
  generalize w.alloc (.cells #[.int .i64 C, .int .i64 A, .int .i64 F, .bool m, .bool f, .bool d] 23) = wp at *
  obtain ⟨p, hP⟩ : ∃ p, p = w.heap.size := ⟨_, rfl⟩
  rw [← hP] at hp ⊢
  clear hP
  refine (awake_any _).mono ?_
  rintro e wa ⟨rfl, c_wa⟩
  replace hp := hp.chg c_wa id
  replace cp := cp.step c_wa (fun _ _ h => h.elim)
  clear c_wa 
  obtain ⟨p0, p1, p2, p3, p4, p5⟩ := hp.cell6
  have hx := Blk.new wa 25 [.int .i64 C, .int .i64 A, .int .i64 F, .bool m, .bool f, .bool d]
  replace hp := hp.alloc (.cells [.int .i64 C, .int .i64 A, .int .i64 F, .bool m, .bool f, .bool d].toArray 25)
  replace cp := cp.alloc (.cells [.int .i64 C, .int .i64 A, .int .i64 F, .bool m, .bool f, .bool d].toArray 25)
  go_wp2_with fail
  generalize wa.alloc (.cells #[.int .i64 C, .int .i64 A, .int .i64 F, .bool m, .bool f, .bool d] 25) = wx at *
  generalize wa.heap.size = x at *
  clear p0 p1 p2 p3 p4 p5
  refine (word_no _ HR.out).mono ?_
  rintro e w1 ⟨rfl, c_w1⟩
  replace hp := hp.chg c_w1 id
  replace hx := hx.chg c_w1 id
  replace cp := cp.step c_w1 (fun _ _ h => h.elim)
  clear c_w1 
  obtain ⟨p0, p1, p2, p3, p4, p5⟩ := hp.cell6
  obtain ⟨x0, x1, x2, x3, x4, x5⟩ := hx.cell6
  go_wp2_with fail
  clear p0 p1 p2 p3 p4 p5 x0 x1 x2 x3 x4 x5
  refine (rright_is _ HR.out).mono ?_
  rintro e w2 ⟨rfl, c_w2⟩
  replace hp := hp.chg c_w2 id
  replace hx := hx.chg c_w2 id
  replace cp := cp.step c_w2 (fun _ _ h => h.elim)
  clear c_w2 
  obtain ⟨p0, p1, p2, p3, p4, p5⟩ := hp.cell6
  obtain ⟨x0, x1, x2, x3, x4, x5⟩ := hx.cell6
  go_wp2_with fail
  clear p0 p1 p2 p3 p4 p5 x0 x1 x2 x3 x4 x5
  refine (right_is _ HR.out).mono ?_
  rintro e w3 ⟨rfl, c_w3⟩
  replace hp := hp.chg c_w3 id
  replace hx := hx.chg c_w3 id
  replace cp := cp.step c_w3 (fun _ _ h => h.elim)
  clear c_w3 
  go_wp2
  go_ret
  exact ⟨rfl, cp.below (fun _ _ h => h) (Nat.le_refl _)⟩
theorem walk (cs : List Value) (w : World) (w0 : fits [some .i64, some .i64, some .i64, none, none, none] cs) :
    Calls Try.prog 3 #[.agg cs.toArray] w fun e w' => e = .returned (.bool true) ∧ Below w.heap.size w w' := by
  obtain ⟨C, A, F, m, f, d, rfl, hC, hA, hF⟩ := fits_head w0
  cases hr : riB C A F f d
  · exact walk_no C A F m f d w hr
  · exact walk_yes C A F m f d w hr

theorem own : ownKnob Try.prog.godebug = none := by kernel_rfl
theorem laidOut : laidOutB Try.prog = true := by kernel_rfl

set_option maxRecDepth 100000 in
theorem lifted (os : Os) (started : os.Started) (H : Type) (enc : TypeId × Value → H) :
    ReturnsInHanded {} Try.checked os 3 .any (Rows.headTellsSpec.pre6 enc Try.prog Try.f3 Rows.headTellsRow.domain false) (Rows.headTellsSpec.post enc Try.prog Try.f3 false true false false) := by
  refine returnsInHanded_of_change (C := Try.checked) own started (by kernel_rfl) Try.func3
    (ChangeSpec.witness6 (enc := enc) (C := Try.checked) false ⟨#[], #[.agg #[.int .i64 0, .int .i64 0, .int .i64 0, .bool false, .bool false, .bool false]], []⟩ 8 (by kernel_rfl) (by kernel_rfl) (by kernel_rfl) (by kernel_rfl)) ?_
  intro W base args ds gs before hval0 hW hcnd _
  have hval : ∀ (j : Nat) t v, Try.f3.params[j]? = some t → args[j]? = some v → Value.okWide Try.prog W .any base t v := hval0
  have hW' := hW
  obtain ⟨p, q, hA0, hV, rfl, hfz, hnd⟩ := hW
  have hA : DataW.TrodAll enc Try.prog W 0 (fun _ => true) true Try.f3.params.toList args.toList ds p := hA0
  rw [Try.params3] at hA hval
  obtain ⟨v0, vs0, d0, ds0, p0, q0, hargs, rfl, rfl, h0, r0⟩ := trodAll_cons hA
  obtain ⟨rfl, rfl, rfl⟩ := trodAll_nil r0
  obtain rfl : args = #[v0] := by cases args; simp_all
  obtain ⟨rfl, rfl⟩ := trodVars_none hV
  have k0 := h0
  have lt0 : ∀ x ∈ p0, x.block < W.heap.size := by obtain ⟨m, hm⟩ := k0; exact DataW.trod_lt m _ _ _ hm
  obtain ⟨cs0, rfl, w0⟩ := open_rec [some .i64, some .i64, some .i64, none, none, none] Try.underlying23 (by kernel_rfl) (by kernel_rfl) (by kernel_rfl) (hval 0 23 v0 rfl rfl) h0
  clear hA0 hval0
  refine (walk cs0 W w0).mono fun e W' ⟨he, bel⟩ => ?_
  subst he
  exact ⟨_, rfl, _, _, _, [], _, [], hW', trodAll_mk1 (shut_bool Try.underlying4 _), (trodAll_cons_mk (Below.trod laidOut (by kernel_rfl) (of_decide_eq_true (by kernel_rfl)) k0 bel lt0) trodAll_mk0), rfl, bel.frame _, fun h => by cases h⟩

theorem over : Rows.headTellsRow.holds Try.pinned (OpenSpec.ofChange Rows.headTellsSpec) :=
  OpenClaim.holds_of_wide 3 Try.f3 rfl rfl rfl rfl rfl rfl rfl ⟨rfl, rfl, rfl, rfl, rfl⟩ rfl rfl rfl rfl rfl (by kernel_rfl) Try.func3 (by kernel_rfl)
    (of_decide_eq_true (by kernel_rfl)) (by unfold Func.isWrapper; first | (rw [if_pos (by decide +kernel)]; kernel_rfl) | (rw [if_neg (by decide +kernel)]; exact ⟨rfl, rfl⟩))
    (fun os started H enc _ => lifted os started H enc)

/-- The statement. -/
theorem proved : Rows.HeadTellsSaid := over
#print axioms proved
end Go.Proofs.Ytaaimofkfcmdkaa.headTells


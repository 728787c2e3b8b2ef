/- For all numbers v and w MemOwn answers true: what Words tells is memory of its own. Conditions: none. -/
import Derived.Test.YtaoppfmceijhfaaMem2
import Derived.ShutString
namespace Go.Proofs.Ytaoppfmceijhfaa.memOwn
open Go.ChangeShapes Go.WideShapes Go.ChangeAt Go.RowKit
set_option linter.unusedVariables false

set_option maxHeartbeats 400000 in
theorem walk (v x : Int) (w : World) (w0 : (Lit.int .i64 v).wf = true) (w1 : (Lit.int .i64 x).wf = true) :
    Calls Try.prog 5 #[.int .i64 v, .int .i64 x] w fun e w' => e = .returned (.bool true) ∧ Below w.heap.size w w' := by
  go_enter Try.func5, Try.ntmps5
  go_wp2_with fail
  refine (awake_any _).mono ?_
  rintro e wa ⟨rfl, ca⟩
  go_wp2_with fail
  refine (new_any 3 _).mono ?_
  rintro e w1 ⟨rfl, h1, c1⟩
  have h1' : Ar w1 (wa.heap.size + 1) wa.heap.size [0, 0, 0] := h1
  have hga : w.heap.size ≤ wa.heap.size := ca.size
  generalize wa.heap.size + 1 = p at *
  obtain ⟨g, hg⟩ : ∃ g, g = wa.heap.size := ⟨_, rfl⟩
  rw [← hg] at h1'
  have hgl : w.heap.size ≤ g := by omega
  have hgl' : wa.heap.size ≤ g := by omega
  clear hg h1
  go_wp2_with fail
  refine (fill_ok p g _ 0 3 v _ h1' (by decide) (by decide)).mono ?_
  rintro e w2 ⟨rfl, h2, c2⟩
  have h2' : Ar w2 p g [v, v, v] := h2
  clear h2
  go_wp2_with fail
  refine (words_ok p g _ 0 3 _ h2' (by decide : 3 ≤ 4096) (by decide : 3 ≤ 3)).mono ?_
  rintro e w3 ⟨rfl, h3, c3⟩
  have h3' : Blk w3 w2.heap.size 3 [.int .i64 v, .int .i64 v, .int .i64 v] := h3
  have hgw : g < w2.heap.size := h2'.2.lt
  obtain ⟨b, hb⟩ : ∃ b, b = w2.heap.size := ⟨_, rfl⟩
  rw [← hb] at h3' hgw ⊢
  have h4 : Ar w3 p g [v, v, v] := h2'.chg c3 id id
  have hpb : p < b := by have := h2'.1.lt; omega
  have hbb : w2.heap.size ≤ b := by omega
  clear h3 hb
  have hc1 : w3.cell? ⟨b, 1, none⟩ = some (.int .i64 v) := h3'.cell 1
  have hf1 := h3'.frozen 1
  have h5 : Ar (w3.setCell ⟨b, 1, none⟩ (.int .i64 x)) p g [v, v, v] := h4.chg ((Chg.refl (· = b) _).set1 _ _) (by omega) (by omega)
  have h6 := h3'.set_ 1 (.int .i64 x)
  have c4 : Chg (· = b) w3 (w3.setCell ⟨b, 1, none⟩ (.int .i64 x)) := (Chg.refl _ _).set1 _ _
  go_wp2_with fail
  generalize w3.setCell ⟨b, 1, none⟩ (.int .i64 x) = w4 at *
  refine (load_ok p g _ 1 _ h5 (by decide : 3 ≤ 4096) (by decide : 1 < 3)).mono ?_
  rintro e w' ⟨rfl, rfl⟩
  clear hc1 hf1
  go_wp2_with fail
  refine (store_ok p g _ 2 x _ h5 (by decide : 3 ≤ 4096) (by decide : 2 < 3)).mono ?_
  rintro e w5 ⟨rfl, h7, c5⟩
  have h8 : Blk w5 b 3 _ := h6.chg c5 (by omega)
  have hc0 : w5.cell? ⟨b, 0, none⟩ = some (.int .i64 v) := h8.cell 0
  have hc2 : w5.cell? ⟨b, 2, none⟩ = some (.int .i64 v) := h8.cell 2
  clear h8 h7 h6
  go_wp2
  go_ret
  refine ⟨by simp, ?_⟩
  have cc : Chg (fun i => w.heap.size ≤ i) w w5 := ((((ca.mono (fun _ _ h => h.elim)).step c1 (fun _ _ h => h.elim)).step c2 (fun i hi e => by omega)).step c3 (fun _ _ h => h.elim)).step c4 (fun i hi e => by omega) |>.step c5 (fun i hi e => by omega)
  exact cc.below (fun i hi => by omega) (Nat.le_refl _)

theorem own : ownKnob Try.prog.godebug = none := by kernel_rfl
theorem laidOut : laidOutB Try.prog = true := by kernel_rfl

set_option maxRecDepth 100000 in
theorem lifted (os : Os) (started : os.Started) (H : Type) (enc : TypeId × Value → H) :
    ReturnsInHanded {} Try.checked os 5 .any (Rows.memOwnSpec.pre6 enc Try.prog Try.f5 Rows.memOwnRow.domain false) (Rows.memOwnSpec.post enc Try.prog Try.f5 false true false false) := by
  refine returnsInHanded_of_change (C := Try.checked) own started (by kernel_rfl) Try.func5
    (ChangeSpec.witness6 (enc := enc) (C := Try.checked) false ⟨#[], #[.int .i64 0, .int .i64 0], []⟩ 8 (by kernel_rfl) (by kernel_rfl) (by kernel_rfl) (by kernel_rfl)) ?_
  intro W base args ds gs before hval0 hW hcnd _
  have hval : ∀ (j : Nat) t v, Try.f5.params[j]? = some t → args[j]? = some v → Value.okWide Try.prog W .any base t v := hval0
  have hW' := hW
  obtain ⟨p, q, hA0, hV, rfl, hfz, hnd⟩ := hW
  have hA : DataW.TrodAll enc Try.prog W 0 (fun _ => true) true Try.f5.params.toList args.toList ds p := hA0
  rw [Try.params5] at hA hval
  obtain ⟨v0, vs0, d0, ds0, p0, q0, hargs, rfl, rfl, h0, r0⟩ := trodAll_cons hA
  obtain ⟨v1, vs1, d1, ds1, p1, q1, rfl, rfl, rfl, h1, r1⟩ := trodAll_cons r0
  obtain ⟨rfl, rfl, rfl⟩ := trodAll_nil r1
  obtain rfl : args = #[v0, v1] := by cases args; simp_all
  obtain ⟨rfl, rfl⟩ := trodVars_none hV
  obtain ⟨a0, rfl, rfl, rfl, w0⟩ := open_int Try.underlying3 (hval 0 3 v0 rfl rfl) h0
  obtain ⟨a1, rfl, rfl, rfl, w1⟩ := open_int Try.underlying3 (hval 1 3 v1 rfl rfl) h1
  clear hA0 hval0
  refine (walk a0 a1 W w0 w1).mono fun e W' ⟨he, bel⟩ => ?_
  subst he
  exact ⟨_, rfl, _, _, _, [], _, [], hW', trodAll_mk1 (shut_bool Try.underlying4 _), (trodAll_cons_mk (shut_int Try.underlying3 w0) (trodAll_cons_mk (shut_int Try.underlying3 w1) trodAll_mk0)), rfl, bel.frame _, fun h => by cases h⟩

theorem over : Rows.memOwnRow.holds Try.pinned (OpenSpec.ofChange Rows.memOwnSpec) :=
  OpenClaim.holds_of_wide 5 Try.f5 rfl rfl rfl rfl rfl rfl rfl ⟨rfl, rfl, rfl, rfl, rfl⟩ rfl rfl rfl rfl rfl (by kernel_rfl) Try.func5 (by kernel_rfl)
    (of_decide_eq_true (by kernel_rfl)) (by unfold Func.isWrapper; first | (rw [if_pos (by decide +kernel)]; kernel_rfl) | (rw [if_neg (by decide +kernel)]; exact ⟨rfl, rfl⟩))
    (fun os started H enc _ => lifted os started H enc)

/-- The statement. -/
theorem proved : Rows.MemOwnSaid := over
#print axioms proved
end Go.Proofs.Ytaoppfmceijhfaa.memOwn


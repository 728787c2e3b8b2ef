/- For every call GraphNil answers true: a nil graph has no nodes. Conditions: none. -/
import Derived.Test.YtcinielgigdhmaaL9Awake
import Derived.Test.YtcinielgigdhmaaL9Few
import Derived.Test.YtcinielgigdhmaaL9Nil
import Derived.ShutString
namespace Go.Proofs.Ytcinielgigdhmaa.graphNil
open Go.ChangeShapes Go.WideShapes Go.ChangeAt Go.RowKit Go.Proofs.Ytcinielgigdhmaa.L9
set_option linter.unusedVariables false

set_option maxRecDepth 100000 in
set_option maxHeartbeats 2000000 in
theorem walk_long (o : Oq) (w : World) (ho : o.Ok w) (hl : 100 < o.ll) :
    Calls Try.prog 6 #[.agg o.cells.toArray] w fun e w' => e = .returned (.bool true) ∧ Below w.heap.size w w' := by
  have HO := hide ho
  have HQ := hide (show fewB [o] = false by unfold fewB; simp; omega)
  clear ho
  have hb := Blk.new w 39 o.cells
  have cc := Grow.box w (.cells o.cells.toArray 39)
  go_enter Try.func6, Try.ntmps6
  go_wp2_with fail
  generalize w.alloc (.cells o.cells.toArray 39) = wb at *
  have HGW := hide (show w.heap.size ≤ w.heap.size from Nat.le_refl _)
  refine (awake_any _).mono ?_
  rintro e w1 ⟨rfl, c1⟩
  replace hb := hb.chg c1 id
  replace cc := cc.trans c1
  clear c1
  have x0 : w1.cell? ⟨w.heap.size, 0, none⟩ = some (.int .i64 o.k) := hb.cell 0
  have x1 : w1.cell? ⟨w.heap.size, 1, none⟩ = some (.int .i64 o.a) := hb.cell 1
  have x2 : w1.cell? ⟨w.heap.size, 2, none⟩ = some (.int .i64 o.b) := hb.cell 2
  have x3 : w1.cell? ⟨w.heap.size, 3, none⟩ = some (.int .i64 o.c) := hb.cell 3
  have x4 : w1.cell? ⟨w.heap.size, 4, none⟩ = some (.slice o.la o.ll o.lc) := hb.cell 4
  have HF := hide (few_any (IsOps.one (Blk.new w1 39 o.cells) (HO.out.chg (cc.alloc _) fun _ _ => id)))
  have hb2 := hb.alloc (.cells o.cells.toArray 39)
  have cc2 := cc.alloc (.cells o.cells.toArray 39)
  go_wp2_with fail
  clear x0 x1 x2 x3 x4 hb cc
  refine HF.out.mono ?_
  rintro e w2 ⟨rfl, rfl⟩
  rw [HQ.out]
  clear HF
  generalize w1.alloc (.cells o.cells.toArray 39) = w2 at *
  go_wp2_with fail
  refine (awake_any _).mono ?_
  rintro e w3 ⟨rfl, c3⟩
  go_wp2
  go_ret
  exact ⟨rfl, (cc2.trans c3).below (fun _ _ h => h) (Nat.le_refl _)⟩
set_option maxRecDepth 100000 in
set_option maxHeartbeats 2000000 in
theorem walk_main (o : Oq) (w : World) (ho : o.Ok w) (hl : o.ll ≤ 100) :
    Calls Try.prog 6 #[.agg o.cells.toArray] w fun e w' => e = .returned (.bool true) ∧ Below w.heap.size w w' := by
  have HO := hide ho
  have HQ := hide (show fewB [o] = true by unfold fewB; simp; omega)
  clear ho
  have hb := Blk.new w 39 o.cells
  have cc := Grow.box w (.cells o.cells.toArray 39)
  go_enter Try.func6, Try.ntmps6
  go_wp2_with fail
  generalize w.alloc (.cells o.cells.toArray 39) = wb at *
  have HGW := hide (show w.heap.size ≤ w.heap.size from Nat.le_refl _)
  refine (awake_any _).mono ?_
  rintro e w1 ⟨rfl, c1⟩
  replace hb := hb.chg c1 id
  replace cc := cc.trans c1
  clear c1
  have x0 : w1.cell? ⟨w.heap.size, 0, none⟩ = some (.int .i64 o.k) := hb.cell 0
  have x1 : w1.cell? ⟨w.heap.size, 1, none⟩ = some (.int .i64 o.a) := hb.cell 1
  have x2 : w1.cell? ⟨w.heap.size, 2, none⟩ = some (.int .i64 o.b) := hb.cell 2
  have x3 : w1.cell? ⟨w.heap.size, 3, none⟩ = some (.int .i64 o.c) := hb.cell 3
  have x4 : w1.cell? ⟨w.heap.size, 4, none⟩ = some (.slice o.la o.ll o.lc) := hb.cell 4
  have HF := hide (few_any (IsOps.one (Blk.new w1 39 o.cells) (HO.out.chg (cc.alloc _) fun _ _ => id)))
  have hb2 := hb.alloc (.cells o.cells.toArray 39)
  have cc2 := cc.alloc (.cells o.cells.toArray 39)
  go_wp2_with fail
  clear x0 x1 x2 x3 x4 hb cc
  refine HF.out.mono ?_
  rintro e w2 ⟨rfl, rfl⟩
  rw [HQ.out]
  clear HF
  generalize w1.alloc (.cells o.cells.toArray 39) = w2 at *
  have hb := hb2
  have cc := cc2
  clear hb2 cc2
  have x1 : w2.cell? ⟨w.heap.size, 1, none⟩ = some (.int .i64 o.a) := hb.cell 1
  have x2 : w2.cell? ⟨w.heap.size, 2, none⟩ = some (.int .i64 o.b) := hb.cell 2
  have x3 : w2.cell? ⟨w.heap.size, 3, none⟩ = some (.int .i64 o.c) := hb.cell 3
  have x4 : w2.cell? ⟨w.heap.size, 4, none⟩ = some (.slice o.la o.ll o.lc) := hb.cell 4
  go_wp2_with fail
  clear x1 x2 x3 x4
  refine (nil_node HO.out.a).mono ?_
  rintro e w3 ⟨rfl, c3⟩
  replace hb := (hb.chg c3 id).alloc (.cells noNd.toArray 45)
  replace cc := (cc.trans c3).alloc (.cells noNd.toArray 45)
  clear c3
  have x1 : (w3.alloc (.cells noNd.toArray 45)).cell? ⟨w.heap.size, 1, none⟩ = some (.int .i64 o.a) := hb.cell 1
  have x2 : (w3.alloc (.cells noNd.toArray 45)).cell? ⟨w.heap.size, 2, none⟩ = some (.int .i64 o.b) := hb.cell 2
  have x3 : (w3.alloc (.cells noNd.toArray 45)).cell? ⟨w.heap.size, 3, none⟩ = some (.int .i64 o.c) := hb.cell 3
  have x4 : (w3.alloc (.cells noNd.toArray 45)).cell? ⟨w.heap.size, 4, none⟩ = some (.slice o.la o.ll o.lc) := hb.cell 4
  go_wp2_with fail
  clear x1 x2 x3 x4
  generalize w3.alloc (.cells noNd.toArray 45) = w4 at *
  refine (nil_aim HO.out.a).mono ?_
  rintro e w5 ⟨rfl, c5⟩
  replace hb := hb.chg c5 id
  replace cc := cc.trans c5
  clear c5
  have x1 : w5.cell? ⟨w.heap.size, 1, none⟩ = some (.int .i64 o.a) := hb.cell 1
  have x2 : w5.cell? ⟨w.heap.size, 2, none⟩ = some (.int .i64 o.b) := hb.cell 2
  have x3 : w5.cell? ⟨w.heap.size, 3, none⟩ = some (.int .i64 o.c) := hb.cell 3
  have x4 : w5.cell? ⟨w.heap.size, 4, none⟩ = some (.slice o.la o.ll o.lc) := hb.cell 4
  go_wp2_with fail
  have HROW := hide (fun W (hW : Grow w5 W) => nil_keep (HO.out.row.chg (cc.trans hW) fun _ _ => id) (show o.ll < 1000000 by omega))
  have HA := hide (show In64 o.a from HO.out.a)
  have hw0 : IntKind.i64.wrap 0 = 0 := by decide
  refine wp_region_grow (by kernel_rfl) (by kernel_rfl) ?_
  simp only [List.append_eq, List.cons_append, List.nil_append]
  repeat (
    with_reducible refine wpQuiet_step ?_
    intro K hK
    first
      | ((with_reducible refine quiet_offT rfl ?_ (hK _ ?_)); focus (refine ⟨_, rfl, ?_⟩; with_reducible rfl))
      | ((with_reducible refine quiet_offF rfl ?_ (hK _ ?_)); focus (refine ⟨_, rfl, ?_⟩; with_reducible rfl))
      | ((with_reducible refine quiet_offN rfl ?_ (hK _ ?_)); focus (exact rfl))
      | ((first | with_reducible refine quiet_free rfl ?_ | ((with_reducible refine quiet_on rfl ?_ ?_); focus (refine ⟨_, rfl, ?_⟩; with_reducible rfl)))
         apply Exists.intro
         refine ⟨fun Wq hW => ?_, hK _ ?_⟩
         focus (have q0 := Grow.cell hW x1; have q1 := Grow.cell hW x2; have q2 := Grow.cell hW x3; have q3 := Grow.cell hW x4; go_simp; first | done | with_reducible rfl | (go_at_call 14; (first | with_reducible exact grown_call hW (nil_add _ _) | with_reducible exact grown_same hW (nil_add _ _))) | (go_at_call 16; (first | with_reducible exact grown_call hW (nil_setref HA.out _ _) | with_reducible exact grown_same hW (nil_setref HA.out _ _))) | (go_at_call 18; (first | with_reducible exact grown_call hW (nil_setnum HA.out _ _) | with_reducible exact grown_same hW (nil_setnum HA.out _ _))) | (go_at_call 21; (first | with_reducible exact grown_call hW (nil_done HA.out) | with_reducible exact grown_same hW (nil_done HA.out))) | (go_at_call 26; (first | with_reducible exact grown_call hW (nil_ids _) | with_reducible exact grown_same hW (nil_ids _))) | (go_at_call 35; (first | with_reducible exact grown_call hW (nil_holds HA.out) | with_reducible exact grown_same hW (nil_holds HA.out))) | (go_at_call 22; (first | with_reducible exact grown_call hW (HROW.out _ hW) | with_reducible exact grown_same hW (HROW.out _ hW))) | (go_at_call 28; (first | with_reducible exact grown_call hW (nil_words _) | with_reducible exact grown_same hW (nil_words _)))))
    clear hK K
    simp only [Act.put, List.setIfInBounds_toArray, List.set_cons_zero, List.set_cons_succ])
  with_reducible refine wpQuiet_nil ?_
  intro w9 c9
  go_wp2
  go_ret
  exact ⟨rfl, (cc.trans c9).below (fun _ _ h => h) (Nat.le_refl _)⟩
theorem walk (o : Oq) (w : World) (ho : o.Ok w) :
    Calls Try.prog 6 #[.agg o.cells.toArray] w fun e w' => e = .returned (.bool true) ∧ Below w.heap.size w w' := by
  by_cases hl : o.ll ≤ 100
  · exact walk_main o w ho hl
  · exact walk_long o w ho (by omega)

theorem own : ownKnob Try.prog.godebug = none := by kernel_rfl
theorem laidOut : laidOutB Try.prog = true := by kernel_rfl

set_option maxRecDepth 100000 in
theorem lifted (os : Os) (started : os.Started) (H : Type) (enc : TypeId × Value → H) :
    ReturnsInHanded {} Try.checked os 6 .any (Rows.graphNilSpec.pre6 enc Try.prog Try.f6 Rows.graphNilRow.domain false) (Rows.graphNilSpec.post enc Try.prog Try.f6 false true false false) := by
  refine returnsInHanded_of_change (C := Try.checked) own started (by kernel_rfl) Try.func6
    (ChangeSpec.witness6 (enc := enc) (C := Try.checked) false ⟨#[], #[.agg #[.int .i64 0, .int .i64 0, .int .i64 0, .int .i64 0, .slice none 0 0]], []⟩ 8 (by kernel_rfl) (by kernel_rfl) (by kernel_rfl) (by kernel_rfl)) ?_
  intro W base args ds gs before hval0 hW hcnd _
  have hval : ∀ (j : Nat) t v, Try.f6.params[j]? = some t → args[j]? = some v → Value.okWide Try.prog W .any base t v := hval0
  have hW' := hW
  obtain ⟨p, q, hA0, hV, rfl, hfz, hnd⟩ := hW
  have hA : DataW.TrodAll enc Try.prog W 0 (fun _ => true) true Try.f6.params.toList args.toList ds p := hA0
  rw [Try.params6] at hA hval
  obtain ⟨v0, vs0, d0, ds0, p0, q0, hargs, rfl, rfl, h0, r0⟩ := trodAll_cons hA
  obtain ⟨rfl, rfl, rfl⟩ := trodAll_nil r0
  obtain rfl : args = #[v0] := by cases args; simp_all
  obtain ⟨rfl, rfl⟩ := trodVars_none hV
  have k0 := h0
  have lt0 : ∀ x ∈ p0, x.block < W.heap.size := by obtain ⟨m, hm⟩ := k0; exact DataW.trod_lt m _ _ _ hm
  obtain ⟨o0, rfl, w0⟩ := open_op (hval 0 39 v0 rfl rfl) h0
  clear hA0 hval0
  refine (walk o0 W w0).mono fun e W' ⟨he, bel⟩ => ?_
  subst he
  exact ⟨_, rfl, _, _, _, [], _, [], hW', trodAll_mk1 (shut_bool Try.underlying4 _), (trodAll_cons_mk (Below.trod laidOut (by kernel_rfl) (of_decide_eq_true (by kernel_rfl)) k0 bel lt0) trodAll_mk0), rfl, bel.frame _, fun h => by cases h⟩

theorem over : Rows.graphNilRow.holds Try.pinned (OpenSpec.ofChange Rows.graphNilSpec) :=
  OpenClaim.holds_of_wide 6 Try.f6 rfl rfl rfl rfl rfl rfl rfl ⟨rfl, rfl, rfl, rfl, rfl⟩ rfl rfl rfl rfl rfl (by kernel_rfl) Try.func6 (by kernel_rfl)
    (of_decide_eq_true (by kernel_rfl)) (by unfold Func.isWrapper; first | (rw [if_pos (by decide +kernel)]; kernel_rfl) | (rw [if_neg (by decide +kernel)]; exact ⟨rfl, rfl⟩))
    (fun os started H enc _ => lifted os started H enc)

/-- The statement. -/
theorem proved : Rows.GraphNilSaid := over
#print axioms proved
end Go.Proofs.Ytcinielgigdhmaa.graphNil


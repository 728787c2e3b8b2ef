/- For all classes and calls GraphSets answers true: what is set is there, and nothing else of any node is changed. Conditions: none. -/
import Derived.Test.YtcinielgigdhmaaL9SetsA
import Derived.Test.YtcinielgigdhmaaL9SetsB
namespace Go.Proofs.Ytcinielgigdhmaa.graphSets
open Go.ChangeShapes Go.WideShapes Go.ChangeAt Go.RowKit Go.Proofs.Ytcinielgigdhmaa.L9
open Go.Proofs.Ytcinielgigdhmaa.L5 (Cl clAt IsCls newX)
set_option linter.unusedVariables false
section
variable {w : World} {a a1 : Option Addr} {len cap len1 cap1 : Nat} {cs : List Cl} {l : List Oq} {o : Oq}
set_option maxRecDepth 100000 in
set_option maxHeartbeats 2000000 in
theorem walk_no (hc : IsCls w a len cap cs) (ho : IsOps w a1 len1 cap1 l) (hoo : o.Ok w) (hn : ¬ (fewB l = true ∧ fewB [o] = true ∧ len ≤ 100 ∧ newX cs = 0)) :
    Calls Try.prog 8 #[.slice a len cap, .slice a1 len1 cap1, .agg o.cells.toArray] w fun e w' => e = .returned (.bool true) ∧ Below w.heap.size w w' := by
  cases hfl : fewB l with
  | false =>
    have HFL := hide hfl
    clear hn
    have HCL := hide hc
    have HOPS := hide ho
    have HO := hide hoo
    clear hc ho hoo
    have hb := Blk.new w 39 o.cells
    have cc := Grow.box w (.cells o.cells.toArray 39)
    go_enter Try.func8, Try.ntmps8
    go_wp2_with fail
    generalize w.alloc (.cells o.cells.toArray 39) = wb at *
    refine (awake_any _).mono ?_
    rintro e w1 ⟨rfl, c1⟩
    replace hb := hb.chg c1 id
    replace cc := cc.trans c1
    clear c1
    go_wp2_with fail
    refine (few_any (HOPS.out.chg cc fun _ _ => id)).mono ?_
    rintro e w' ⟨rfl, rfl⟩
    rw [HFL.out]
    go_wp2_with fail
    refine (awake_any _).mono ?_
    rintro e w9 ⟨rfl, c9⟩
    go_wp2
    go_ret
    exact ⟨rfl, (cc.trans c9).below (fun _ _ h => h) (Nat.le_refl _)⟩
  | true =>
    have HFL := hide hfl
    cases hfo : fewB [o] with
    | false =>
      have HFO := hide hfo
      clear hn
      have HCL := hide hc
      have HOPS := hide ho
      have HO := hide hoo
      clear hc ho hoo
      have hb := Blk.new w 39 o.cells
      have cc := Grow.box w (.cells o.cells.toArray 39)
      go_enter Try.func8, Try.ntmps8
      go_wp2_with fail
      generalize w.alloc (.cells o.cells.toArray 39) = wb at *
      refine (awake_any _).mono ?_
      rintro e w1 ⟨rfl, c1⟩
      replace hb := hb.chg c1 id
      replace cc := cc.trans c1
      clear c1
      go_wp2_with fail
      refine (few_any (HOPS.out.chg cc fun _ _ => id)).mono ?_
      rintro e w' ⟨rfl, rfl⟩
      rw [HFL.out]
      have x0 : w1.cell? ⟨w.heap.size, 0, none⟩ = some (.int .i64 o.k) := hb.cell 0
      have x1 : w1.cell? ⟨w.heap.size, 1, none⟩ = some (.int .i64 o.a) := hb.cell 1
      have x2 : w1.cell? ⟨w.heap.size, 2, none⟩ = some (.int .i64 o.b) := hb.cell 2
      have x3 : w1.cell? ⟨w.heap.size, 3, none⟩ = some (.int .i64 o.c) := hb.cell 3
      have x4 : w1.cell? ⟨w.heap.size, 4, none⟩ = some (.slice o.la o.ll o.lc) := hb.cell 4
      have HF := hide (few_any (IsOps.one (Blk.new w1 39 o.cells) (HO.out.chg (cc.alloc _) fun _ _ => id)))
      replace hb := hb.alloc (.cells o.cells.toArray 39)
      replace cc := cc.alloc (.cells o.cells.toArray 39)
      go_wp2_with fail
      clear x0 x1 x2 x3 x4
      refine HF.out.mono ?_
      rintro e w2 ⟨rfl, rfl⟩
      rw [HFO.out]
      clear HF
      generalize w1.alloc (.cells o.cells.toArray 39) = w2 at *
      go_wp2_with fail
      refine (awake_any _).mono ?_
      rintro e w9 ⟨rfl, c9⟩
      go_wp2
      go_ret
      exact ⟨rfl, (cc.trans c9).below (fun _ _ h => h) (Nat.le_refl _)⟩
    | true =>
      have HFO := hide hfo
      by_cases hl : 100 < len
      · have q1 : decide ((len : Int) > 100) = true := by simp; omega
        clear hn
        have HCL := hide hc
        have HOPS := hide ho
        have HO := hide hoo
        clear hc ho hoo
        have hb := Blk.new w 39 o.cells
        have cc := Grow.box w (.cells o.cells.toArray 39)
        go_enter Try.func8, Try.ntmps8
        go_wp2_with fail
        generalize w.alloc (.cells o.cells.toArray 39) = wb at *
        refine (awake_any _).mono ?_
        rintro e w1 ⟨rfl, c1⟩
        replace hb := hb.chg c1 id
        replace cc := cc.trans c1
        clear c1
        go_wp2_with fail
        refine (few_any (HOPS.out.chg cc fun _ _ => id)).mono ?_
        rintro e w' ⟨rfl, rfl⟩
        rw [HFL.out]
        have x0 : w1.cell? ⟨w.heap.size, 0, none⟩ = some (.int .i64 o.k) := hb.cell 0
        have x1 : w1.cell? ⟨w.heap.size, 1, none⟩ = some (.int .i64 o.a) := hb.cell 1
        have x2 : w1.cell? ⟨w.heap.size, 2, none⟩ = some (.int .i64 o.b) := hb.cell 2
        have x3 : w1.cell? ⟨w.heap.size, 3, none⟩ = some (.int .i64 o.c) := hb.cell 3
        have x4 : w1.cell? ⟨w.heap.size, 4, none⟩ = some (.slice o.la o.ll o.lc) := hb.cell 4
        have HF := hide (few_any (IsOps.one (Blk.new w1 39 o.cells) (HO.out.chg (cc.alloc _) fun _ _ => id)))
        replace hb := hb.alloc (.cells o.cells.toArray 39)
        replace cc := cc.alloc (.cells o.cells.toArray 39)
        go_wp2_with fail
        clear x0 x1 x2 x3 x4
        refine HF.out.mono ?_
        rintro e w2 ⟨rfl, rfl⟩
        rw [HFO.out]
        clear HF
        generalize w1.alloc (.cells o.cells.toArray 39) = w2 at *
        go_wp2_with fail
        refine (awake_any _).mono ?_
        rintro e w9 ⟨rfl, c9⟩
        go_wp2
        go_ret
        exact ⟨rfl, (cc.trans c9).below (fun _ _ h => h) (Nat.le_refl _)⟩
      · have q1 : decide ((len : Int) > 100) = false := by simp; omega
        replace hl : len ≤ 100 := by omega
        obtain ⟨X, hX⟩ : ∃ X, newX cs = X := ⟨_, rfl⟩
        have hX0 : X ≠ 0 := fun e => hn ⟨hfl, hfo, hl, by rw [hX, e]⟩
        have q2 : (X != 0) = true := by simpa using hX0
        have HNX := hide hX
        clear hn hX hX0
        have HCL := hide hc
        have HOPS := hide ho
        have HO := hide hoo
        clear hc ho hoo
        have hb := Blk.new w 39 o.cells
        have cc := Grow.box w (.cells o.cells.toArray 39)
        go_enter Try.func8, Try.ntmps8
        go_wp2_with fail
        generalize w.alloc (.cells o.cells.toArray 39) = wb at *
        refine (awake_any _).mono ?_
        rintro e w1 ⟨rfl, c1⟩
        replace hb := hb.chg c1 id
        replace cc := cc.trans c1
        clear c1
        go_wp2_with fail
        refine (few_any (HOPS.out.chg cc fun _ _ => id)).mono ?_
        rintro e w' ⟨rfl, rfl⟩
        rw [HFL.out]
        have x0 : w1.cell? ⟨w.heap.size, 0, none⟩ = some (.int .i64 o.k) := hb.cell 0
        have x1 : w1.cell? ⟨w.heap.size, 1, none⟩ = some (.int .i64 o.a) := hb.cell 1
        have x2 : w1.cell? ⟨w.heap.size, 2, none⟩ = some (.int .i64 o.b) := hb.cell 2
        have x3 : w1.cell? ⟨w.heap.size, 3, none⟩ = some (.int .i64 o.c) := hb.cell 3
        have x4 : w1.cell? ⟨w.heap.size, 4, none⟩ = some (.slice o.la o.ll o.lc) := hb.cell 4
        have HF := hide (few_any (IsOps.one (Blk.new w1 39 o.cells) (HO.out.chg (cc.alloc _) fun _ _ => id)))
        replace hb := hb.alloc (.cells o.cells.toArray 39)
        replace cc := cc.alloc (.cells o.cells.toArray 39)
        go_wp2_with fail
        clear x0 x1 x2 x3 x4
        refine HF.out.mono ?_
        rintro e w2 ⟨rfl, rfl⟩
        rw [HFO.out]
        clear HF
        generalize w1.alloc (.cells o.cells.toArray 39) = w2 at *
        go_wp2_with fail
        refine (L5.rnew_any _ _ _ _ _ (HCL.out.chg cc fun _ _ => id) hl).mono ?_
        rintro e w3 ⟨rfl, c3⟩
        rw [HNX.out]
        replace cc := cc.trans c3
        
        go_wp2_with fail
        refine (awake_any _).mono ?_
        rintro e w9 ⟨rfl, c9⟩
        go_wp2
        go_ret
        exact ⟨rfl, (cc.trans c9).below (fun _ _ h => h) (Nat.le_refl _)⟩
end
theorem walk (a : Option Addr) (len cap : Nat) (cs : List Cl) (a1 : Option Addr) (len1 cap1 : Nat) (l : List Oq) (o : Oq) (w : World) (hc : IsCls w a len cap cs) (ho : IsOps w a1 len1 cap1 l) (hoo : o.Ok w) :
    Calls Try.prog 8 #[.slice a len cap, .slice a1 len1 cap1, .agg o.cells.toArray] w fun e w' => e = .returned (.bool true) ∧ Below w.heap.size w w' := by
  by_cases h : fewB l = true ∧ fewB [o] = true ∧ len ≤ 100 ∧ newX cs = 0
  · cases hodd : (o.k.tmod 2 == 1) with
    | true => exact walk_odd hc ho hoo h.1 h.2.1 h.2.2.1 h.2.2.2 hodd
    | false => exact walk_even hc ho hoo h.1 h.2.1 h.2.2.1 h.2.2.2 hodd
  · exact walk_no hc ho hoo h

theorem own : ownKnob Try.prog.godebug = none := by kernel_rfl
theorem laidOut : laidOutB Try.prog = true := by kernel_rfl

set_option maxRecDepth 100000 in
theorem lifted (os : Os) (started : os.Started) (H : Type) (enc : TypeId × Value → H) :
    ReturnsInHanded {} Try.checked os 8 .any (Rows.graphSetsSpec.pre6 enc Try.prog Try.f8 Rows.graphSetsRow.domain false) (Rows.graphSetsSpec.post enc Try.prog Try.f8 false true false false) := by
  refine returnsInHanded_of_change (C := Try.checked) own started (by kernel_rfl) Try.func8
    (ChangeSpec.witness6 (enc := enc) (C := Try.checked) false ⟨#[], #[.slice none 0 0, .slice none 0 0, .agg #[.int .i64 0, .int .i64 0, .int .i64 0, .int .i64 0, .slice none 0 0]], []⟩ 8 (by kernel_rfl) (by kernel_rfl) (by kernel_rfl) (by kernel_rfl)) ?_
  intro W base args ds gs before hval0 hW hcnd _
  have hval : ∀ (j : Nat) t v, Try.f8.params[j]? = some t → args[j]? = some v → Value.okWide Try.prog W .any base t v := hval0
  have hW' := hW
  obtain ⟨p, q, hA0, hV, rfl, hfz, hnd⟩ := hW
  have hA : DataW.TrodAll enc Try.prog W 0 (fun _ => true) true Try.f8.params.toList args.toList ds p := hA0
  rw [Try.params8] at hA hval
  obtain ⟨v0, vs0, d0, ds0, p0, q0, hargs, rfl, rfl, h0, r0⟩ := trodAll_cons hA
  obtain ⟨v1, vs1, d1, ds1, p1, q1, rfl, rfl, rfl, h1, r1⟩ := trodAll_cons r0
  obtain ⟨v2, vs2, d2, ds2, p2, q2, rfl, rfl, rfl, h2, r2⟩ := trodAll_cons r1
  obtain ⟨rfl, rfl, rfl⟩ := trodAll_nil r2
  obtain rfl : args = #[v0, v1, v2] := by cases args; simp_all
  obtain ⟨rfl, rfl⟩ := trodVars_none hV
  have k0 := h0
  have lt0 : ∀ x ∈ p0, x.block < W.heap.size := by obtain ⟨m, hm⟩ := k0; exact DataW.trod_lt m _ _ _ hm
  obtain ⟨a0, len0, cap0, cs0, rfl, w0⟩ := L5.open_cls (hval 0 22 v0 rfl rfl) h0
  have k1 := h1
  have lt1 : ∀ x ∈ p1, x.block < W.heap.size := by obtain ⟨m, hm⟩ := k1; exact DataW.trod_lt m _ _ _ hm
  obtain ⟨a1, len1, cap1, l1, rfl, w1⟩ := open_ops (hval 1 23 v1 rfl rfl) h1
  have k2 := h2
  have lt2 : ∀ x ∈ p2, x.block < W.heap.size := by obtain ⟨m, hm⟩ := k2; exact DataW.trod_lt m _ _ _ hm
  obtain ⟨o2, rfl, w2⟩ := open_op (hval 2 39 v2 rfl rfl) h2
  clear hA0 hval0
  refine (walk a0 len0 cap0 cs0 a1 len1 cap1 l1 o2 W w0 w1 w2).mono fun e W' ⟨he, bel⟩ => ?_
  subst he
  exact ⟨_, rfl, _, _, _, [], _, [], hW', trodAll_mk1 (shut_bool Try.underlying4 _), (trodAll_cons_mk (Below.trod laidOut (by kernel_rfl) (of_decide_eq_true (by kernel_rfl)) k0 bel lt0) (trodAll_cons_mk (Below.trod laidOut (by kernel_rfl) (of_decide_eq_true (by kernel_rfl)) k1 bel lt1) (trodAll_cons_mk (Below.trod laidOut (by kernel_rfl) (of_decide_eq_true (by kernel_rfl)) k2 bel lt2) trodAll_mk0))), rfl, bel.frame _, fun h => by cases h⟩

theorem over : Rows.graphSetsRow.holds Try.pinned (OpenSpec.ofChange Rows.graphSetsSpec) :=
  OpenClaim.holds_of_wide 8 Try.f8 rfl rfl rfl rfl rfl rfl rfl ⟨rfl, rfl, rfl, rfl, rfl⟩ rfl rfl rfl rfl rfl (by kernel_rfl) Try.func8 (by kernel_rfl)
    (of_decide_eq_true (by kernel_rfl)) (by unfold Func.isWrapper; first | (rw [if_pos (by decide +kernel)]; kernel_rfl) | (rw [if_neg (by decide +kernel)]; exact ⟨rfl, rfl⟩))
    (fun os started H enc _ => lifted os started H enc)

/-- The statement. -/
theorem proved : Rows.GraphSetsSaid := over
#print axioms proved
end Go.Proofs.Ytcinielgigdhmaa.graphSets


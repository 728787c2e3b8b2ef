/- For all numbers a and b BitsNil answers true: a nil map, and the zero one, have no places. Conditions: the table of math/bits.TrailingZeros64 is as the program's text lays it, which the card ties. -/
import Derived.Test.YtobecefikkgelaaDoorMs
import Derived.Test.YtobecefikkgelaaDoorCards
import Derived.Test.YtobecefikkgelaaDoorTie
import Derived.SevenTiedAt
import Derived.Stop.Joined
import Derived.ShutString
namespace Go.Proofs.YtobecefikkgelaaDoor.bitsNil
open Go.ChangeShapes Go.WideShapes Go.ChangeAt Go.RowKit
set_option linter.unusedVariables false

theorem rep0 : Rep 0 [] := ⟨by omega, rfl, fun k => by simp, fun i hi => by simp [hs] at hi⟩
theorem ex0 (i : Int) : exB 0 i = false := by
  unfold exB
  rw [decide_eq_false_iff_not]
  omega
section
variable {pv : Value} {A : Option Addr} (a b : Int) (w : World)
theorem z_set (h : Mv w pv A 0 []) : Calls Tryd.prog 13 #[pv, .int .i64 a] w fun e w' => e = .returned (.bool false) ∧ w = w' := set_no w _ _ 0 [] a h (ex0 a)
theorem z_clear (h : Mv w pv A 0 []) : Calls Tryd.prog 15 #[pv, .int .i64 a] w fun e w' => e = .returned (.bool false) ∧ Grow w w' := clear_no w _ _ 0 [] a h (by simp [hasB, ex0])
theorem z_has (h : Mv w pv A 0 []) : Calls Tryd.prog 16 #[pv, .int .i64 a] w fun e w' => e = .returned (.bool false) ∧ Grow w w' := has_no _ _ 0 [] w a h (ex0 a)
theorem z_next (h : Mv w pv A 0 []) : Calls Tryd.prog 18 #[pv, .int .i64 a] w fun e w' => e = .returned (.int .i64 (-1)) ∧ Grow w w' := by
  have := next_out _ _ 0 [] w a h (by omega)
  rwa [nx_none fun k h1 h2 => by omega] at this
theorem z_between (h : Mv w pv A 0 []) : Calls Tryd.prog 20 #[pv, .int .i64 a, .int .i64 b] w fun e w' => e = .returned (.int .i64 0) ∧ Grow w w' := by
  have := between_any _ _ 0 [] w a b h
  rwa [show btw (hs []) 0 a b = 0 by have h1 : cl 0 b = 0 := (by unfold cl; omega); unfold btw; rw [h1]; simp [cnt]] at this
theorem z_count (h : Mv w pv A 0 []) : Calls Tryd.prog 23 #[pv] w fun e w' => e = .returned (.int .i64 0) ∧ Grow w w' := count_any _ _ 0 [] w h
end

set_option maxHeartbeats 4000000 in
set_option maxRecDepth 100000 in
theorem walk (a b : Int) (w : World) (ht : Tab w) (w0 : (Lit.int .i64 a).wf = true) (w1 : (Lit.int .i64 b).wf = true) :
    Calls Tryd.prog 6 #[.int .i64 a, .int .i64 b] w fun e w' => e = .returned (.bool true) ∧ Below w.heap.size w w' := by
  clear w0 w1
  have hn : ∀ W : World, Mv W (.pointer none) none 0 [] := fun W => ⟨rep0, .inl ⟨rfl, rfl, rfl, rfl⟩, fun k hk => by simp at hk⟩
  have HN := hide hn
  have HT := hide ht
  clear hn ht
  go_enter Tryd.func6, Tryd.ntmps6
  go_wp2_with fail
  refine (awake_any _ HT.out).mono ?_
  rintro e wa ⟨rfl, ca⟩
  have hz := Blk.new wa 46 [.int .i64 0, .slice none 0 0]
  have cz : Grow w (wa.alloc (.cells [.int .i64 0, .slice none 0 0].toArray 46)) := ca.alloc _
  have HZ := hide (show Mv (wa.alloc (.cells [.int .i64 0, .slice none 0 0].toArray 46)) (ptr wa.heap.size) none 0 [] from ⟨rep0, .inr ⟨_, rfl, hz.cell 0, hz.cell 1⟩, fun k hk => by simp at hk⟩)
  clear ca hz
  go_wp2_with fail
  generalize wa.alloc (.cells #[.int .i64 0, .slice none 0 0] 46) = wz at *
  generalize wa.heap.size = z at *
  refine (wipe_none _ _ none 0 (HN.out _)).mono ?_
  rintro e w' ⟨rfl, rfl⟩
  go_wp2_with fail
  refine (wipe_none _ _ none 0 HZ.out).mono ?_
  rintro e w' ⟨rfl, rfl⟩
  go_wp2_with fail
  refine (z_set a _ (HN.out _)).mono ?_
  rintro e w' ⟨rfl, rfl⟩
  go_wp2_with fail
  refine (z_clear a _ (HN.out _)).mono ?_
  rintro e w1 ⟨rfl, c1⟩
  have hz1 := HZ.out.grow c1
  clear HZ
  have HZ := hide hz1
  replace cz := cz.trans c1
  clear hz1 c1
  go_wp2_with fail
  refine (z_has a _ (HN.out _)).mono ?_
  rintro e w2 ⟨rfl, c2⟩
  have hz2 := HZ.out.grow c2
  clear HZ
  have HZ := hide hz2
  replace cz := cz.trans c2
  clear hz2 c2
  go_wp2_with fail
  refine (z_next a _ (HN.out _)).mono ?_
  rintro e w3 ⟨rfl, c3⟩
  have hz3 := HZ.out.grow c3
  clear HZ
  have HZ := hide hz3
  replace cz := cz.trans c3
  clear hz3 c3
  go_wp2_with fail
  refine (z_between a b _ (HN.out _)).mono ?_
  rintro e w4 ⟨rfl, c4⟩
  have hz4 := HZ.out.grow c4
  clear HZ
  have HZ := hide hz4
  replace cz := cz.trans c4
  clear hz4 c4
  go_wp2_with fail
  refine (len_any _ _ 0 [] _ (HN.out _)).mono ?_
  rintro e w' ⟨rfl, rfl⟩
  go_wp2_with fail
  refine (z_count _ (HN.out _)).mono ?_
  rintro e w5 ⟨rfl, c5⟩
  have hz5 := HZ.out.grow c5
  clear HZ
  have HZ := hide hz5
  replace cz := cz.trans c5
  clear hz5 c5
  go_wp2_with fail
  refine (len_any _ _ 0 [] _ HZ.out).mono ?_
  rintro e w' ⟨rfl, rfl⟩
  go_wp2_with fail
  refine (z_count _ HZ.out).mono ?_
  rintro e w6 ⟨rfl, c6⟩
  have hz6 := HZ.out.grow c6
  clear HZ
  have HZ := hide hz6
  replace cz := cz.trans c6
  clear hz6 c6
  go_wp2_with fail
  refine (z_set a _ HZ.out).mono ?_
  rintro e w' ⟨rfl, rfl⟩
  go_wp2_with fail
  refine (z_has a _ HZ.out).mono ?_
  rintro e w7 ⟨rfl, c7⟩
  have hz7 := HZ.out.grow c7
  clear HZ
  have HZ := hide hz7
  replace cz := cz.trans c7
  clear hz7 c7
  go_wp2_with fail
  refine (z_next a _ HZ.out).mono ?_
  rintro e w8 ⟨rfl, c8⟩
  have hz8 := HZ.out.grow c8
  clear HZ
  have HZ := hide hz8
  replace cz := cz.trans c8
  clear hz8 c8
  go_wp2
  go_ret
  exact ⟨rfl, cz.below (fun _ _ h => h) (Nat.le_refl _)⟩

theorem own : ownKnob Tryd.prog.godebug = none := by kernel_rfl
theorem laidOut : laidOutB Tryd.prog = true := by kernel_rfl
theorem door_met (os : Os) (args : Array Value) : laidMetH Tryd.prog Rows.bitsNilRow.laid ((World.doorLaid Tryd.prog 400 os).forCall (fun _ _ => 0) ⟨#[], args, []⟩).memory :=
  laidMetH_of_parts3 (fuel := 8) (laidMet_of_run' 8 (by kernel_rfl) (by kernel_rfl)) (by kernel_rfl) (by kernel_rfl)

set_option maxRecDepth 100000 in
theorem lifted (os : Os) (started : os.Started) (H : Type) (enc : TypeId × Value → H) :
    ReturnsInHanded {} Tryd.checked os 6 .any (fun w args => (Rows.bitsNilSpec.pre enc Tryd.prog Tryd.f6 [] false w args ∧ laidMetH Tryd.prog Rows.bitsNilRow.laid w) ∧ sizedMet enc Tryd.prog Tryd.f6 (OpenSpec.ofChange Rows.bitsNilSpec) false w args) (Rows.bitsNilSpec.post enc Tryd.prog Tryd.f6 false true false false) := by
  refine returnsInHanded_of_change_and (C := Tryd.checked) (X := fun w _ => laidMetH Tryd.prog Rows.bitsNilRow.laid w) (fun _ _ _ hh h => h.of_heap hh) own started (by kernel_rfl) Tryd.func6
    (ChangeSpec.witness_shaped (enc := enc) (C := Tryd.checked) (os := os) (X := fun w _ => laidMetH Tryd.prog Rows.bitsNilRow.laid w) false (World.doorLaid Tryd.prog 400 os) #[.int .i64 0, .int .i64 0] 8 rfl (World.shaped_of_RefB (by kernel_rfl) (by kernel_rfl)) (by kernel_rfl) (by kernel_rfl) (by kernel_rfl) (door_met os _)) ?_
  intro W base args ds gs before hval0 hW _ _ hL _
  have hval : ∀ (j : Nat) t v, Tryd.f6.params[j]? = some t → args[j]? = some v → Value.okWide Tryd.prog W .any base t v := hval0
  have hW' := hW
  obtain ⟨p, q, hA0, hV, rfl, hfz, hnd⟩ := hW
  have hA : DataW.TrodAll enc Tryd.prog W 0 (fun _ => true) true Tryd.f6.params.toList args.toList ds p := hA0
  rw [Tryd.params6] at hA hval
  obtain ⟨v0, vs0, d0, ds0, p0, q0, hargs, rfl, rfl, h0, r0⟩ := trodAll_cons hA
  obtain ⟨v1, vs1, d1, ds1, p1, q1, rfl, rfl, rfl, h1, r1⟩ := trodAll_cons r0
  obtain ⟨rfl, rfl, rfl⟩ := trodAll_nil r1
  obtain rfl : args = #[v0, v1] := by cases args; simp_all
  obtain ⟨rfl, rfl⟩ := trodVars_none hV
  obtain ⟨a0, rfl, rfl, rfl, w0⟩ := open_int Tryd.underlying3 (hval 0 3 v0 rfl rfl) h0
  obtain ⟨a1, rfl, rfl, rfl, w1⟩ := open_int Tryd.underlying3 (hval 1 3 v1 rfl rfl) h1
  clear hA0 hval0
  refine (walk a0 a1 W (tab_of_laid hL) w0 w1).mono fun e W' ⟨he, bel⟩ => ?_
  subst he
  exact ⟨_, rfl, _, _, _, [], _, [], hW', trodAll_mk1 (shut_bool Tryd.underlying4 _), (trodAll_cons_mk (shut_int Tryd.underlying3 w0) (trodAll_cons_mk (shut_int Tryd.underlying3 w1) trodAll_mk0)), rfl, bel.frame _, fun h => by cases h⟩

theorem over : Rows.bitsNilRow.holds Tryd.pinned (OpenSpec.ofChange Rows.bitsNilSpec) :=
  OpenClaim.holds_of_wide 6 Tryd.f6 rfl rfl rfl rfl rfl rfl rfl ⟨rfl, rfl, rfl, rfl, rfl⟩ rfl rfl rfl rfl rfl (by kernel_rfl) Tryd.func6 (by kernel_rfl)
    (of_decide_eq_true (by kernel_rfl)) (by unfold Func.isWrapper; first | (rw [if_pos (by decide +kernel)]; kernel_rfl) | (rw [if_neg (by decide +kernel)]; exact ⟨rfl, rfl⟩))
    (fun os started H enc _ => lifted os started H enc)

/-- The statement. -/
theorem proved : Rows.BitsNilCardSaid :=
  Claim7.holds_tied_plain_at .later [] [.data] true Rows.bitsNilCard.stood.harness false
    over (fun _ h => by cases h) (by kernel_rfl) (fun _ h => by cases h) bitsNil_row_tie rfl ⟨rfl, rfl⟩ (by kernel_rfl) rfl
    (fun f fn hf hfn => by
      obtain rfl : f = 6 := Option.some.inj ((show Tryd.prog.funcNamed "gleaning/gleaninglaw03.BitsNil" = some 6 by kernel_rfl).symm.trans hf) |>.symm
      obtain rfl : fn = Tryd.f6 := (Option.some.inj (Tryd.func6.symm.trans hfn)).symm
      exact ⟨by kernel_rfl, fun j t ht => by
        rw [Tryd.params6] at ht
        have hm : t ∈ [3] := by have := Array.mem_of_getElem? ht; simp at this ⊢; omega
        have hall : ([3].all fun u => !Tryd.prog.wantsStandIn u) = true := by kernel_rfl
        exact (show Tryd.prog.wantsStandIn t = false by simpa using List.all_eq_true.1 hall t hm)⟩)
    (by kernel_rfl)
#print axioms proved
end Go.Proofs.YtobecefikkgelaaDoor.bitsNil


/- For all numbers CardNil answers true: a nil table, and one without addresses, has no cards. Conditions: the table of math/bits.TrailingZeros64 is as the program's text lays it, which the card ties. -/
import Derived.Test.YtbigdgabjjpffaaDoorL7Awake
import Derived.Test.YtbigdgabjjpffaaDoorCards
import Derived.Test.YtbigdgabjjpffaaDoorTie
import Derived.SevenTiedAt
import Derived.Stop.Joined
import Derived.ShutString
namespace Go.Proofs.YtbigdgabjjpffaaDoor.cardNil
open Go.ChangeShapes Go.WideShapes Go.ChangeAt Go.RowKit Go.Proofs.YtbigdgabjjpffaaDoor.L3 Go.Proofs.YtbigdgabjjpffaaDoor.L7
set_option linter.unusedVariables false

set_option maxHeartbeats 4000000 in
set_option maxRecDepth 100000 in
theorem walk (a : Int) (w : World) (ht : Tab w) (w0 : (Lit.int .i64 a).wf = true) :
    Calls Tryd.prog 6 #[.int .i64 a] w fun e w' => e = .returned (.bool true) ∧ Below w.heap.size w w' := by
  clear w0
  have HT := hide ht
  clear ht
  go_enter Tryd.func6, Tryd.ntmps6
  go_wp2_with fail
  refine (awake_any _ HT.out).mono ?_
  rintro e wa ⟨rfl, cc⟩
  go_wp2_with fail
  refine (nil_wipe _).mono ?_
  rintro e w1 ⟨rfl, c'⟩
  replace cc := cc.trans c'
  clear c'
  go_wp2_with fail
  refine (nil_take _).mono ?_
  rintro e w2 ⟨rfl, c'⟩
  replace cc := cc.trans c'
  clear c'
  go_wp2_with fail
  refine (tb_new a a _ (F := clamp a) (T := clamp a) rfl (Nat.max_self _)).mono ?_
  rintro e w3 ⟨p, m, g, rfl, h, hp, hm, hg, c'⟩
  have HG := hide (Nat.le_trans cc.size hg)
  replace cc := cc.trans c'
  clear hp hm hg c'
  go_wp2_with fail
  refine (nil_touch _ a).mono ?_
  rintro e w4 ⟨rfl, c'⟩
  replace cc := cc.trans c'
  replace h := h.grow c'
  clear c'
  go_wp2_with fail
  refine (nil_dirty _ a).mono ?_
  rintro e w5 ⟨rfl, c'⟩
  replace cc := cc.trans c'
  replace h := h.grow c'
  clear c'
  go_wp2_with fail
  refine (nil_all _).mono ?_
  rintro e w6 ⟨v, rfl, hown, c'⟩
  replace cc := cc.trans c'
  replace h := h.grow c'
  obtain ⟨oa, ocap, rfl⟩ := own_len hown
  clear c' hown
  have hi : inn (clamp a) (clamp a) a = false := by simp only [inn, decide_eq_false_iff_not]; omega
  go_wp2_with fail
  refine (tb_touch h a (c := false) (T := no) (by unfold isnew; rw [hi]; rfl) (by unfold tset; rw [hi]; rfl)).mono ?_
  rintro e w7 ⟨rfl, h7, c'⟩
  replace cc := cc.new HG.out c'
  clear h c'
  go_wp2_with fail
  refine (tb_all h7 (HT.out.chg cc id) (l := []) (by rw [show nc (clamp a) (clamp a) = 0 by unfold nc; omega]; rfl)).mono ?_
  rintro e w8 ⟨v, rfl, hown, c'⟩
  replace cc := cc.trans c'
  obtain ⟨oa, ocap, rfl⟩ := own_len hown
  clear c' hown h7
  go_wp2
  go_ret
  exact ⟨rfl, cc.below (fun _ _ h => h) (Nat.le_refl _)⟩

theorem own : ownKnob Tryd.prog.godebug = none := by kernel_rfl
theorem laidOut : laidOutB Tryd.prog = true := by kernel_rfl
theorem door_met (os : Os) (args : Array Value) : laidMetH Tryd.prog Rows.cardNilRow.laid ((World.doorLaid Tryd.prog 400 os).forCall (fun _ _ => 0) ⟨#[], args, []⟩).memory :=
  laidMetH_of_parts3 (fuel := 8) (laidMet_of_run' 8 (by kernel_rfl) (by kernel_rfl)) (by kernel_rfl) (by kernel_rfl)

set_option maxRecDepth 100000 in
theorem lifted (os : Os) (started : os.Started) (H : Type) (enc : TypeId × Value → H) :
    ReturnsInHanded {} Tryd.checked os 6 .any (fun w args => (Rows.cardNilSpec.pre enc Tryd.prog Tryd.f6 [] false w args ∧ laidMetH Tryd.prog Rows.cardNilRow.laid w) ∧ sizedMet enc Tryd.prog Tryd.f6 (OpenSpec.ofChange Rows.cardNilSpec) false w args) (Rows.cardNilSpec.post enc Tryd.prog Tryd.f6 false true false false) := by
  refine returnsInHanded_of_change_and (C := Tryd.checked) (X := fun w _ => laidMetH Tryd.prog Rows.cardNilRow.laid w) (fun _ _ _ hh h => h.of_heap hh) own started (by kernel_rfl) Tryd.func6
    (ChangeSpec.witness_shaped (enc := enc) (C := Tryd.checked) (os := os) (X := fun w _ => laidMetH Tryd.prog Rows.cardNilRow.laid w) false (World.doorLaid Tryd.prog 400 os) #[.int .i64 0] 8 rfl (World.shaped_of_RefB (by kernel_rfl) (by kernel_rfl)) (by kernel_rfl) (by kernel_rfl) (by kernel_rfl) (door_met os _)) ?_
  intro W base args ds gs before hval0 hW _ _ hL _
  have hval : ∀ (j : Nat) t v, Tryd.f6.params[j]? = some t → args[j]? = some v → Value.okWide Tryd.prog W .any base t v := hval0
  have hW' := hW
  obtain ⟨p, q, hA0, hV, rfl, hfz, hnd⟩ := hW
  have hA : DataW.TrodAll enc Tryd.prog W 0 (fun _ => true) true Tryd.f6.params.toList args.toList ds p := hA0
  rw [Tryd.params6] at hA hval
  obtain ⟨v0, vs0, d0, ds0, p0, q0, hargs, rfl, rfl, h0, r0⟩ := trodAll_cons hA
  obtain ⟨rfl, rfl, rfl⟩ := trodAll_nil r0
  obtain rfl : args = #[v0] := by cases args; simp_all
  obtain ⟨rfl, rfl⟩ := trodVars_none hV
  obtain ⟨a0, rfl, rfl, rfl, w0⟩ := open_int Tryd.underlying3 (hval 0 3 v0 rfl rfl) h0
  clear hA0 hval0
  refine (walk a0 W (tab_of_laid hL) w0).mono fun e W' ⟨he, bel⟩ => ?_
  subst he
  exact ⟨_, rfl, _, _, _, [], _, [], hW', trodAll_mk1 (shut_bool Tryd.underlying4 _), (trodAll_cons_mk (shut_int Tryd.underlying3 w0) trodAll_mk0), rfl, bel.frame _, fun h => by cases h⟩

theorem over : Rows.cardNilRow.holds Tryd.pinned (OpenSpec.ofChange Rows.cardNilSpec) :=
  OpenClaim.holds_of_wide 6 Tryd.f6 rfl rfl rfl rfl rfl rfl rfl ⟨rfl, rfl, rfl, rfl, rfl⟩ rfl rfl rfl rfl rfl (by kernel_rfl) Tryd.func6 (by kernel_rfl)
    (of_decide_eq_true (by kernel_rfl)) (by unfold Func.isWrapper; first | (rw [if_pos (by decide +kernel)]; kernel_rfl) | (rw [if_neg (by decide +kernel)]; exact ⟨rfl, rfl⟩))
    (fun os started H enc _ => lifted os started H enc)

/-- The statement. -/
theorem proved : Rows.CardNilCardSaid :=
  Claim7.holds_tied_plain_at .later [] [.data] true Rows.cardNilCard.stood.harness false
    over (fun _ h => by cases h) (by kernel_rfl) (fun _ h => by cases h) cardNil_row_tie rfl ⟨rfl, rfl⟩ (by kernel_rfl) rfl
    (fun f fn hf hfn => by
      obtain rfl : f = 6 := Option.some.inj ((show Tryd.prog.funcNamed "gleaning/gleaninglaw07.CardNil" = some 6 by kernel_rfl).symm.trans hf) |>.symm
      obtain rfl : fn = Tryd.f6 := (Option.some.inj (Tryd.func6.symm.trans hfn)).symm
      exact ⟨by kernel_rfl, fun j t ht => by
        rw [Tryd.params6] at ht
        have hm : t ∈ [3] := by simpa using Array.mem_of_getElem? ht
        have hall : ([3].all fun u => !Tryd.prog.wantsStandIn u) = true := by kernel_rfl
        exact (show Tryd.prog.wantsStandIn t = false by simpa using List.all_eq_true.1 hall t hm)⟩)
    (by kernel_rfl)
#print axioms proved
end Go.Proofs.YtbigdgabjjpffaaDoor.cardNil


/- For every call o MemNil answers true: a nil arena, and the zero one, have no words. Conditions: none. -/
import Derived.Test.YtaoppfmceijhfaaMem2
import Derived.Test.YtaoppfmceijhfaaOpen
import Derived.ShutString
namespace Go.Proofs.Ytaoppfmceijhfaa.memNil
open Go.ChangeShapes Go.WideShapes Go.ChangeAt Go.RowKit Go.Deep
set_option linter.unusedVariables false

set_option maxHeartbeats 400000 in
theorem words_nil (w : World) :
    Calls Try.prog 20 #[.pointer none, .int .i64 0, .int .i64 0] w fun e w' => e = .returned (.tuple #[.slice (some ⟨w.heap.size, 0, none⟩) 0 0, .int .i64 0]) ∧ Chg (fun _ => False) w w' := by
  have hx : exB 0 0 0 = true := by decide
  have hm := mk_ints 0 (by omega) (by omega)
  have hcp := copy_none
  have hs : ∀ W : World, Sl W (.pointer none) none 0 := fun W => .inl ⟨rfl, rfl, rfl⟩
  have HS := hide hs
  clear hs
  go_enter Try.func20, Try.ntmps20
  go_wp2_with fail
  refine (exists_any _ _ 0 _ _ _ (HS.out _) (by omega) (by omega) (by omega)).mono ?_
  rintro e w' ⟨rfl, rfl⟩
  go_wp2_with fail
  refine (all_any _ none 0 _ (HS.out _)).mono ?_
  rintro e w' ⟨rfl, rfl⟩
  go_wp2
  go_ret2
  exact ⟨rfl, (Chg.refl _ _).alloc _⟩

theorem fill_nil (w : World) :
    Calls Try.prog 17 #[.pointer none, .int .i64 0, .int .i64 0, .int .i64 1] w fun e w' => e = .returned (.int .i64 0) ∧ w = w' := by
  have hx : exB 0 0 0 = true := by decide
  have hs : ∀ W : World, Sl W (.pointer none) none 0 := fun W => .inl ⟨rfl, rfl, rfl⟩
  have HS := hide hs
  clear hs
  go_enter Try.func17, Try.ntmps17
  go_wp2_with fail
  refine (exists_any _ _ 0 _ _ _ (HS.out _) (by omega) (by omega) (by omega)).mono ?_
  rintro e w' ⟨rfl, rfl⟩
  go_wp2_with fail
  refine (all_any _ none 0 _ (HS.out _)).mono ?_
  rintro e w' ⟨rfl, rfl⟩
  go_wp2
  refine wp_loop_rounds 1 ?_
  rw [rounds_succ]
  go_wp2
  go_ret
  exact ⟨rfl, rfl⟩

theorem ex0 (i : Int) : exB 0 i 1 = false := by simp [exB]; omega

set_option maxHeartbeats 1000000 in
set_option maxRecDepth 100000 in
theorem walk (cs : List Value) (w : World) (w0 : fits [some .i64, some .i64, some .i64, some .i64, some .i64] cs) :
    Calls Try.prog 6 #[.agg cs.toArray] w fun e w' => e = .returned (.bool true) ∧ Below w.heap.size w w' := by
  obtain ⟨k, cs, rfl, hk, w0⟩ := fits_int w0
  obtain ⟨a, cs, rfl, ha, w0⟩ := fits_int w0
  obtain ⟨b, cs, rfl, hb, w0⟩ := fits_int w0
  obtain ⟨n, cs, rfl, hn, w0⟩ := fits_int w0
  obtain ⟨v, cs, rfl, hv, w0⟩ := fits_int w0
  obtain rfl := fits_nil w0
  have ha' := bounds_i64 ha
  obtain ⟨ha1, ha2⟩ := ha'
  clear hk ha hb hn hv
  have hs : ∀ W : World, Sl W (.pointer none) none 0 := fun W => .inl ⟨rfl, rfl, rfl⟩
  have HS := hide hs
  clear hs
  have hbk := Blk.new w 33 [.int .i64 k, .int .i64 a, .int .i64 b, .int .i64 n, .int .i64 v]
  have cb : Chg (fun _ => False) w (w.alloc (.cells [.int .i64 k, .int .i64 a, .int .i64 b, .int .i64 n, .int .i64 v].toArray 33)) := (Chg.refl _ _).alloc _
  go_enter Try.func6, Try.ntmps6
  go_wp2_with fail
  refine (awake_any _).mono ?_
  rintro e wa ⟨rfl, ca⟩
  have cc := cb.trans ca
  have hbk1 := hbk.chg ca id
  clear hbk cb ca
  generalize w.heap.size = s at *
  have hz := Blk.new wa 49 [.slice none 0 0]
  have hcA : wa.cell? ⟨s, 1, none⟩ = some (.int .i64 a) := hbk1.cell 1
  have hsl := hbk1.lt
  go_wp2_with fail
  have cz : Chg (fun _ => False) wa (wa.alloc (.cells #[.slice none 0 0] 49)) := (Chg.refl _ _).alloc _
  have hbk2 := hbk1.chg cz id
  have cc2 := cc.trans cz
  clear hcA hbk1 cc cz
  generalize wa.alloc (.cells #[.slice none 0 0] 49) = wz at *
  generalize wa.heap.size = z at *
  refine (load_no _ none 0 _ _ (HS.out _) (by omega) ha2 (ex0 a)).mono ?_
  rintro e w' ⟨rfl, rfl⟩
  have hcA : wz.cell? ⟨s, 1, none⟩ = some (.int .i64 a) := hbk2.cell 1
  have hslz : Sl wz (.pointer (some ⟨z, 0, none⟩)) none 0 := .inr ⟨z, rfl, hz.cell 0⟩
  have HZ := hide hslz
  clear hslz
  go_wp2_with fail
  refine (words_no _ none 0 _ _ _ HZ.out (by omega) ha2 (by omega) (ex0 a)).mono ?_
  rintro e w' ⟨rfl, rfl⟩
  clear hcA
  go_wp2_with fail
  refine (words_nil _).mono ?_
  rintro e w3 ⟨rfl, c3⟩
  have hbk3 := hbk2.chg c3 id
  have hz3 := hz.chg c3 id
  have cc3 := cc2.trans c3
  have hslz : Sl w3 (.pointer (some ⟨z, 0, none⟩)) none 0 := .inr ⟨z, rfl, hz3.cell 0⟩
  have HZ3 := hide hslz
  clear hslz HZ hz hz3 hbk2 cc2 c3
  have hcA : w3.cell? ⟨s, 1, none⟩ = some (.int .i64 a) := hbk3.cell 1
  have hcV : w3.cell? ⟨s, 4, none⟩ = some (.int .i64 v) := hbk3.cell 4
  go_wp2_with fail
  refine (len_any _ none 0 _ (HS.out _)).mono ?_
  rintro e w' ⟨rfl, rfl⟩
  go_wp2_with fail
  refine (len_any _ none 0 _ HZ3.out).mono ?_
  rintro e w' ⟨rfl, rfl⟩
  go_wp2_with fail
  refine (store_no _ none 0 _ _ _ (HS.out _) (by omega) ha2 (ex0 a)).mono ?_
  rintro e w' ⟨rfl, rfl⟩
  go_wp2_with fail
  refine (move_no1 _ none 0 _ _ _ _ (HS.out _) (by omega) (by omega) (by omega) (ex0 0)).mono ?_
  rintro e w' ⟨rfl, rfl⟩
  go_wp2_with fail
  refine (fill_no _ none 0 _ _ _ _ (HS.out _) (by omega) (by omega) (by omega) (ex0 0)).mono ?_
  rintro e w' ⟨rfl, rfl⟩
  go_wp2_with fail
  refine (store_no _ none 0 _ _ _ HZ3.out (by omega) (by omega) (ex0 0)).mono ?_
  rintro e w' ⟨rfl, rfl⟩
  go_wp2_with fail
  refine (fill_nil _).mono ?_
  rintro e w' ⟨rfl, rfl⟩
  go_wp2
  go_ret
  exact ⟨rfl, cc3.below (fun _ _ h => h) (Nat.le_refl _)⟩

theorem own : ownKnob Try.prog.godebug = none := by kernel_rfl
theorem laidOut : laidOutB Try.prog = true := by kernel_rfl

set_option maxRecDepth 100000 in
theorem lifted (os : Os) (started : os.Started) (H : Type) (enc : TypeId × Value → H) :
    ReturnsInHanded {} Try.checked os 6 .any (Rows.memNilSpec.pre6 enc Try.prog Try.f6 Rows.memNilRow.domain false) (Rows.memNilSpec.post enc Try.prog Try.f6 false true false false) := by
  refine returnsInHanded_of_change (C := Try.checked) own started (by kernel_rfl) Try.func6
    (ChangeSpec.witness6 (enc := enc) (C := Try.checked) false ⟨#[], #[.agg #[.int .i64 0, .int .i64 0, .int .i64 0, .int .i64 0, .int .i64 0]], []⟩ 8 (by kernel_rfl) (by kernel_rfl) (by kernel_rfl) (by kernel_rfl)) ?_
  intro W base args ds gs before hval0 hW hcnd _
  have hval : ∀ (j : Nat) t v, Try.f6.params[j]? = some t → args[j]? = some v → Value.okWide Try.prog W .any base t v := hval0
  have hW' := hW
  obtain ⟨p, q, hA0, hV, rfl, hfz, hnd⟩ := hW
  have hA : DataW.TrodAll enc Try.prog W 0 (fun _ => true) true Try.f6.params.toList args.toList ds p := hA0
  rw [Try.params6] at hA hval
  obtain ⟨v0, vs0, d0, ds0, p0, q0, hargs, rfl, rfl, h0, r0⟩ := trodAll_cons hA
  obtain ⟨rfl, rfl, rfl⟩ := trodAll_nil r0
  obtain rfl : args = #[v0] := by cases args; simp_all
  obtain ⟨rfl, rfl⟩ := trodVars_none hV
  have k0 := h0
  have lt0 : ∀ x ∈ p0, x.block < W.heap.size := by obtain ⟨m, hm⟩ := k0; exact DataW.trod_lt m _ _ _ hm
  obtain ⟨cs0, rfl, w0⟩ := open_rec [some .i64, some .i64, some .i64, some .i64, some .i64] Try.underlying33 (by kernel_rfl) (by kernel_rfl) (by kernel_rfl) (hval 0 33 v0 rfl rfl) h0
  clear hA0 hval0
  refine (walk cs0 W w0).mono fun e W' ⟨he, bel⟩ => ?_
  subst he
  exact ⟨_, rfl, _, _, _, [], _, [], hW', trodAll_mk1 (shut_bool Try.underlying4 _), (trodAll_cons_mk (Below.trod laidOut (by kernel_rfl) (of_decide_eq_true (by kernel_rfl)) k0 bel lt0) trodAll_mk0), rfl, bel.frame _, fun h => by cases h⟩

theorem over : Rows.memNilRow.holds Try.pinned (OpenSpec.ofChange Rows.memNilSpec) :=
  OpenClaim.holds_of_wide 6 Try.f6 rfl rfl rfl rfl rfl rfl rfl ⟨rfl, rfl, rfl, rfl, rfl⟩ rfl rfl rfl rfl rfl (by kernel_rfl) Try.func6 (by kernel_rfl)
    (of_decide_eq_true (by kernel_rfl)) (by unfold Func.isWrapper; first | (rw [if_pos (by decide +kernel)]; kernel_rfl) | (rw [if_neg (by decide +kernel)]; exact ⟨rfl, rfl⟩))
    (fun os started H enc _ => lifted os started H enc)

/-- The statement. -/
theorem proved : Rows.MemNilSaid := over
#print axioms proved
end Go.Proofs.Ytaoppfmceijhfaa.memNil


/- For all numbers ObjectGaps answers true: a gap of any size is walked over; what lies in it behind its first two words is as it was; it is no object. Conditions: none. -/
import Derived.Test.YtgknndbahdjghaaL6Awake
import Derived.LoopTactic
namespace Go.Proofs.Ytgknndbahdjghaa.objectGaps
open Go.ChangeShapes Go.WideShapes Go.ChangeAt Go.RowKit Go.Proofs.Ytgknndbahdjghaa.L6
open Go.Proofs.Ytgknndbahdjghaa.L4 (hdV)
open Go.Proofs.Ytgknndbahdjghaa.L5 (IsCls)
set_option linter.unusedVariables false

theorem cls_nil (w : World) : IsCls w none 0 0 [] := ⟨rfl, Nat.le_refl _, by simp [maxLen], fun h => absurd h (by omega), by simp⟩
set_option maxHeartbeats 2000000 in
set_option maxRecDepth 100000 in
theorem walk (sz word : Int) (w : World) (w0 : (Lit.int .u8 sz).wf = true) (w1 : (Lit.int .i64 word).wf = true) :
    Calls Try.prog 6 #[.int .u8 sz, .int .i64 word] w fun e w' => e = .returned (.bool true) ∧ Below w.heap.size w w' := by
  have hu : 0 ≤ sz ∧ sz ≤ 255 := bounds_u8 w0
  obtain ⟨N, hN⟩ : ∃ N : Nat, (1 + sz % 100 : Int) = N := ⟨(1 + sz % 100).toNat, by omega⟩
  have hNb : 1 ≤ N ∧ N ≤ 100 := by omega
  have e1 : IntKind.i64.wrap sz = sz := IntWalk.i64_in _ (by omega)
  have e2 : IntKind.i64.wrap (1 + sz % 100) = N := by rw [hN]; exact IntWalk.i64_in _ (by omega)
  have HN := hide hN
  clear w0 w1 hN
  go_enter Try.func6, Try.ntmps6
  go_wp2_with fail
  refine (awake_any _).mono ?_
  rintro e wa ⟨rfl, ca⟩
  go_wp2_with fail
  refine (L5.new_yes _ (cls_nil wa) (by decide) (by decide)).mono ?_
  rintro e w1 ⟨tg, v, rfl, ht, c1⟩
  replace ca := ca.trans c1
  clear c1
  go_wp2_with fail
  refine (L1.new_any 200 _).mono ?_
  rintro e w2 ⟨rfl, ha, c2⟩
  have HS := hide (st_new (xs := zeros 200) ht ha c2 (by rw [zeros_length]; omega) (by decide))
  have HG := hide (show w.heap.size ≤ w1.heap.size from ca.size)
  replace ca := ca.trans c2
  clear ha c2 ht
  generalize w1.heap.size + 1 = b at *
  generalize w1.heap.size = g at *
  go_wp2_with fail
  refine (on_any _ _ _).mono ?_
  rintro e w3 ⟨rfl, c3⟩
  replace HS := hide (HS.out.grow c3)
  replace ca := ca.trans c3
  clear c3
  have ngs : ¬ w3.heap.size = g := by have := HS.out.lt; omega
  have hs := Blk.new w3 28 [.pointer (some ⟨b, 0, none⟩), .pointer (some ⟨tg, 0, none⟩)]
  replace ca := ca.alloc (.cells [.pointer (some ⟨b, 0, none⟩), .pointer (some ⟨tg, 0, none⟩)].toArray 28)
  replace HS := hide (HS.out.grow (Grow.box w3 (.cells [.pointer (some ⟨b, 0, none⟩), .pointer (some ⟨tg, 0, none⟩)].toArray 28)))
  obtain ⟨s0, s1⟩ := hs.cell2
  go_wp2_with fail
  refine (fill_is (a := 0) (m := 200) HS.out rfl rfl (by rw [zeros_length]; omega)).mono ?_
  rintro e w4 ⟨rfl, hs', c'⟩
  have HS := hide hs'
  replace hs := hs.chg c' ngs
  replace ca := L6.chg_new ca c' HG.out
  clear hs' c' s0 s1
  obtain ⟨s0, s1⟩ := hs.cell2
  obtain ⟨xs1, hx1⟩ : ∃ xs1, L1.fillTo (zeros 200) 0 word 200 = xs1 := ⟨_, rfl⟩
  rw [hx1] at HS
  have hl1 : xs1.length = 200 := by rw [← hx1, L1.fillTo_length]; exact zeros_length _
  have HX1 := hide (show ∀ i, i < 200 → xs1.getD i 0 = word from fun i hi => by rw [← hx1, fill_get _ _ _ _ _ (by rw [zeros_length]; omega), if_pos (by omega)])
  clear hx1
  go_wp2_with fail
  refine (gap_ok (a := 5) HS.out (by omega) hNb.1 (by omega)).mono ?_
  rintro e w5 ⟨rfl, hs', c'⟩
  have HS := hide hs'
  replace hs := hs.chg c' ngs
  replace ca := L6.chg_new ca c' HG.out
  clear hs' c' s0 s1
  obtain ⟨s0, s1⟩ := hs.cell2
  obtain ⟨xs, hx⟩ : ∃ xs, gapL xs1 5 N = xs := ⟨_, rfl⟩
  rw [hx] at HS
  have hl : xs.length = 200 := by rw [← hx, gapL_length]; exact hl1
  have HGP := hide (show IsGap xs 5 N by rw [← hx]; exact gapL_gap (by omega) hNb.1 (by omega))
  have HXS := hide (show ∀ i : Nat, i < 200 → (i < 5 ∨ 6 < i ∨ 5 + N ≤ i) → xs.getD i 0 = word from fun i hi h => by
    rw [← hx, gapL_get _ _ _ _ hNb.1 (by omega), if_neg (by omega), if_neg (by omega)]
    exact HX1.out i hi)
  clear hx HX1 hl1
  go_wp2_with fail
  refine (size_is (i := 5) HS.out (by decide) HGP.out.fd.1 (b := false) (by have := (HGP.out.fd (cs := [])).2.1; simpa using this) HGP.out.fd.2.2).mono ?_
  rintro e w6 ⟨rfl, c'⟩
  replace HS := hide (HS.out.grow c')
  replace hs := hs.chg c' id
  replace ca := ca.trans c'
  clear c' s0 s1
  obtain ⟨s0, s1⟩ := hs.cell2
  go_wp2_with fail
  refine (oshape_is (i := 5) (R := 0) (D := 0) HS.out (by decide) (by have := (HGP.out.ob (cs := [])).1; exact congrArg Th.r this) (by have := (HGP.out.ob (cs := [])).1; exact congrArg Th.n this) HGP.out.ob.2).mono ?_
  rintro e w7 ⟨rfl, c'⟩
  replace HS := hide (HS.out.grow c')
  replace hs := hs.chg c' id
  replace ca := ca.trans c'
  clear c' s0 s1
  obtain ⟨s0, s1⟩ := hs.cell2
  go_wp2_with fail
  have hwk : Wk xs [] (5 + (N : Int)) 5 [] 0 := by
    obtain ⟨g1, g2, g3⟩ := HGP.out.fd (cs := [])
    refine .gap 5 [] 0 (by omega) g3 (by rw [show (fdT xs [] 5).w = N from g1]; omega) g2 (.done _ (by rw [show (fdT xs [] 5).w = N from g1]; omega))
  refine (walk_ok HS.out (by decide) (by omega) hwk).mono ?_
  rintro e w8 ⟨la, lc, rfl, -, c8⟩
  replace HS := hide (HS.out.grow c8)
  replace ca := ca.trans c8
  have HC := hide ca
  clear c8 s0 s1 hs hwk ca HGP HG ngs
  go_wp2
  go_loopw [64] (fun i wr => ∃ k : Nat, k ≤ 200 ∧ i = .int .i64 k ∧ wr = w8) (fun i _ => 200 - (intOf i).toNat)
  case atStart => exact ⟨0, Nat.zero_le _, rfl, rfl⟩
  case round =>
    obtain ⟨k, hk, rfl, rfl⟩ := hrel
    by_cases hlt : k < 200
    · have eL : ldB xs k = true := by simp [ldB]; omega
      obtain ⟨V, hV⟩ : ∃ V, xs.getD k 0 = V := ⟨_, rfl⟩
      have HL := hide (show ldV xs k = V ∧ ldX xs k = 0 by simp [ldV, ldX, eL, gw]; rw [← hV]; simp [List.getD_eq_getElem?_getD])
      have HXV := hide (show (k < 5 ∨ 6 < k ∨ 5 + N ≤ k) → V = word from fun h => by rw [← hV]; exact HXS.out k hlt h)
      have hq : (word != word) = false := by simp
      clear eL hV
      go_wp2_with fail
      refine (load_is HS.out.ar HS.out.n (by omega) HL.out.1 HL.out.2).mono ?_
      rintro e w' ⟨rfl, rfl⟩
      by_cases hc : k < 5 ∨ 6 < k ∨ 5 + N ≤ k
      · obtain rfl := HXV.out hc
        clear hc
        go_wp2
        all_goals
          go_roundw
          case rel => exact ⟨k + 1, by omega, by go_num, trivial⟩
          case measure => simp [intOf]; omega
      · have q1 : decide ((k : Int) < 5) = false := by simp; omega
        have q2 : decide ((k : Int) > 6) = false := by simp; omega
        have q3 : decide ((k : Int) ≥ 5 + (N : Int)) = false := by simp; omega
        clear hc
        go_wp2
        go_roundw
        case rel => exact ⟨k + 1, by omega, by go_num, trivial⟩
        case measure => simp [intOf]; omega
    · have q4 : decide ((k : Int) < 200) = false := by simp; omega
      clear hk hlt
      go_wp2
      go_ret
      exact ⟨rfl, HC.out.below (fun _ _ h => h) (Nat.le_refl _)⟩


theorem own : ownKnob Try.prog.godebug = none := by kernel_rfl
theorem laidOut : laidOutB Try.prog = true := by kernel_rfl

set_option maxRecDepth 100000 in
theorem lifted (os : Os) (started : os.Started) (H : Type) (enc : TypeId × Value → H) :
    ReturnsInHanded {} Try.checked os 6 .any (Rows.objectGapsSpec.pre6 enc Try.prog Try.f6 Rows.objectGapsRow.domain false) (Rows.objectGapsSpec.post enc Try.prog Try.f6 false true false false) := by
  refine returnsInHanded_of_change (C := Try.checked) own started (by kernel_rfl) Try.func6
    (ChangeSpec.witness6 (enc := enc) (C := Try.checked) false ⟨#[], #[.int .u8 0, .int .i64 0], []⟩ 8 (by kernel_rfl) (by kernel_rfl) (by kernel_rfl) (by kernel_rfl)) ?_
  intro W base args ds gs before hval0 hW hcnd _
  have hval : ∀ (j : Nat) t v, Try.f6.params[j]? = some t → args[j]? = some v → Value.okWide Try.prog W .any base t v := hval0
  have hW' := hW
  obtain ⟨p, q, hA0, hV, rfl, hfz, hnd⟩ := hW
  have hA : DataW.TrodAll enc Try.prog W 0 (fun _ => true) true Try.f6.params.toList args.toList ds p := hA0
  rw [Try.params6] at hA hval
  obtain ⟨v0, vs0, d0, ds0, p0, q0, hargs, rfl, rfl, h0, r0⟩ := trodAll_cons hA
  obtain ⟨v1, vs1, d1, ds1, p1, q1, rfl, rfl, rfl, h1, r1⟩ := trodAll_cons r0
  obtain ⟨rfl, rfl, rfl⟩ := trodAll_nil r1
  obtain rfl : args = #[v0, v1] := by cases args; simp_all
  obtain ⟨rfl, rfl⟩ := trodVars_none hV
  obtain ⟨a0, rfl, rfl, rfl, w0⟩ := open_int Try.underlying5 (hval 0 5 v0 rfl rfl) h0
  obtain ⟨a1, rfl, rfl, rfl, w1⟩ := open_int Try.underlying3 (hval 1 3 v1 rfl rfl) h1
  clear hA0 hval0
  refine (walk a0 a1 W w0 w1).mono fun e W' ⟨he, bel⟩ => ?_
  subst he
  exact ⟨_, rfl, _, _, _, [], _, [], hW', trodAll_mk1 (shut_bool Try.underlying4 _), (trodAll_cons_mk (shut_int Try.underlying5 w0) (trodAll_cons_mk (shut_int Try.underlying3 w1) trodAll_mk0)), rfl, bel.frame _, fun h => by cases h⟩

theorem over : Rows.objectGapsRow.holds Try.pinned (OpenSpec.ofChange Rows.objectGapsSpec) :=
  OpenClaim.holds_of_wide 6 Try.f6 rfl rfl rfl rfl rfl rfl rfl ⟨rfl, rfl, rfl, rfl, rfl⟩ rfl rfl rfl rfl rfl (by kernel_rfl) Try.func6 (by kernel_rfl)
    (of_decide_eq_true (by kernel_rfl)) (by unfold Func.isWrapper; first | (rw [if_pos (by decide +kernel)]; kernel_rfl) | (rw [if_neg (by decide +kernel)]; exact ⟨rfl, rfl⟩))
    (fun os started H enc _ => lifted os started H enc)

/-- The statement. -/
theorem proved : Rows.ObjectGapsSaid := over
#print axioms proved
end Go.Proofs.Ytgknndbahdjghaa.objectGaps


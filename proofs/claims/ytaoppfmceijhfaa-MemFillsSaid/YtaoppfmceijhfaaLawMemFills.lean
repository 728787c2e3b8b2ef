/- For all sizes, places and words MemFills answers true: a stretch that is filled is that, and nothing else is. Conditions: none. -/
import Derived.Test.YtaoppfmceijhfaaMem2
import Derived.ShutString
namespace Go.Proofs.Ytaoppfmceijhfaa.memFills
open Go.ChangeShapes Go.WideShapes Go.ChangeAt Go.RowKit
set_option linter.unusedVariables false

theorem fillTo_get (xs : List Int) (a : Nat) (v : Int) (k : Nat) (h : a + k ≤ xs.length) (i : Nat) : (fillTo xs a v k).getD i 0 = if a ≤ i ∧ i < a + k then v else xs.getD i 0 := by
  induction k with
  | zero => simp only [fillTo]; rw [if_neg (by omega)]
  | succ k ih =>
    have ih' := ih (by omega)
    simp only [fillTo, List.getD_eq_getElem?_getD, List.getElem?_set] at ih' ⊢
    rw [fillTo_length]
    by_cases e : a + k = i
    · subst e
      rw [if_pos rfl, if_pos (by omega), if_pos (by omega)]; rfl
    · rw [if_neg e, ih']
      by_cases h1 : a ≤ i ∧ i < a + k
      · rw [if_pos h1, if_pos (by omega)]
      · rw [if_neg h1, if_neg (by omega)]

/-- What stands at a place behind both ways to fill. -/
def want (A M : Nat) (v : Int) (i : Nat) : Int := if A ≤ i ∧ i < A + M then v else 0
theorem want_one (n A M : Nat) (v : Int) (h : A + M ≤ n) (i : Nat) : (fillTo (zeros n) A v M).getD i 0 = want A M v i := by
  rw [fillTo_get _ _ _ _ (by rw [zeros_length]; omega), zeros_get]; rfl
theorem want_two (n A M K : Nat) (v : Int) (h : A + M ≤ n) (hk : K ≤ M) (i : Nat) : (fillTo (fillTo (zeros n) A v K) (A + K) v (M - K)).getD i 0 = want A M v i := by
  rw [fillTo_get _ _ _ _ (by rw [fillTo_length, zeros_length]; omega), fillTo_get _ _ _ _ (by rw [zeros_length]; omega), zeros_get]
  unfold want
  by_cases h1 : A ≤ i ∧ i < A + M
  · rw [if_pos h1]
    by_cases h2 : A + K ≤ i
    · rw [if_pos (by omega)]
    · rw [if_neg (by omega), if_pos (by omega)]
  · rw [if_neg h1, if_neg (by omega), if_neg (by omega)]

set_option maxHeartbeats 1000000 in
set_option maxRecDepth 100000 in
theorem walk_there (n A M c : Nat) (v : Int) (w : World) (hn : n ≤ 255) (hc : c ≤ 255) (h : A + M ≤ n) :
    Calls Try.prog 7 #[.int .u8 n, .int .i64 A, .int .i64 M, .int .i64 v, .int .u8 c] w fun e w' => e = .returned (.bool true) ∧ Below w.heap.size w w' := by
  have hcl : clamp n = n := by unfold clamp; omega
  have HCL := hide hcl
  clear hcl
  obtain ⟨K, hK, hKM⟩ : ∃ K : Nat, (c : Int) % ((M : Int) + 1) = K ∧ K ≤ M := ⟨c % (M + 1), by simp, by have := Nat.mod_lt c (show 0 < M + 1 by omega); omega⟩
  have HK := hide hK
  clear hK
  have hd1 : decide ((M : Int) ≤ n - A) = true := by simp; omega
  have hd2 : A ≤ n := by omega
  go_enter Try.func7, Try.ntmps7
  go_wp2_with fail
  refine (awake_any _).mono ?_
  rintro e wa ⟨rfl, ca⟩
  go_wp2_with fail
  refine (new_any _ _).mono ?_
  rintro e w1 ⟨rfl, h1, c1⟩
  rw [HCL.out] at h1
  have hga : w.heap.size ≤ wa.heap.size := ca.size
  obtain ⟨p, hp⟩ : ∃ p, p = wa.heap.size + 1 := ⟨_, rfl⟩
  obtain ⟨g, hg⟩ : ∃ g, g = wa.heap.size := ⟨_, rfl⟩
  rw [← hp, ← hg] at h1
  rw [← hp]
  have hwg : w.heap.size ≤ g := by omega
  have hgp : g < p := by omega
  clear hp hg
  go_wp2_with fail
  refine (new_any _ _).mono ?_
  rintro e w2 ⟨rfl, h2, c2⟩
  rw [HCL.out] at h2
  have hpw : p < w1.heap.size := h1.1.lt
  obtain ⟨q, hq⟩ : ∃ q, q = w1.heap.size + 1 := ⟨_, rfl⟩
  obtain ⟨f, hf⟩ : ∃ f, f = w1.heap.size := ⟨_, rfl⟩
  rw [← hq, ← hf] at h2
  rw [← hq]
  have hpf : p < f := by omega
  have hfq : f < q := by omega
  clear hq hf hpw
  have h1' := h1.chg c2 id id
  have cc := (ca.trans c1).trans c2
  clear ca c1 c2 h1
  go_wp2_with fail
  refine (fill_ok p g _ A M v _ h1' (by rw [zeros_length]; omega) (by rw [zeros_length]; omega)).mono ?_
  rintro e w3 ⟨rfl, h3, c3⟩
  have h4 := h2.chg c3 (by omega) (by omega)
  have cc3 := (cc.mono (S := fun i => w.heap.size ≤ i) (fun _ _ h => h.elim)).step c3 (fun i hi e => by omega)
  clear c3 cc h2 h1'
  go_wp2_with fail
  rw [HK.out]
  refine (fill_ok q f _ A K v _ h4 (by rw [zeros_length]; omega) (by rw [zeros_length]; omega)).mono ?_
  rintro e w4 ⟨rfl, h5, c4⟩
  have h3' := h3.chg c4 (by omega) (by omega)
  have cc4 := cc3.step c4 (fun i hi e => by omega)
  clear c4 cc3 h3 h4
  go_wp2_with fail
  have e1 : ((A : Int) + K) = ((A + K : Nat) : Int) := by omega
  have e2 : ((M : Int) - K) = ((M - K : Nat) : Int) := by omega
  rw [e1, e2]
  clear e1 e2
  refine (fill_ok q f _ (A + K) (M - K) v _ h5 (by rw [fillTo_length, zeros_length]; omega) (by rw [fillTo_length, zeros_length]; omega)).mono ?_
  rintro e w5 ⟨rfl, h6, c5⟩
  have h7 := h3'.chg c5 (by omega) (by omega)
  have cc5 := cc4.step c5 (fun i hi e => by omega)
  clear c5 cc4 h3' h5
  go_wp2
  go_loop [83] (fun i => ∃ k : Nat, k ≤ n ∧ i = .int .i64 k) (fun i => n - (intOf i).toNat)
  case atStart => exact ⟨0, Nat.zero_le _, rfl⟩
  case round =>
    obtain ⟨k, hk, rfl⟩ := hrel
    by_cases hlt : k < n
    · obtain ⟨y, hy⟩ : ∃ y, y = want A M v k := ⟨_, rfl⟩
      have hl1 := load_ok p g _ k w5 h7 (by rw [fillTo_length, zeros_length]; omega) (by rw [fillTo_length, zeros_length]; omega)
      rw [want_one n A M v h k, ← hy] at hl1
      have hl2 := load_ok q f _ k w5 h6 (by rw [fillTo_length, fillTo_length, zeros_length]; omega) (by rw [fillTo_length, fillTo_length, zeros_length]; omega)
      rw [want_two n A M K v h hKM k, ← hy] at hl2
      have HL1 := hide hl1
      have HL2 := hide hl2
      clear hl1 hl2
      unfold want at hy
      by_cases hin : A ≤ k ∧ k < A + M
      · rw [if_pos hin] at hy
        subst hy
        obtain ⟨i1, i2⟩ := hin
        go_wp2_with fail
        refine HL1.out.mono ?_
        rintro e w' ⟨rfl, rfl⟩
        go_wp2_with fail
        refine HL2.out.mono ?_
        rintro e w' ⟨rfl, rfl⟩
        go_wp2
        go_round
        case rel => exact ⟨k + 1, by omega, by go_num⟩
        case measure => simp [intOf]; omega
      · rw [if_neg hin] at hy
        subst hy
        by_cases i1 : A ≤ k
        · have i2 : A + M ≤ k := by omega
          clear hin
          go_wp2_with fail
          refine HL1.out.mono ?_
          rintro e w' ⟨rfl, rfl⟩
          go_wp2_with fail
          refine HL2.out.mono ?_
          rintro e w' ⟨rfl, rfl⟩
          go_wp2
          go_round
          case rel => exact ⟨k + 1, by omega, by go_num⟩
          case measure => simp [intOf]; omega
        · have i2 : k < A := by omega
          clear hin
          go_wp2_with fail
          refine HL1.out.mono ?_
          rintro e w' ⟨rfl, rfl⟩
          go_wp2_with fail
          refine HL2.out.mono ?_
          rintro e w' ⟨rfl, rfl⟩
          go_wp2
          go_round
          case rel => exact ⟨k + 1, by omega, by go_num⟩
          case measure => simp [intOf]; omega
    · go_wp2
      go_ret
      exact ⟨rfl, cc5.below (fun i hi => by omega) (Nat.le_refl _)⟩

set_option maxHeartbeats 2000000 in
set_option maxRecDepth 100000 in
theorem walk_not (n c : Nat) (A M v : Int) (w : World) (hn : n ≤ 255) (hc : c ≤ 255) (hA : A ≤ 9223372036854775807) (hM : M ≤ 9223372036854775807)
    (h : decide (0 ≤ A) = false ∨ 0 ≤ A ∧ decide (0 ≤ M) = false ∨ (0 ≤ A ∧ 0 ≤ M) ∧ decide (A ≤ n) = false ∨ (0 ≤ A ∧ 0 ≤ M ∧ A ≤ n) ∧ decide (M ≤ n - A) = false) :
    Calls Try.prog 7 #[.int .u8 n, .int .i64 A, .int .i64 M, .int .i64 v, .int .u8 c] w fun e w' => e = .returned (.bool true) ∧ Below w.heap.size w w' := by
  have hcl : clamp n = n := by unfold clamp; omega
  have HCL := hide hcl
  clear hcl
  have hx : exB n A M = false := by
    simp at h
    simp [exB]
    omega
  have HX := hide hx
  clear hx
  rcases h with h | ⟨h0, h⟩ | ⟨⟨h0, h1⟩, h⟩ | ⟨⟨h0, h1, h2⟩, h⟩
  all_goals
    go_enter Try.func7, Try.ntmps7
    go_wp2_with fail
    refine (awake_any _).mono ?_
    rintro e wa ⟨rfl, ca⟩
    go_wp2_with fail
    refine (new_any _ _).mono ?_
    rintro e w1 ⟨rfl, h1, c1⟩
    rw [HCL.out] at h1
    have hga : w.heap.size ≤ wa.heap.size := ca.size
    obtain ⟨p, hp⟩ : ∃ p, p = wa.heap.size + 1 := ⟨_, rfl⟩
    obtain ⟨g, hg⟩ : ∃ g, g = wa.heap.size := ⟨_, rfl⟩
    rw [← hp, ← hg] at h1
    rw [← hp]
    clear hp hg
    go_wp2_with fail
    refine (new_any _ _).mono ?_
    rintro e w2 ⟨rfl, h2, c2⟩
    rw [HCL.out] at h2
    obtain ⟨q, hq⟩ : ∃ q, q = w1.heap.size + 1 := ⟨_, rfl⟩
    obtain ⟨f, hf⟩ : ∃ f, f = w1.heap.size := ⟨_, rfl⟩
    rw [← hq, ← hf] at h2
    rw [← hq]
    clear hq hf
    have h1' := h1.chg c2 id id
    have cc := (ca.trans c1).trans c2
    clear ca c1 c2 h1
    go_wp2_with fail
    refine (fill_no _ _ n A M v _ (by have := h1'.sl; rwa [zeros_length] at this) (by omega) hA hM HX.out).mono ?_
    rintro e w3 ⟨rfl, rfl⟩
    go_wp2
    go_loop [83] (fun i => ∃ k : Nat, k ≤ n ∧ i = .int .i64 k) (fun i => n - (intOf i).toNat)
    case atStart => exact ⟨0, Nat.zero_le _, rfl⟩
    case round =>
      obtain ⟨k, hk, rfl⟩ := hrel
      by_cases hlt : k < n
      · have hl1 := load_ok p g _ k w2 h1' (by rw [zeros_length]; omega) (by rw [zeros_length]; omega)
        rw [zeros_get] at hl1
        have hl2 := load_ok q f _ k w2 h2 (by rw [zeros_length]; omega) (by rw [zeros_length]; omega)
        rw [zeros_get] at hl2
        have HL1 := hide hl1
        have HL2 := hide hl2
        clear hl1 hl2
        go_wp2_with fail
        refine HL1.out.mono ?_
        rintro e w' ⟨rfl, rfl⟩
        go_wp2_with fail
        refine HL2.out.mono ?_
        rintro e w' ⟨rfl, rfl⟩
        go_wp2
        go_round
        case rel => exact ⟨k + 1, by omega, by go_num⟩
        case measure => simp [intOf]; omega
      · go_wp2
        go_ret
        exact ⟨rfl, cc.below (fun _ _ h => h) (Nat.le_refl _)⟩

theorem walk (a0 a1 a2 a3 a4 : Int) (w : World) (w0 : (Lit.int .u8 a0).wf = true) (w1 : (Lit.int .i64 a1).wf = true) (w2 : (Lit.int .i64 a2).wf = true) (w3 : (Lit.int .i64 a3).wf = true) (w4 : (Lit.int .u8 a4).wf = true) :
    Calls Try.prog 7 #[.int .u8 a0, .int .i64 a1, .int .i64 a2, .int .i64 a3, .int .u8 a4] w fun e w' => e = .returned (.bool true) ∧ Below w.heap.size w w' := by
  have b0 := bounds_u8 w0
  have b1 := bounds_i64 w1
  have b2 := bounds_i64 w2
  have b4 := bounds_u8 w4
  obtain ⟨n, rfl⟩ := Int.eq_ofNat_of_zero_le b0.1
  obtain ⟨c, rfl⟩ := Int.eq_ofNat_of_zero_le b4.1
  by_cases h : (0 ≤ a1 ∧ 0 ≤ a2 ∧ a1 ≤ n) ∧ a2 ≤ n - a1
  · obtain ⟨A, rfl⟩ := Int.eq_ofNat_of_zero_le h.1.1
    obtain ⟨M, rfl⟩ := Int.eq_ofNat_of_zero_le h.1.2.1
    exact walk_there n A M c a3 w (by omega) (by omega) (by omega)
  · refine walk_not n c a1 a2 a3 w (by omega) (by omega) (by omega) (by omega) ?_
    simp only [decide_eq_false_iff_not]
    omega

theorem own : ownKnob Try.prog.godebug = none := by kernel_rfl
theorem laidOut : laidOutB Try.prog = true := by kernel_rfl

set_option maxRecDepth 100000 in
theorem lifted (os : Os) (started : os.Started) (H : Type) (enc : TypeId × Value → H) :
    ReturnsInHanded {} Try.checked os 7 .any (Rows.memFillsSpec.pre6 enc Try.prog Try.f7 Rows.memFillsRow.domain false) (Rows.memFillsSpec.post enc Try.prog Try.f7 false true false false) := by
  refine returnsInHanded_of_change (C := Try.checked) own started (by kernel_rfl) Try.func7
    (ChangeSpec.witness6 (enc := enc) (C := Try.checked) false ⟨#[], #[.int .u8 0, .int .i64 0, .int .i64 0, .int .i64 0, .int .u8 0], []⟩ 8 (by kernel_rfl) (by kernel_rfl) (by kernel_rfl) (by kernel_rfl)) ?_
  intro W base args ds gs before hval0 hW hcnd _
  have hval : ∀ (j : Nat) t v, Try.f7.params[j]? = some t → args[j]? = some v → Value.okWide Try.prog W .any base t v := hval0
  have hW' := hW
  obtain ⟨p, q, hA0, hV, rfl, hfz, hnd⟩ := hW
  have hA : DataW.TrodAll enc Try.prog W 0 (fun _ => true) true Try.f7.params.toList args.toList ds p := hA0
  rw [Try.params7] at hA hval
  obtain ⟨v0, vs0, d0, ds0, p0, q0, hargs, rfl, rfl, h0, r0⟩ := trodAll_cons hA
  obtain ⟨v1, vs1, d1, ds1, p1, q1, rfl, rfl, rfl, h1, r1⟩ := trodAll_cons r0
  obtain ⟨v2, vs2, d2, ds2, p2, q2, rfl, rfl, rfl, h2, r2⟩ := trodAll_cons r1
  obtain ⟨v3, vs3, d3, ds3, p3, q3, rfl, rfl, rfl, h3, r3⟩ := trodAll_cons r2
  obtain ⟨v4, vs4, d4, ds4, p4, q4, rfl, rfl, rfl, h4, r4⟩ := trodAll_cons r3
  obtain ⟨rfl, rfl, rfl⟩ := trodAll_nil r4
  obtain rfl : args = #[v0, v1, v2, v3, v4] := by cases args; simp_all
  obtain ⟨rfl, rfl⟩ := trodVars_none hV
  obtain ⟨a0, rfl, rfl, rfl, w0⟩ := open_int Try.underlying5 (hval 0 5 v0 rfl rfl) h0
  obtain ⟨a1, rfl, rfl, rfl, w1⟩ := open_int Try.underlying3 (hval 1 3 v1 rfl rfl) h1
  obtain ⟨a2, rfl, rfl, rfl, w2⟩ := open_int Try.underlying3 (hval 2 3 v2 rfl rfl) h2
  obtain ⟨a3, rfl, rfl, rfl, w3⟩ := open_int Try.underlying3 (hval 3 3 v3 rfl rfl) h3
  obtain ⟨a4, rfl, rfl, rfl, w4⟩ := open_int Try.underlying5 (hval 4 5 v4 rfl rfl) h4
  clear hA0 hval0
  refine (walk a0 a1 a2 a3 a4 W w0 w1 w2 w3 w4).mono fun e W' ⟨he, bel⟩ => ?_
  subst he
  exact ⟨_, rfl, _, _, _, [], _, [], hW', trodAll_mk1 (shut_bool Try.underlying4 _), (trodAll_cons_mk (shut_int Try.underlying5 w0) (trodAll_cons_mk (shut_int Try.underlying3 w1) (trodAll_cons_mk (shut_int Try.underlying3 w2) (trodAll_cons_mk (shut_int Try.underlying3 w3) (trodAll_cons_mk (shut_int Try.underlying5 w4) trodAll_mk0))))), rfl, bel.frame _, fun h => by cases h⟩

theorem over : Rows.memFillsRow.holds Try.pinned (OpenSpec.ofChange Rows.memFillsSpec) :=
  OpenClaim.holds_of_wide 7 Try.f7 rfl rfl rfl rfl rfl rfl rfl ⟨rfl, rfl, rfl, rfl, rfl⟩ rfl rfl rfl rfl rfl (by kernel_rfl) Try.func7 (by kernel_rfl)
    (of_decide_eq_true (by kernel_rfl)) (by unfold Func.isWrapper; first | (rw [if_pos (by decide +kernel)]; kernel_rfl) | (rw [if_neg (by decide +kernel)]; exact ⟨rfl, rfl⟩))
    (fun os started H enc _ => lifted os started H enc)

/-- The statement. -/
theorem proved : Rows.MemFillsSaid := over
#print axioms proved
end Go.Proofs.Ytaoppfmceijhfaa.memFills


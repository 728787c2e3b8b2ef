/- For all lists of numbers, places and counts MemMoves answers true: words that are moved are there as they were, all others stay. Conditions: none. -/
import Derived.Test.YtaoppfmceijhfaaMem2
import Derived.ShutString
namespace Go.Proofs.Ytaoppfmceijhfaa.memMoves
open Go.ChangeShapes Go.WideShapes Go.ChangeAt Go.RowKit
set_option linter.unusedVariables false

/-- The words when the first k are stored. -/
def stTo (zs : List Int) (n : Nat) : Nat → List Int
  | 0 => zeros n
  | k + 1 => (stTo zs n k).set k (zs.getD k 0)
theorem stTo_length (zs : List Int) (n k : Nat) : (stTo zs n k).length = n := by
  induction k with
  | zero => exact zeros_length n
  | succ k ih => simp [stTo, ih]
theorem stTo_get (zs : List Int) (n k : Nat) (hk : k ≤ n) (i : Nat) : (stTo zs n k).getD i 0 = if i < k then zs.getD i 0 else 0 := by
  induction k with
  | zero => simp only [stTo]; rw [if_neg (by omega), zeros_get]
  | succ k ih =>
    have ih' := ih (by omega)
    simp only [stTo, List.getD_eq_getElem?_getD, List.getElem?_set] at ih' ⊢
    rw [stTo_length]
    by_cases e : k = i
    · subst e
      rw [if_pos rfl, if_pos (by omega), if_pos (by omega)]; rfl
    · rw [if_neg e, ih']
      by_cases h1 : i < k
      · rw [if_pos h1, if_pos (by omega)]
      · rw [if_neg h1, if_neg (by omega)]
theorem ext_getD {xs ys : List Int} (h : xs.length = ys.length) (hg : ∀ i, i < xs.length → xs.getD i 0 = ys.getD i 0) : xs = ys := by
  apply List.ext_getElem h
  intro i h1 h2
  have := hg i h1
  simpa [List.getD_eq_getElem?_getD, h1, h2] using this
theorem stTo_all (zs : List Int) (n : Nat) (h : zs.length = n) : stTo zs n n = zs := by
  apply ext_getD (by rw [stTo_length, h])
  intro i hi
  rw [stTo_length] at hi
  rw [stTo_get _ _ _ (Nat.le_refl _), if_pos hi]
theorem splice_get (zs : List Int) (x y m : Nat) (hx : x + m ≤ zs.length) (hy : y + m ≤ zs.length) (i : Nat) :
    (splice zs x ((zs.drop y).take m)).getD i 0 = if x ≤ i ∧ i < x + m then zs.getD (y + i - x) 0 else zs.getD i 0 := by
  have hl := length_cut zs y m hy
  simp only [splice, List.getD_eq_getElem?_getD, List.getElem?_append, List.length_take, List.length_drop, List.getElem?_take, List.getElem?_drop]
  by_cases h1 : i < x
  · rw [if_pos (by omega), if_pos h1, if_neg (by omega)]
  · rw [if_neg (by omega)]
    by_cases h2 : i < x + m
    · rw [if_pos (by omega), if_pos (by omega), if_pos (by omega)]
      congr 2; omega
    · rw [if_neg (by omega), if_neg (by omega)]
      congr 2; omega

set_option maxHeartbeats 1000000 in
set_option maxRecDepth 100000 in
theorem walk_small (a0 : Option Addr) (len cap : Nat) (t f s : Int) (w : World) (h : len = 0 ∨ 200 < len) (hl : len ≤ 9223372036854775807) :
    Calls Try.prog 4 #[.slice a0 len cap, .int .u64 t, .int .u64 f, .int .u64 s] w fun e w' => e = .returned (.bool true) ∧ Below w.heap.size w w' := by
  rcases h with rfl | h
  all_goals
    go_enter Try.func4, Try.ntmps4
    go_wp2_with fail
    refine (awake_any _).mono ?_
    rintro e wa ⟨rfl, ca⟩
    go_wp2_with fail
    refine (awake_any _).mono ?_
    rintro e wb ⟨rfl, cb⟩
    go_wp2
    go_ret
    exact ⟨rfl, (ca.trans cb).below (fun _ _ h => h) (Nat.le_refl _)⟩

set_option maxHeartbeats 2000000 in
set_option maxRecDepth 100000 in
theorem walk_main (a0 : Option Addr) (n cap : Nat) (zs : List Int) (T F S : Nat) (w : World) (h0 : IsRow .i64 w a0 n cap zs) (hn1 : 0 < n) (hn2 : n ≤ 200)
    (hT : T ≤ 18446744073709551615) (hF : F ≤ 18446744073709551615) (hS : S ≤ 18446744073709551615) :
    Calls Try.prog 4 #[.slice a0 n cap, .int .u64 T, .int .u64 F, .int .u64 S] w fun e w' => e = .returned (.bool true) ∧ Below w.heap.size w w' := by
  have hcl : clamp n = n := by unfold clamp; omega
  have HCL := hide hcl
  clear hcl
  have H0 := hide h0
  clear h0
  have hnz : ((n : Int) == 0) = false := beq_eq_false_iff_ne.2 (by omega)
  have hn3 : decide ((200 : Int) < n) = false := by simp; omega
  go_enter Try.func4, Try.ntmps4
  go_wp2_with fail
  refine (awake_any _).mono ?_
  rintro e wa ⟨rfl, ca⟩
  go_wp2_with fail
  refine (new_any _ _).mono ?_
  rintro e w1 ⟨rfl, h1, c1⟩
  rw [HCL.out] at h1
  have hga : w.heap.size ≤ wa.heap.size := ca.size
  obtain ⟨p, hp⟩ : ∃ p, p = wa.heap.size + 1 := ⟨_, rfl⟩
  obtain ⟨g, hg⟩ : ∃ g, g = wa.heap.size := ⟨_, rfl⟩
  rw [← hp, ← hg] at h1
  rw [← hp]
  have hwg : w.heap.size ≤ g := by omega
  clear hp hg
  have cc := ((ca.trans c1).mono (S := fun i => w.heap.size ≤ i) (fun _ _ h => h.elim))
  clear ca c1
  go_wp2
  go_loopw [38] (fun i wr => ∃ k : Nat, k ≤ n ∧ i = .int .i64 k ∧ Ar wr p g (stTo zs n k) ∧ Chg (fun i => w.heap.size ≤ i) w wr) (fun i _ => n - (intOf i).toNat)
  case atStart => exact ⟨0, Nat.zero_le _, rfl, h1, cc⟩
  case round =>
    obtain ⟨k, hk, rfl, har, hch⟩ := hrel
    by_cases hlt : k < n
    · obtain ⟨x, rfl, hcell, hwf⟩ := (H0.out.chg hch (fun i hi => by omega)).at_ hlt
      have HS := hide (store_ok p g _ k (zs.getD k 0) wr har (by rw [stTo_length]; omega) (by rw [stTo_length]; omega))
      obtain ⟨z, hz⟩ : ∃ z, z = zs.getD k 0 := ⟨_, rfl⟩
      rw [← hz] at hcell HS
      have HZ := hide hz
      clear hz hwf
      go_wp2_with fail
      refine HS.out.mono ?_
      rintro e w2 ⟨rfl, h2, c2⟩
      go_wp2
      go_roundw
      case rel => exact ⟨k + 1, by omega, by go_num, by rw [HZ.out] at h2; exact h2, hch.step c2 (fun i hi e => by omega)⟩
      case measure => simp [intOf]; omega
    · obtain rfl : n = k := by omega
      rw [stTo_all zs n H0.out.1] at har
      clear hlt hk
      go_wp2
      obtain ⟨K, hK, hKn⟩ := rem_nat S n hn1 (by omega)
      rw [hK]
      clear hK
      obtain ⟨D, hD⟩ : ∃ D : Nat, D = n - K := ⟨_, rfl⟩
      have hD1 : D + K ≤ n := by omega
      have hD2 : n ≤ D + K := by omega
      clear hD
      have e0 : 0 < D := by omega
      have e1 : (n : Int) - (K : Int) = (D : Int) := by omega
      have e2 : IntKind.i64.wrap (D : Int) = D := IntWalk.i64_in _ (by omega)
      have e3 : IntKind.u64.wrap (D : Int) = D := by rw [IntKind.wrap_u64]; omega
      have e4 : ((D : Int) == 0) = false := beq_eq_false_iff_ne.2 (by omega)
      go_quiet (fail)
      clear e1 e2 e3 e4
      go_wp2_with fail
      obtain ⟨x, hx, hxD⟩ := rem_nat T D e0 (by omega)
      obtain ⟨y, hy, hyD⟩ := rem_nat F D e0 (by omega)
      rw [hx, hy]
      clear hx hy
      have hzl := H0.out.1
      have HZL := hide hzl
      clear hzl
      have har' : Ar (wr.drewN nq) p g zs := ⟨har.1.drewN nq, har.2.drewN nq⟩
      refine (move_ok p g zs x y K _ har' (by rw [HZL.out]; omega) (by rw [HZL.out]; omega) (by rw [HZL.out]; omega)).mono ?_
      rintro e w2 ⟨rfl, h2, c2⟩
      have cc2 := (hch.drewN nq).step c2 (fun i hi e => by omega)
      have hsl : (splice zs x ((zs.drop y).take K)).length = n := by rw [length_splice _ _ _ (by rw [length_cut _ _ _ (by rw [HZL.out]; omega), HZL.out]; omega), HZL.out]
      have HSL := hide hsl
      clear hsl
      go_wp2
      go_loop [76] (fun i => ∃ k : Nat, k ≤ n ∧ i = .int .i64 k) (fun i => n - (intOf i).toNat)
      case atStart => exact ⟨0, Nat.zero_le _, rfl⟩
      case round =>
        obtain ⟨k, hk, rfl⟩ := hrel
        by_cases hlt : k < n
        · have hrow := H0.out.chg cc2 (fun i hi => by omega)
          have hl1 := load_ok p g _ k w2 h2 (by rw [HSL.out]; omega) (by rw [HSL.out]; omega)
          rw [splice_get zs x y K (by rw [HZL.out]; omega) (by rw [HZL.out]; omega)] at hl1
          obtain ⟨ad, rfl, hcell, hwf⟩ := hrow.at_ hlt
          clear hwf
          by_cases hin : x ≤ k ∧ k < x + K
          · rw [if_pos hin] at hl1
            obtain ⟨i1, i2⟩ := hin
            obtain ⟨ad', e', hcell2, hwf⟩ := hrow.at_ (show y + k - x < n by omega)
            obtain rfl : ad = ad' := by injection e'
            generalize zs.getD k 0 = z1 at *
            generalize zs.getD (y + k - x) 0 = z2 at *
            clear hwf e'
            have HL1 := hide hl1
            clear hl1
            go_wp2_with fail
            refine HL1.out.mono ?_
            rintro e w' ⟨rfl, rfl⟩
            go_wp2
            go_round
            case rel => exact ⟨k + 1, by omega, by go_num⟩
            case measure => simp [intOf]; omega
          · rw [if_neg hin] at hl1
            generalize zs.getD k 0 = z1 at *
            have HL1 := hide hl1
            clear hl1
            by_cases i1 : x ≤ k
            · have i2 : x + K ≤ k := by omega
              clear hin
              go_wp2_with fail
              refine HL1.out.mono ?_
              rintro e w' ⟨rfl, rfl⟩
              go_wp2
              go_round
              case rel => exact ⟨k + 1, by omega, by go_num⟩
              case measure => simp [intOf]; omega
            · have i2 : k < x := by omega
              clear hin
              go_wp2_with fail
              refine HL1.out.mono ?_
              rintro e w' ⟨rfl, rfl⟩
              go_wp2
              go_round
              case rel => exact ⟨k + 1, by omega, by go_num⟩
              case measure => simp [intOf]; omega
        · have hs := h2.sl
          rw [HSL.out] at hs
          have HS := hide hs
          clear hs
          have x1 : exB n ((n : Int) - K + 1) K = false := by simp [exB]; omega
          have x2 : exB n 0 K = true := by simp [exB]; omega
          have x3 : exB n (-1) K = false := by simp [exB]
          go_wp2_with fail
          refine (move_no1 _ _ n _ _ _ _ HS.out (by omega) (by omega) (by omega) x1).mono ?_
          rintro e w' ⟨rfl, rfl⟩
          go_wp2_with fail
          refine (move_no2 _ _ n _ _ _ _ HS.out (by omega) (by omega) (by omega) (by omega) x2 x3).mono ?_
          rintro e w' ⟨rfl, rfl⟩
          go_wp2_with fail
          refine (len_any _ _ n _ HS.out).mono ?_
          rintro e w' ⟨rfl, rfl⟩
          go_wp2
          go_ret
          exact ⟨by simp, cc2.below (fun i hi => by omega) (Nat.le_refl _)⟩

theorem walk (a0 : Option Addr) (len0 cap0 : Nat) (z0 : List Int) (a1 a2 a3 : Int) (w : World) (w0 : IsRow .i64 w a0 len0 cap0 z0) (w1 : (Lit.int .u64 a1).wf = true) (w2 : (Lit.int .u64 a2).wf = true) (w3 : (Lit.int .u64 a3).wf = true) :
    Calls Try.prog 4 #[.slice a0 len0 cap0, .int .u64 a1, .int .u64 a2, .int .u64 a3] w fun e w' => e = .returned (.bool true) ∧ Below w.heap.size w w' := by
  have b1 := bounds_u64 w1
  have b2 := bounds_u64 w2
  have b3 := bounds_u64 w3
  have bl : len0 ≤ 9223372036854775807 := by have h1 := w0.2.1; have h2 := w0.2.2.1; unfold maxLen at h2; omega
  obtain ⟨T, rfl⟩ := Int.eq_ofNat_of_zero_le b1.1
  obtain ⟨F, rfl⟩ := Int.eq_ofNat_of_zero_le b2.1
  obtain ⟨S, rfl⟩ := Int.eq_ofNat_of_zero_le b3.1
  by_cases h : 0 < len0 ∧ len0 ≤ 200
  · exact walk_main a0 len0 cap0 z0 T F S w w0 h.1 h.2 (by omega) (by omega) (by omega)
  · exact walk_small a0 len0 cap0 _ _ _ w (by omega) bl

theorem own : ownKnob Try.prog.godebug = none := by kernel_rfl
theorem laidOut : laidOutB Try.prog = true := by kernel_rfl

set_option maxRecDepth 100000 in
theorem lifted (os : Os) (started : os.Started) (H : Type) (enc : TypeId × Value → H) :
    ReturnsInHanded {} Try.checked os 4 .any (Rows.memMovesSpec.pre6 enc Try.prog Try.f4 Rows.memMovesRow.domain false) (Rows.memMovesSpec.post enc Try.prog Try.f4 false true false false) := by
  refine returnsInHanded_of_change (C := Try.checked) own started (by kernel_rfl) Try.func4
    (ChangeSpec.witness6 (enc := enc) (C := Try.checked) false ⟨#[], #[.slice none 0 0, .int .u64 0, .int .u64 0, .int .u64 0], []⟩ 8 (by kernel_rfl) (by kernel_rfl) (by kernel_rfl) (by kernel_rfl)) ?_
  intro W base args ds gs before hval0 hW hcnd _
  have hval : ∀ (j : Nat) t v, Try.f4.params[j]? = some t → args[j]? = some v → Value.okWide Try.prog W .any base t v := hval0
  have hW' := hW
  obtain ⟨p, q, hA0, hV, rfl, hfz, hnd⟩ := hW
  have hA : DataW.TrodAll enc Try.prog W 0 (fun _ => true) true Try.f4.params.toList args.toList ds p := hA0
  rw [Try.params4] at hA hval
  obtain ⟨v0, vs0, d0, ds0, p0, q0, hargs, rfl, rfl, h0, r0⟩ := trodAll_cons hA
  obtain ⟨v1, vs1, d1, ds1, p1, q1, rfl, rfl, rfl, h1, r1⟩ := trodAll_cons r0
  obtain ⟨v2, vs2, d2, ds2, p2, q2, rfl, rfl, rfl, h2, r2⟩ := trodAll_cons r1
  obtain ⟨v3, vs3, d3, ds3, p3, q3, rfl, rfl, rfl, h3, r3⟩ := trodAll_cons r2
  obtain ⟨rfl, rfl, rfl⟩ := trodAll_nil r3
  obtain rfl : args = #[v0, v1, v2, v3] := by cases args; simp_all
  obtain ⟨rfl, rfl⟩ := trodVars_none hV
  obtain ⟨a0, len0, cap0, rfl⟩ := okWide_slice Try.underlying29 (hval 0 29 v0 rfl rfl)
  have k0 := h0
  have lt0 : ∀ x ∈ p0, x.block < W.heap.size := by obtain ⟨m, hm⟩ := k0; exact DataW.trod_lt m _ _ _ hm
  obtain ⟨z0, w0⟩ : ∃ zs, IsRow .i64 W a0 len0 cap0 zs := open_row Try.underlying29 Try.underlying3 (by kernel_rfl) h0
  obtain ⟨a1, rfl, rfl, rfl, w1⟩ := open_int Try.underlying46 (hval 1 46 v1 rfl rfl) h1
  obtain ⟨a2, rfl, rfl, rfl, w2⟩ := open_int Try.underlying46 (hval 2 46 v2 rfl rfl) h2
  obtain ⟨a3, rfl, rfl, rfl, w3⟩ := open_int Try.underlying46 (hval 3 46 v3 rfl rfl) h3
  clear hA0 hval0
  refine (walk a0 len0 cap0 z0 a1 a2 a3 W w0 w1 w2 w3).mono fun e W' ⟨he, bel⟩ => ?_
  subst he
  exact ⟨_, rfl, _, _, _, [], _, [], hW', trodAll_mk1 (shut_bool Try.underlying4 _), (trodAll_cons_mk (Below.trod laidOut (by kernel_rfl) (of_decide_eq_true (by kernel_rfl)) k0 bel lt0) (trodAll_cons_mk (shut_int Try.underlying46 w1) (trodAll_cons_mk (shut_int Try.underlying46 w2) (trodAll_cons_mk (shut_int Try.underlying46 w3) trodAll_mk0)))), rfl, bel.frame _, fun h => by cases h⟩

theorem over : Rows.memMovesRow.holds Try.pinned (OpenSpec.ofChange Rows.memMovesSpec) :=
  OpenClaim.holds_of_wide 4 Try.f4 rfl rfl rfl rfl rfl rfl rfl ⟨rfl, rfl, rfl, rfl, rfl⟩ rfl rfl rfl rfl rfl (by kernel_rfl) Try.func4 (by kernel_rfl)
    (of_decide_eq_true (by kernel_rfl)) (by unfold Func.isWrapper; first | (rw [if_pos (by decide +kernel)]; kernel_rfl) | (rw [if_neg (by decide +kernel)]; exact ⟨rfl, rfl⟩))
    (fun os started H enc _ => lifted os started H enc)

/-- The statement. -/
theorem proved : Rows.MemMovesSaid := over
#print axioms proved
end Go.Proofs.Ytaoppfmceijhfaa.memMoves


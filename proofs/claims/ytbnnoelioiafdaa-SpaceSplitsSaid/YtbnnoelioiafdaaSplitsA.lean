/- The walk through SpaceSplits. Conditions: at most 200 sizes. -/
import Derived.Test.YtbnnoelioiafdaaSplitFacts
namespace Go.Proofs.Ytbnnoelioiafdaa.spaceSplits
open Go.ChangeShapes Go.WideShapes Go.ChangeAt Go.RowKit
set_option linter.unusedVariables false

set_option maxHeartbeats 2000000 in
set_option maxRecDepth 100000 in
theorem walk_some (f : Int) (a : Option Addr) (len cap : Nat) (zs : List Int) (l : List (Int × Int)) (w : World) (hf : f ≤ 9223372036854775807) (h0 : IsRow .i64 w a len cap zs) (hl : len ≤ 200) (hs : spl f zs = some l) :
    Calls Try.prog 5 #[.int .i64 f, .slice a len cap] w fun e w' => e = .returned (.bool true) ∧ Below w.heap.size w w' := by
  have H0 := hide h0
  have HZL := hide h0.1
  have HSP := hide hs
  clear h0 hs
  have hl' : decide ((len : Int) > 200) = false := by simp; omega
  go_enter Try.func5, Try.ntmps5
  go_wp2_with fail
  refine (awake_any _).mono ?_
  rintro e wa ⟨rfl, ca⟩
  go_wp2_with fail
  refine (split_any f a len cap zs _ hf (H0.out.chg ca (fun i hi => id)) hl).mono ?_
  rintro e w1 hpost
  rcases hpost with ⟨l1, v1, hs1, rfl, ho1, c1⟩ | ⟨hn, _⟩
  case inr => have := HSP.out; rw [hn] at this; cases this
  obtain rfl : l = l1 := by rw [HSP.out] at hs1; simpa using hs1
  clear hs1
  rw [HZL.out] at ho1
  obtain ⟨x1, p1, rfl⟩ := own_len ho1
  replace c1 := ca.trans c1
  go_wp2_with fail
  refine (rsplit_any f a len cap zs _ hf (H0.out.chg c1 (fun i hi => id)) hl).mono ?_
  rintro e w2 hpost
  rcases hpost with ⟨l1, v2, hs1, rfl, ho2, c2⟩ | ⟨hn, _⟩
  case inr => have := HSP.out; rw [hn] at this; cases this
  obtain rfl : l = l1 := by rw [HSP.out] at hs1; simpa using hs1
  clear hs1
  rw [HZL.out] at ho2
  obtain ⟨x2, p2, rfl⟩ := own_len ho2
  replace ho1 := own_grow ho1 c2
  replace c2 := c1.trans c2
  clear c1 ca hl'
  generalize wa.heap.size = ba at *
  generalize w1.heap.size = b1 at *
  have HO1 := hide ho1
  have HO2 := hide ho2
  clear ho1 ho2
  go_wp2
  go_loopw [42] (fun i wr => ∃ k : Nat, k ≤ len ∧ i = .int .i64 k ∧ Grow w2 wr) (fun i _ => len - (intOf i).toNat)
  case atStart => exact ⟨0, Nat.zero_le _, rfl, Chg.refl _ _⟩
  case round =>
    obtain ⟨k, hk, rfl, cr⟩ := hrel
    by_cases hlt : k < len
    · have hz : k < zs.length := by rw [HZL.out]; exact hlt
      obtain ⟨g1, rfl, hg1, hp1, hm1⟩ := own_two HO1.out (by omega)
      obtain ⟨g2, rfl, hg2, hp2, hm2⟩ := own_two HO2.out (by omega)
      obtain ⟨hget, q1, q2, q3⟩ := spl_get HSP.out hz
      have hstep := ps_succ f zs k hz
      obtain ⟨ad, rfl, hcell, hwf⟩ := (H0.out.chg (c2.trans cr) (fun i hi => id)).at_ hlt
      obtain ⟨A, hA⟩ : ∃ A, A = ps f zs k := ⟨_, rfl⟩
      obtain ⟨B, hB⟩ : ∃ B, B = ps f zs (k + 1) := ⟨_, rfl⟩
      obtain ⟨z, hz'⟩ : ∃ z, z = zs.getD k 0 := ⟨_, rfl⟩
      rw [← hA] at hget q1 q2 hstep
      rw [← hB] at hget q2 q3 hstep
      rw [← hz'] at hstep hcell
      obtain ⟨a0, a1, a2⟩ := own_sp (own_grow HO1.out cr) hlt hget
      obtain ⟨b0, b1', b2⟩ := own_sp (own_grow HO2.out cr) hlt hget
      have HA := hide hA
      have HR := hide (show riB A A B = true by simp [riB]; omega)
      have U1 := hide (show A - A = 0 by omega)
      have U2 := hide (show B - A = z by omega)
      clear hget hA hB hz' hwf hz hstep
      unfold maxLen at hm1 hm2
      by_cases hk0 : 0 < k
      · obtain ⟨j, hj⟩ : ∃ j : Nat, j + 1 = k := ⟨k - 1, by omega⟩
        have hz : j < zs.length := by rw [HZL.out]; omega
        obtain ⟨hget, -, -, -⟩ := spl_get HSP.out hz
        obtain ⟨C, hC⟩ : ∃ C, C = ps f zs j := ⟨_, rfl⟩
        rw [← hC, hj, ← HA.out] at hget
        have hjl : j < len := by omega
        obtain ⟨-, -, d2⟩ := own_sp (own_grow HO1.out cr) hjl hget
        clear hget hC hz
        have wr1 : IntKind.i64.wrap ((k : Int) - 1) = j := by rw [← hj]; rw [IntWalk.i64_in _ (by omega)]; omega
        clear hj
        go_wp2_with fail
        refine wp_region_grow (by kernel_rfl) (by kernel_rfl) ?_
        repeat (
          with_reducible refine wpQuiet_step ?_
          intro K hK
          first
            | ((with_reducible refine quiet_offT rfl ?_ (hK _ ?_)); focus (refine ⟨_, rfl, ?_⟩; with_reducible rfl))
            | ((with_reducible refine quiet_offF rfl ?_ (hK _ ?_)); focus (refine ⟨_, rfl, ?_⟩; with_reducible rfl))
            | ((with_reducible refine quiet_offN rfl ?_ (hK _ ?_)); focus (exact rfl))
            | ((first | with_reducible refine quiet_free rfl ?_ | ((with_reducible refine quiet_on rfl ?_ ?_); focus (refine ⟨_, rfl, ?_⟩; with_reducible rfl)))
               apply Exists.intro
               refine ⟨fun W hW => ?_, hK _ ?_⟩
               focus (have q0 := Grow.cell hW a0; have q1 := Grow.cell hW a1; have q2 := Grow.cell hW a2; have q3 := Grow.cell hW b0; have q4 := Grow.cell hW b1'; have q5 := Grow.cell hW b2; have q6 := Grow.cell hW d2; have q7 := Grow.cell hW hcell; go_simp; first | done | with_reducible rfl | (go_at_call 18; with_reducible exact grown_call hW (used_is A A B _ HR.out U1.out)) | (go_at_call 19; with_reducible exact grown_call hW (room_is A A B _ HR.out U2.out))))
          clear hK K
          simp only [Act.put, List.setIfInBounds_toArray, List.set_cons_zero, List.set_cons_succ])
        with_reducible refine wpQuiet_nil ?_
        intro w3 c3
        clear wr1 a0 a1 a2 b0 b1' b2 d2 hcell
        go_wp2
        go_roundw
        case rel => exact ⟨k + 1, by omega, by go_num, cr.trans c3⟩
        case measure => simp [intOf]; omega
      · have hk1 : decide (0 < k) = false := by simpa using hk0
        have hk2 : decide ((0 : Int) < k) = false := by simpa using hk0
        clear hk0
        go_wp2_with fail
        refine wp_region_grow (by kernel_rfl) (by kernel_rfl) ?_
        repeat (
          with_reducible refine wpQuiet_step ?_
          intro K hK
          first
            | ((with_reducible refine quiet_offT rfl ?_ (hK _ ?_)); focus (refine ⟨_, rfl, ?_⟩; with_reducible rfl))
            | ((with_reducible refine quiet_offF rfl ?_ (hK _ ?_)); focus (refine ⟨_, rfl, ?_⟩; with_reducible rfl))
            | ((with_reducible refine quiet_offN rfl ?_ (hK _ ?_)); focus (exact rfl))
            | ((first | with_reducible refine quiet_free rfl ?_ | ((with_reducible refine quiet_on rfl ?_ ?_); focus (refine ⟨_, rfl, ?_⟩; with_reducible rfl)))
               apply Exists.intro
               refine ⟨fun W hW => ?_, hK _ ?_⟩
               focus (have q0 := Grow.cell hW a0; have q1 := Grow.cell hW a1; have q2 := Grow.cell hW a2; have q3 := Grow.cell hW b0; have q4 := Grow.cell hW b1'; have q5 := Grow.cell hW b2; have q6 := Grow.cell hW hcell; go_simp; first | done | with_reducible rfl | (go_at_call 18; with_reducible exact grown_call hW (used_is A A B _ HR.out U1.out)) | (go_at_call 19; with_reducible exact grown_call hW (room_is A A B _ HR.out U2.out))))
          clear hK K
          simp only [Act.put, List.setIfInBounds_toArray, List.set_cons_zero, List.set_cons_succ])
        with_reducible refine wpQuiet_nil ?_
        intro w3 c3
        clear a0 a1 a2 b0 b1' b2 hcell
        go_wp2
        go_roundw
        case rel => exact ⟨k + 1, by omega, by go_num, cr.trans c3⟩
        case measure => simp [intOf]; omega
    · obtain rfl : len = k := by omega
      go_wp2
      go_ret
      exact ⟨rfl, (c2.trans cr).below (fun _ _ h => h) (Nat.le_refl _)⟩
end Go.Proofs.Ytbnnoelioiafdaa.spaceSplits

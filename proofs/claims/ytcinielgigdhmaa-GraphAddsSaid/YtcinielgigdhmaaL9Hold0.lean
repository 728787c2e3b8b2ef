/- Graphs: Holds of a node whose references are 0 answers the nil list. Conditions: the number fits an int. -/
import Derived.Test.YtcinielgigdhmaaL9Any
namespace Go.Proofs.Ytcinielgigdhmaa.L9
open Go.ChangeShapes Go.WideShapes Go.ChangeAt Go.RowKit Go.Maps
open Go.Proofs.Ytcinielgigdhmaa.L5 (Cl clV rtB Tb clAt shX shR shD woV hoB IsCls newX isRf)
set_option linter.unusedVariables false
section
variable {w : World} {z p m tb : Nat} {S : Nat → Prop} {f : Int → Option Nat} {ow : Nat → Int} {cs : List Cl} {L : List Nd} {x : Nd} {i : Int}
set_option maxRecDepth 100000 in
set_option maxHeartbeats 1000000 in
theorem holds_zero (h : GS w z S p cs L) (hi : In64 i) (hn : nd L i = some x) (h0 : ∀ k, x.refs.getD k 0 = 0) :
    Calls Try.prog 35 #[ptr p, .int .i64 i] w fun e w' => e = .returned (.slice none 0 0) ∧ Grow w w' := by
  obtain ⟨m, tb, f, ow, h⟩ := h
  have HG := hide h
  have H0 := hide h0
  have k0 := h.cell0
  obtain ⟨b, br, bd, hb, hl, hx⟩ := look_some h hi hn
  have hok := h.ok x (nd_some hn).1
  obtain ⟨x0, x1, x2, x3, x4, x5⟩ := hx.cells
  have HBR := hide hx.2.1
  have HRL := hide hok.rl
  clear h hb hx hok x0 x3 x4 x5 h0
  obtain ⟨n, hnn⟩ : ∃ n, x.refs.length = n := ⟨_, rfl⟩
  rw [hnn] at x2
  have HNN := hide hnn
  clear hnn
  go_enter Try.func35, Try.ntmps35
  go_wp2_with fail
  refine (all_g HG.out).mono ?_
  rintro e w' ⟨rfl, rfl⟩
  go_wp2_with fail
  go_loopw [6, 21] (fun v c wr => ∃ k : Nat, k ≤ n ∧ c = .int .i64 k ∧ v = .slice none 0 0 ∧ Grow w wr) (fun _ c _ => n - (Go.RowKit.intOf c).toNat)
  case atStart => exact ⟨0, Nat.zero_le _, rfl, rfl, Chg.refl _ _⟩
  case round =>
    obtain ⟨k, hk, rfl, rfl, hgw⟩ := hrel
    have y0 := Grow.cell hgw k0
    have y1 := Grow.cell hgw x1
    have y2 := Grow.cell hgw x2
    rcases Nat.eq_or_lt_of_le hk with rfl | hlt
    · have q1 : decide ((k : Int) < k) = false := by simp
      go_wp2
      go_ret
      exact ⟨rfl, hgw⟩
    · have q1 : decide ((k : Int) < n) = true := by simp; omega
      have yk := Grow.cell hgw ((HBR.out.cell k).trans (ints_get _ _ (by rw [HNN.out]; exact hlt)))
      rw [H0.out k] at yk
      have HLT := hide hlt
      have hw : IntKind.i64.wrap ((k : Int) + 1) = ((k + 1 : Nat) : Int) := (IntWalk.i64_in _ (by have := HRL.out; have := HNN.out; omega)).trans (by omega)
      have q2 : ((0 : Int) != 0) = false := rfl
      go_wp2_with fail
      refine wp_region_grow (by kernel_rfl) (by kernel_rfl) ?_
      repeat (
        with_reducible refine wpQuiet_step ?_
        intro K hK
        first
          | ((with_reducible refine quiet_offT rfl ?_ (hK _ ?_)); focus (refine ⟨_, rfl, ?_⟩; with_reducible rfl))
          | ((with_reducible refine quiet_offF rfl ?_ (hK _ ?_)); focus (refine ⟨_, rfl, ?_⟩; with_reducible rfl))
          | ((with_reducible refine quiet_offN rfl ?_ (hK _ ?_)); focus (exact rfl))
          | ((first | with_reducible refine quiet_free rfl ?_ | ((with_reducible refine quiet_on rfl ?_ ?_); focus (refine ⟨_, rfl, ?_⟩; with_reducible rfl)))
             apply Exists.intro
             refine ⟨fun Wq hW => ?_, hK _ ?_⟩
             focus (have q0 := Grow.cell hW y0; have q1 := Grow.cell hW y1; go_simp; first | done | with_reducible rfl))
        clear hK K
        simp only [Act.put, List.setIfInBounds_toArray, List.set_cons_zero, List.set_cons_succ])
      with_reducible refine wpQuiet_nil ?_
      intro w5 c5
      have g5 := hgw.trans c5
      go_wp2
      go_roundw
      case rel => exact ⟨k + 1, HLT.out, rfl, rfl, g5⟩
      case measure => have := HLT.out; simp [Go.RowKit.intOf]; omega
end
end Go.Proofs.Ytcinielgigdhmaa.L9

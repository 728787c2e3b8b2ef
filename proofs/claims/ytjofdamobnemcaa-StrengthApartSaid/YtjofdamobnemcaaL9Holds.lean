/- Graphs: Holds: what it answers. Conditions: the number fits an int. -/
import Derived.Test.YtjofdamobnemcaaOwn
import Derived.Test.YtjofdamobnemcaaL9Sp
import Derived.Test.YtjofdamobnemcaaL9Node
namespace Go.Proofs.Ytjofdamobnemcaa.L9
open Go.ChangeShapes Go.WideShapes Go.ChangeAt Go.RowKit Go.Maps
open Go.Proofs.Ytjofdamobnemcaa.L5 (Cl clV rtB Tb clAt shX shR shD woV hoB IsCls newX isRf)
set_option linter.unusedVariables false
section
variable {w : World} {z p m tb : Nat} {S : Nat → Prop} {f : Int → Option Nat} {ow : Nat → Int} {cs : List Cl} {L : List Nd} {x : Nd} {i : Int}
set_option maxRecDepth 100000 in
set_option maxHeartbeats 1000000 in
theorem holds_g (h : Gr w z S p m tb f ow cs L) (hi : In64 i) :
    Calls Try.prog 41 #[ptr p, .int .i64 i] w fun e w' => ∃ a cap, e = .returned (.slice a (hldX cs L i).length cap) ∧ w'.ownsRow w.heap.size 3 1 (.slice a (hldX cs L i).length cap) (hldX cs L i).length (ints (hldX cs L i)) ∧ Grow w w' := by
  have HG := hide h
  cases hn : nd L i with
  | none =>
    have HX := hide (show hldX cs L i = [] by simp [hldX, hn])
    have hl := look_none h hi hn
    clear h
    go_enter Try.func41, Try.ntmps41
    go_wp2_with fail
    refine (all_g HG.out).mono ?_
    rintro e w' ⟨rfl, rfl⟩
    go_wp2
    go_ret
    rw [HX.out]
    exact ⟨_, _, rfl, World.ownsRow_nil _ _ _ _, Chg.refl _ _⟩
  | some x =>
    obtain ⟨base, v, ht⟩ := h.tb_
    have HT := hide ht
    have k0 := h.cell0
    obtain ⟨b, br, bd, hb, hl, hx⟩ := look_some h hi hn
    have hok := h.ok x (nd_some hn).1
    obtain ⟨c, hc, hc1⟩ := hok.cl
    obtain ⟨x0, x1, x2, x3, x4, x5⟩ := hx.cells
    have HX := hide (show hldX cs L i = hld (isRf c.k) x.refs by simp [hldX, hn, hc, kd])
    have HHO := hide (fun W (hW : Grow w W) (k : Nat) => L5.holds_is (HT.out.grow hW) HG.out.cl (n := x.c) (l := (k : Int)) (b := decide (0 < k) || !isRf c.k) (by rw [hc]; simp [hoB]))
    have HBR := hide hx.2.1
    have HRL := hide hok.rl
    generalize isRf c.k = r at *
    obtain ⟨i0, hi0, hz0, hz1, hz2⟩ := info_parts Try.infoI
    have HI := hide hi0
    have HZ0 := hide hz0
    have HZ1 := hide hz1
    have HZ2 := hide hz2
    clear h ht hb hx hok hc hc1 x0 x3 x4 x5 hi0 hz0 hz1 hz2
    obtain ⟨n, hnn⟩ : ∃ n, x.refs.length = n := ⟨_, rfl⟩
    rw [hnn] at x2
    have HNN := hide hnn
    clear hnn
    go_enter Try.func41, Try.ntmps41
    go_wp2_with fail
    refine (all_g HG.out).mono ?_
    rintro e w' ⟨rfl, rfl⟩
    go_wp2_with fail
    go_loopw [6, 21] (fun v c wr => ∃ k : Nat, k ≤ n ∧ c = .int .i64 k ∧ wr.ownsRow w.heap.size 3 1 v (hld r (x.refs.take k)).length (ints (hld r (x.refs.take k))) ∧ Grow w wr) (fun _ c _ => n - (Go.RowKit.intOf c).toNat)
    case atStart => exact ⟨0, Nat.zero_le _, rfl, by cases r <;> exact World.ownsRow_nil _ _ _ _, Chg.refl _ _⟩
    case round =>
      obtain ⟨k, hk, rfl, hown, hgw⟩ := hrel
      have y0 := Grow.cell hgw k0
      have y1 := Grow.cell hgw x1
      have y2 := Grow.cell hgw x2
      rcases Nat.eq_or_lt_of_le hk with rfl | hlt
      · have q1 : decide ((k : Int) < k) = false := by simp
        rw [← HNN.out, List.take_length] at hown
        obtain ⟨a, cap, rfl⟩ := own_len hown
        have HO := hide hown
        clear hown
        go_wp2
        go_ret
        rw [HX.out]
        exact ⟨_, _, rfl, HO.out, hgw⟩
      · have q1 : decide ((k : Int) < n) = true := by simp; omega
        have yk := Grow.cell hgw ((HBR.out.cell k).trans (ints_get _ _ (by rw [HNN.out]; exact hlt)))
        obtain ⟨q, hq⟩ : ∃ q, x.refs.getD k 0 = q := ⟨_, rfl⟩
        rw [hq] at yk
        have HST := hide (hq ▸ hld_step r x.refs k (by rw [HNN.out]; exact hlt))
        have HLT := hide hlt
        have hw : IntKind.i64.wrap ((k : Int) + 1) = ((k + 1 : Nat) : Int) := (IntWalk.i64_in _ (by have := HRL.out; have := HNN.out; omega)).trans (by omega)
        have HLEN := hide (show (hld r (x.refs.take k)).length ≤ 30 by have := hld_len r (x.refs.take k); have := HRL.out; simp at *; omega)
        obtain ⟨xs, hxs⟩ : ∃ xs, xs = hld r (x.refs.take k) := ⟨_, rfl⟩
        rw [← hxs] at hown HST HLEN
        have HO0 := hide hown
        by_cases hq0 : q = 0
        · subst hq0
          have q2 : ((0 : Int) != 0) = false := rfl
          have HS := hide (show hld r (x.refs.take (k + 1)) = xs by rw [HST.out]; simp)
          clear hown hq hxs HST
          go_wp2_with fail
          refine wp_region_grow (by kernel_rfl) (by kernel_rfl) ?_
          repeat (
            with_reducible refine wpQuiet_step ?_
            intro K hK
            first
              | ((with_reducible refine quiet_offT rfl ?_ (hK _ ?_)); focus (refine ⟨_, rfl, ?_⟩; with_reducible rfl))
              | ((with_reducible refine quiet_offF rfl ?_ (hK _ ?_)); focus (refine ⟨_, rfl, ?_⟩; with_reducible rfl))
              | ((with_reducible refine quiet_offN rfl ?_ (hK _ ?_)); focus (exact rfl))
              | ((first | with_reducible refine quiet_free rfl ?_ | ((with_reducible refine quiet_on rfl ?_ ?_); focus (refine ⟨_, rfl, ?_⟩; with_reducible rfl)))
                 apply Exists.intro
                 refine ⟨fun Wq hW => ?_, hK _ ?_⟩
                 focus (have q0 := Grow.cell hW y0; have q1 := Grow.cell hW y1; go_simp; first | done | with_reducible rfl))
            clear hK K
            simp only [Act.put, List.setIfInBounds_toArray, List.set_cons_zero, List.set_cons_succ])
          with_reducible refine wpQuiet_nil ?_
          intro w5 c5
          have HO5 := hide (own_grow HO0.out c5)
          have g5 := hgw.trans c5
          go_wp2
          go_roundw
          case rel => exact ⟨k + 1, HLT.out, rfl, by rw [HS.out]; exact HO5.out, g5⟩
          case measure => have := HLT.out; simp [Go.RowKit.intOf]; omega
        · have q2 : (q != 0) = true := by simpa using hq0
          cases hB : (decide (0 < k) || !r) with
          | false =>
            have HS := hide (show hld r (x.refs.take (k + 1)) = xs by rw [HST.out, hB]; simp)
            have HHK := hide (fun W (hW : Grow wr W) => (hB ▸ HHO.out W (hgw.trans hW) k : Calls Try.prog 55 #[.pointer (some ⟨tb, 0, none⟩), .int .i64 x.c, .int .i64 k] W fun e w' => e = .returned (.bool false) ∧ Grow W w'))
            clear hown hq hxs HST hq0 HHO hB
            go_wp2_with fail
            refine wp_region_grow (by kernel_rfl) (by kernel_rfl) ?_
            repeat (
              with_reducible refine wpQuiet_step ?_
              intro K hK
              first
                | ((with_reducible refine quiet_offT rfl ?_ (hK _ ?_)); focus (refine ⟨_, rfl, ?_⟩; with_reducible rfl))
                | ((with_reducible refine quiet_offF rfl ?_ (hK _ ?_)); focus (refine ⟨_, rfl, ?_⟩; with_reducible rfl))
                | ((with_reducible refine quiet_offN rfl ?_ (hK _ ?_)); focus (exact rfl))
                | ((first | with_reducible refine quiet_free rfl ?_ | ((with_reducible refine quiet_on rfl ?_ ?_); focus (refine ⟨_, rfl, ?_⟩; with_reducible rfl)))
                   apply Exists.intro
                   refine ⟨fun Wq hW => ?_, hK _ ?_⟩
                   focus (have q0 := Grow.cell hW y0; have q1 := Grow.cell hW y1; go_simp; first | done | with_reducible rfl | (go_at_call 55; (first | with_reducible exact grown_call hW (HHK.out _ hW) | with_reducible exact grown_same hW (HHK.out _ hW)))))
              clear hK K
              simp only [Act.put, List.setIfInBounds_toArray, List.set_cons_zero, List.set_cons_succ])
            with_reducible refine wpQuiet_nil ?_
            intro w5 c5
            have HO5 := hide (own_grow HO0.out c5)
            have g5 := hgw.trans c5
            go_wp2
            go_roundw
            case rel => exact ⟨k + 1, HLT.out, rfl, by rw [HS.out]; exact HO5.out, g5⟩
            case measure => have := HLT.out; simp [Go.RowKit.intOf]; omega
          | true =>
            have HS := hide (show hld r (x.refs.take (k + 1)) = xs ++ [q] by rw [HST.out, hB]; simp [hq0])
            have HHK := hide (fun W (hW : Grow wr W) => (hB ▸ HHO.out W (hgw.trans hW) k : Calls Try.prog 55 #[.pointer (some ⟨tb, 0, none⟩), .int .i64 x.c, .int .i64 k] W fun e w' => e = .returned (.bool true) ∧ Grow W w'))
            clear hown hq hxs HST hq0 HHO hB
            go_wp2_with fail
            refine wp_region_grow (by kernel_rfl) (by kernel_rfl) ?_
            repeat (
              with_reducible refine wpQuiet_step ?_
              intro K hK
              first
                | ((with_reducible refine quiet_offT rfl ?_ (hK _ ?_)); focus (refine ⟨_, rfl, ?_⟩; with_reducible rfl))
                | ((with_reducible refine quiet_offF rfl ?_ (hK _ ?_)); focus (refine ⟨_, rfl, ?_⟩; with_reducible rfl))
                | ((with_reducible refine quiet_offN rfl ?_ (hK _ ?_)); focus (exact rfl))
                | ((first | with_reducible refine quiet_free rfl ?_ | ((with_reducible refine quiet_on rfl ?_ ?_); focus (refine ⟨_, rfl, ?_⟩; with_reducible rfl)))
                   apply Exists.intro
                   refine ⟨fun Wq hW => ?_, hK _ ?_⟩
                   focus (have q0 := Grow.cell hW y0; have q1 := Grow.cell hW y1; go_simp; first | done | with_reducible rfl | (go_at_call 55; (first | with_reducible exact grown_call hW (HHK.out _ hW) | with_reducible exact grown_same hW (HHK.out _ hW)))))
              clear hK K
              simp only [Act.put, List.setIfInBounds_toArray, List.set_cons_zero, List.set_cons_succ])
            with_reducible refine wpQuiet_nil ?_
            intro w5 c5
            have g5 := hgw.trans c5
            have HO := hide ((own_grow HO0.out c5).alloc (.cells [.int .i64 q].toArray 3))
            have HBK := hide (Blk.new w5 3 [.int .i64 q])
            have HC := hide (g5.alloc (.cells [.int .i64 q].toArray 3))
            have HBL := hide g5.size
            clear g5 c5 HO0 y0 y1 y2 yk HHK
            go_wp2_with (at_builtin; refine wpList_append_own _ rfl _ _ 27 rfl w.heap.size 3 i0 (.int .i64 0) 1 8 Try.underlying27 HI.out HZ0.out HZ1.out HZ2.out rfl (by decide) _ _ _ rfl HO.out ⟨w5.heap.size, 0, none⟩ 1 1 [.int .i64 q] rfl rfl ?c1 ?c2 ?c3 ?c4 ?c5 ?_)
            case c1 => intro j u hj; rw [addr_add, Nat.zero_add, HBK.out.cell]; exact hj
            case c2 => intro u hu; simp at hu; subst hu; rfl
            case c3 => have := HLEN.out; unfold maxLen; omega
            case c4 => have := HLEN.out; omega
            case c5 => rw [World.size_alloc]; have := HBL.out; omega
            intro v' w6 hown3 hgrow _
            have cc := Chg.grownOwn HC.out HO.out (Nat.le_refl _) hgrow
            have HO3 := hide hown3
            clear hgrow hown3 HC HO HBK
            go_wp2
            go_roundw
            case rel =>
              refine ⟨k + 1, HLT.out, rfl, ?_, cc⟩
              rw [HS.out, List.length_append, List.length_singleton]
              have := HO3.out
              simpa [ints] using this
            case measure => have := HLT.out; simp [Go.RowKit.intOf]; omega
end
end Go.Proofs.Ytjofdamobnemcaa.L9

/- The plain graph: Holds. Conditions: fewer than 1000000 nodes and classes; the classes can be. -/
import Derived.Test.YtjofdamobnemcaaL9RefR
namespace Go.Proofs.Ytjofdamobnemcaa.L9
open Go.ChangeShapes Go.WideShapes Go.ChangeAt Go.RowKit
open Go.Proofs.Ytjofdamobnemcaa.L5 (Cl clAt IsCls newX isRf rtB shX shR shD)
set_option linter.unusedVariables false
section
variable {w w' : World} {z q : Nat} {T : Nat → Prop} {cv : Value} {L : List Nd} {x : Nd} {i : Int} {cs : List Cl} {a : Option Addr} {len cap : Nat}
set_option maxRecDepth 100000 in
set_option maxHeartbeats 2000000 in
theorem holds_r (h : RG w z T q (.slice a len cap) L) (hc : IsCls w a len cap cs) (ho : Lok cs L) (hall : cs.all Cl.rt = true) (hl : L.length < 1000000) (hcap : len < 1000000) :
    Calls Try.prog 25 #[ptr q, .int .i64 i] w fun e w' => ∃ a cap, e = .returned (.slice a (hldX cs L i).length cap) ∧ w'.ownsRow w.heap.size 3 1 (.slice a (hldX cs L i).length cap) (hldX cs L i).length (ints (hldX cs L i)) ∧ Grow w w' := by
  have H := hide h
  cases hn : nd L i with
  | none =>
    have HX := hide (show hldX cs L i = [] by simp [hldX, hn])
    have HA := hide (at_no h hn hl)
    clear h hc ho hall hl hcap hn
    go_enter Try.func25, Try.ntmps25
    go_wp2_with fail
    refine HA.out.mono ?_
    rintro e w1 ⟨rfl, rfl⟩
    go_wp2
    go_ret
    rw [HX.out]
    exact ⟨_, _, rfl, World.ownsRow_nil _ _ _ _, Chg.refl _ _⟩
  | some x =>
    obtain ⟨p, hk, hkl⟩ := nd_at hn
    obtain ⟨hx, rfl⟩ := nd_some hn
    obtain ⟨c, hcl, hcp⟩ := (ho.2 x hx).cl
    have hrl := (ho.2 x hx).rl
    have hkt := kind_lt (L5.clAt_rt hall hcl)
    have HX := hide (show hldX cs L x.id = hld (isRf c.k) x.refs by unfold hldX; rw [hn]; simp only [hcl, kd])
    have HA := hide (at_yes h ho.1 hk hl)
    have HKI := hide (fun (W : World) (g : Grow w W) => kind_r (h.grow g) (hc.chg g fun _ _ => id) hk hcl hl hcap)
    obtain ⟨v, rr, d, ow, hf⟩ := h
    obtain ⟨g, vc, rfl, -, -, -, -, -, x2, -⟩ := hf.at_ hk
    have c1 := hf.cell1
    have HBR := hide (hf.nds x hx).1.1
    obtain ⟨N, hN⟩ : ∃ N, L.length = N := ⟨_, rfl⟩
    obtain ⟨n, hnn⟩ : ∃ n, x.refs.length = n := ⟨_, rfl⟩
    rw [hN] at c1 hkl
    rw [hnn] at x2 hrl
    have HNN := hide hnn
    have HR := hide hrl
    have HKT := hide hkt
    generalize isRf c.k = r at *
    generalize rr x.id = rb at *
    have q0 : decide ((p : Int) < 0) = false := decide_eq_false (by omega)
    have q1 : decide ((p : Int) < (N : Int)) = true := decide_eq_true (by omega)
    obtain ⟨i0, hi0, hz0, hz1, hz2⟩ := info_parts Try.infoI
    have HI := hide hi0
    have HZ0 := hide hz0
    have HZ1 := hide hz1
    have HZ2 := hide hz2
    clear hc ho hall hl hcap hn hcl hx hcp hk hkt hf hN hnn hi0 hz0 hz1 hz2 H
    go_enter Try.func25, Try.ntmps25
    go_wp2_with fail
    refine HA.out.mono ?_
    rintro e w1 ⟨rfl, rfl⟩
    go_wp2_with fail
    go_loopw [5, 22] (fun v c wr => ∃ k : Nat, k ≤ n ∧ c = .int .i64 k ∧ wr.ownsRow w.heap.size 3 1 v (hld r (x.refs.take k)).length (ints (hld r (x.refs.take k))) ∧ Grow w wr) (fun _ c _ => n - (Go.RowKit.intOf c).toNat)
    case atStart => exact ⟨0, Nat.zero_le _, rfl, by cases r <;> exact World.ownsRow_nil _ _ _ _, Chg.refl _ _⟩
    case round =>
      obtain ⟨k, hk, rfl, hown, hgw⟩ := hrel
      have y1 := Grow.cell hgw c1
      have y2 := Grow.cell hgw x2
      rcases Nat.eq_or_lt_of_le hk with hke | hlt
      · have hke' : n = k := hke.symm
        subst hke'
        have q2 : decide ((n : Int) < (n : Int)) = false := by simp
        rw [show x.refs.take n = x.refs by rw [← HNN.out, List.take_length]] at hown
        obtain ⟨a, cap, rfl⟩ := own_len hown
        have HO := hide hown
        clear hown hk hke
        go_wp2
        go_ret
        rw [HX.out]
        exact ⟨_, _, rfl, HO.out, hgw⟩
      · have q2 : decide ((k : Int) < (n : Int)) = true := decide_eq_true (by omega)
        have yk := Grow.cell hgw ((HBR.out.cell k).trans (ints_get _ _ (by rw [HNN.out]; exact hlt)))
        obtain ⟨u, hu⟩ : ∃ u, x.refs.getD k 0 = u := ⟨_, rfl⟩
        rw [hu] at yk
        have HST := hide (hu ▸ hld_step r x.refs k (by rw [HNN.out]; exact hlt))
        have HLT := hide hlt
        have hw : IntKind.i64.wrap ((k : Int) + 1) = ((k + 1 : Nat) : Int) := (IntWalk.i64_in _ (by have := HR.out; omega)).trans (by omega)
        have HLEN := hide (show (hld r (x.refs.take k)).length ≤ 30 by have := hld_len r (x.refs.take k); have := HR.out; simp at *; omega)
        obtain ⟨xs, hxs⟩ : ∃ xs, xs = hld r (x.refs.take k) := ⟨_, rfl⟩
        rw [← hxs] at hown HST HLEN
        have HO0 := hide hown
        have HGW := hide hgw
        clear hown hu hxs hgw hk
        by_cases hq0 : u = 0
        · as_aux_lemma =>
          subst hq0
          have q3 : ((0 : Int) != 0) = false := rfl
          have HS := hide (show hld r (x.refs.take (k + 1)) = xs by rw [HST.out]; simp)
          go_wp2
          go_roundw
          case rel => exact ⟨k + 1, HLT.out, rfl, by rw [HS.out]; exact own_grow HO0.out (Chg.refl _ _), HGW.out⟩
          case measure => have := HLT.out; simp [Go.RowKit.intOf]; omega
        · have q3 : (u != 0) = true := by simpa using hq0
          rcases Nat.eq_zero_or_pos k with rfl | hk0
          · have q4 : decide (((0 : Nat) : Int) > 0) = false := rfl
            cases r with
            | true =>
              as_aux_lemma =>
              have q5 : decide (c.k < 3) = false := HKT.out
              have HS := hide (show hld true (x.refs.take (0 + 1)) = xs by rw [HST.out]; simp)
              clear hq0 HST hlt
              go_wp2_with fail
              refine (HKI.out _ HGW.out).mono ?_
              rintro e w5 ⟨rfl, c5⟩
              go_wp2
              go_roundw
              case rel => exact ⟨0 + 1, HLT.out, rfl, by rw [HS.out]; exact own_grow HO0.out c5, (HGW.out.trans c5)⟩
              case measure => have := HLT.out; simp [Go.RowKit.intOf]; omega
            | false =>
              as_aux_lemma =>
              have q5 : decide (c.k < 3) = true := HKT.out
              have HS := hide (show hld false (x.refs.take (0 + 1)) = xs ++ [u] by rw [HST.out]; simp [hq0])
              clear hq0 HST hlt
              go_wp2_with fail
              refine (HKI.out _ HGW.out).mono ?_
              rintro e w5 ⟨rfl, c5⟩
              replace y1 := Grow.cell c5 y1
              replace y2 := Grow.cell c5 y2
              replace yk := Grow.cell c5 yk
              have HO := hide ((own_grow HO0.out c5).alloc (.cells [.int .i64 u].toArray 3))
              have HBK := hide (Blk.new w5 3 [.int .i64 u])
              have HC := hide (((HGW.out.trans c5)).alloc (.cells [.int .i64 u].toArray 3))
              have HBL := hide ((HGW.out.trans c5)).size
              go_wp2_with (at_builtin; refine wpList_append_own _ rfl _ _ 27 rfl w.heap.size 3 i0 (.int .i64 0) 1 8 Try.underlying27 HI.out HZ0.out HZ1.out HZ2.out rfl (by decide) _ _ _ rfl HO.out ⟨w5.heap.size, 0, none⟩ 1 1 [.int .i64 u] rfl rfl (fun j u hj => by rw [addr_add, Nat.zero_add, HBK.out.cell]; exact hj) (fun u hu => by simp at hu; subst hu; rfl) (by have := HLEN.out; unfold maxLen; omega) (by have := HLEN.out; omega) (by rw [World.size_alloc]; have := HBL.out; omega) ?_)
              intro v' w6 hown3 hgrow _
              have cc := Chg.grownOwn HC.out HO.out (Nat.le_refl _) hgrow
              have HO3 := hide hown3
              clear hgrow hown3 HC HO HBK y1 y2 yk q1 q2 q3
              go_wp2
              go_roundw
              case rel =>
                refine ⟨0 + 1, HLT.out, rfl, ?_, cc⟩
                rw [HS.out, List.length_append, List.length_singleton]
                have := HO3.out
                simpa [ints] using this
              case measure => have := HLT.out; simp [Go.RowKit.intOf]; omega
          · as_aux_lemma =>
            have q4 : decide ((k : Int) > 0) = true := decide_eq_true (by omega)
            have q5 : decide ((0 : Int) < (k : Int)) = true := decide_eq_true (by omega)
            have q6 : decide (0 < k) = true := decide_eq_true hk0
            have q7 : ¬ k = 0 := by omega
            have HS := hide (show hld r (x.refs.take (k + 1)) = xs ++ [u] by rw [HST.out]; simp [hq0, hk0])
            clear hk0 hq0 HST hlt
            have HO := hide ((own_grow HO0.out (Chg.refl _ _)).alloc (.cells [.int .i64 u].toArray 3))
            have HBK := hide (Blk.new wr 3 [.int .i64 u])
            have HC := hide ((HGW.out).alloc (.cells [.int .i64 u].toArray 3))
            have HBL := hide (HGW.out).size
            go_wp2_with (at_builtin; refine wpList_append_own _ rfl _ _ 27 rfl w.heap.size 3 i0 (.int .i64 0) 1 8 Try.underlying27 HI.out HZ0.out HZ1.out HZ2.out rfl (by decide) _ _ _ rfl HO.out ⟨wr.heap.size, 0, none⟩ 1 1 [.int .i64 u] rfl rfl (fun j u hj => by rw [addr_add, Nat.zero_add, HBK.out.cell]; exact hj) (fun u hu => by simp at hu; subst hu; rfl) (by have := HLEN.out; unfold maxLen; omega) (by have := HLEN.out; omega) (by rw [World.size_alloc]; have := HBL.out; omega) ?_)
            intro v' w6 hown3 hgrow _
            have cc := Chg.grownOwn HC.out HO.out (Nat.le_refl _) hgrow
            have HO3 := hide hown3
            clear hgrow hown3 HC HO HBK y1 y2 yk q1 q2 q3
            go_wp2
            go_roundw
            case rel =>
              refine ⟨k + 1, HLT.out, rfl, ?_, cc⟩
              rw [HS.out, List.length_append, List.length_singleton]
              have := HO3.out
              simpa [ints] using this
            case measure => have := HLT.out; simp [Go.RowKit.intOf]; omega
end
end Go.Proofs.Ytjofdamobnemcaa.L9

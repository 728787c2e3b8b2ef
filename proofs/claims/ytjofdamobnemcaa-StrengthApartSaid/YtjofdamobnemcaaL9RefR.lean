/- The plain graph: Aim, Holds, Ids, Words. Conditions: fewer than 1000000 nodes and classes; the classes can be. -/
import Derived.Test.YtjofdamobnemcaaL9Ref
namespace Go.Proofs.Ytjofdamobnemcaa.L9
open Go.ChangeShapes Go.WideShapes Go.ChangeAt Go.RowKit
open Go.Proofs.Ytjofdamobnemcaa.L5 (Cl clAt IsCls newX isRf rtB shX shR shD)
set_option linter.unusedVariables false
theorem kind_lt {K R D : Int} {f : Bool} (h : rtB K R D f = true) : decide (K < 3) = !isRf K := by
  cases hr : isRf K with
  | true =>
    unfold isRf at hr
    simp at hr ⊢
    omega
  | false =>
    unfold rtB at h
    rw [hr] at h
    simp only [Bool.false_eq_true, if_false] at h
    by_cases h1 : K = 1
    · subst h1; rfl
    · rw [if_neg h1] at h
      by_cases h2 : K = 2
      · subst h2; rfl
      · rw [if_neg h2] at h
        simp at h
section
variable {w w' : World} {z q : Nat} {T : Nat → Prop} {cv : Value} {L : List Nd} {x : Nd} {i : Int} {cs : List Cl} {a : Option Addr} {len cap : Nat}
set_option maxRecDepth 100000 in
set_option maxHeartbeats 1000000 in
theorem aim_r (h : RG w z T q (.slice a len cap) L) (hc : IsCls w a len cap cs) (ho : Lok cs L) (hall : cs.all Cl.rt = true) (hl : L.length < 1000000) (hcap : len < 1000000) :
    Calls Try.prog 26 #[ptr q, .int .i64 i] w fun e w' => e = .returned (.tuple #[.int .i64 (aimX cs L i).1, .int .i64 (aimX cs L i).2]) ∧ Grow w w' := by
  have H := hide h
  cases hn : nd L i with
  | none =>
    have HX := hide (show aimX cs L i = (0, 0) by unfold aimX; rw [hn])
    have HA := hide (at_no h hn hl)
    clear h hc ho hall hl hcap hn
    go_enter Try.func26, Try.ntmps26
    go_wp2_with fail
    refine HA.out.mono ?_
    rintro e w1 ⟨rfl, rfl⟩
    go_wp2
    go_returns
    rw [HX.out]
    exact ⟨rfl, Chg.refl _ _⟩
  | some x =>
    obtain ⟨k, hk, hkl⟩ := nd_at hn
    obtain ⟨hx, rfl⟩ := nd_some hn
    obtain ⟨c, hcl, hcp⟩ := (ho.2 x hx).cl
    have hkt := kind_lt (L5.clAt_rt hall hcl)
    have HX := hide (show aimX cs L x.id = if isRf c.k then (x.refs.getD 0 0, c.k) else (0, 0) by unfold aimX; rw [hn]; simp only [hcl, kd])
    have HA := hide (at_yes h ho.1 hk hl)
    have HKI := hide (fun (W : World) (g : Grow w W) => kind_r (h.grow g) (hc.chg g fun _ _ => id) hk hcl hl hcap)
    generalize isRf c.k = rr at *
    have HCP := hide hcp
    have HK := hide hk
    have q0 : decide ((k : Int) < 0) = false := decide_eq_false (by omega)
    clear h hc ho hall hcap hn hcl hx hcp hk
    cases rr with
    | false =>
      have q1 : decide (c.k < 3) = true := hkt
      clear hkt
      go_enter Try.func26, Try.ntmps26
      go_wp2_with fail
      refine HA.out.mono ?_
      rintro e w1 ⟨rfl, rfl⟩
      go_wp2_with fail
      refine (HKI.out _ (Chg.refl _ _)).mono ?_
      rintro e w2 ⟨rfl, c2⟩
      go_wp2
      go_returns
      rw [HX.out]
      exact ⟨rfl, c2⟩
    | true =>
      have q1 : decide (c.k < 3) = false := hkt
      clear hkt
      have hpos := HCP.out rfl
      obtain ⟨v, r, d, ow, hf⟩ := H.out
      obtain ⟨g, vc, rfl, -, -, -, -, -, x2, -⟩ := hf.at_ HK.out
      have hbr := (hf.nds x (List.mem_of_getElem? HK.out)).1.1
      have y0 : w.cell? ⟨r x.id, 0, none⟩ = some (.int .i64 (x.refs.getD 0 0)) := (hbr.cell 0).trans (ints_get _ _ hpos)
      have c1 := hf.cell1
      obtain ⟨n, hn⟩ : ∃ n, L.length = n := ⟨_, rfl⟩
      obtain ⟨m, hm⟩ : ∃ m, x.refs.length = m := ⟨_, rfl⟩
      obtain ⟨u, hu⟩ : ∃ u, x.refs.getD 0 0 = u := ⟨_, rfl⟩
      rw [hu] at HX y0
      rw [hn] at c1 hkl
      rw [hm] at x2 hpos
      have q2 : decide ((k : Int) < (n : Int)) = true := decide_eq_true (by omega)
      have q3 : decide ((0 : Int) < (m : Int)) = true := decide_eq_true (by omega)
      generalize r x.id = rb at *
      clear hf hbr hn hm hu hl
      go_enter Try.func26, Try.ntmps26
      go_wp2_with fail
      refine HA.out.mono ?_
      rintro e w1 ⟨rfl, rfl⟩
      go_wp2_with fail
      refine (HKI.out _ (Chg.refl _ _)).mono ?_
      rintro e w2 ⟨rfl, c2⟩
      replace c1 := Grow.cell c2 c1
      replace x2 := Grow.cell c2 x2
      replace y0 := Grow.cell c2 y0
      go_wp2_with fail
      refine wp_region_grow (by kernel_rfl) (by kernel_rfl) ?_
      repeat (
        with_reducible refine wpQuiet_step ?_
        intro K hK
        first
          | ((with_reducible refine quiet_offT rfl ?_ (hK _ ?_)); focus (refine ⟨_, rfl, ?_⟩; with_reducible rfl))
          | ((with_reducible refine quiet_offF rfl ?_ (hK _ ?_)); focus (refine ⟨_, rfl, ?_⟩; with_reducible rfl))
          | ((with_reducible refine quiet_offN rfl ?_ (hK _ ?_)); focus (exact rfl))
          | ((first | with_reducible refine quiet_free rfl ?_ | ((with_reducible refine quiet_on rfl ?_ ?_); focus (refine ⟨_, rfl, ?_⟩; with_reducible rfl)))
             apply Exists.intro
             refine ⟨fun Wq hW => ?_, hK _ ?_⟩
             focus (have q0 := Grow.cell hW c1; have q1 := Grow.cell hW x2; have q2 := Grow.cell hW y0; go_simp; first | done | with_reducible rfl | (go_at_call 44; (first | with_reducible exact grown_call hW (HKI.out _ (c2.trans hW)) | with_reducible exact grown_same hW (HKI.out _ (c2.trans hW))))))
        clear hK K
        simp only [Act.put, List.setIfInBounds_toArray, List.set_cons_zero, List.set_cons_succ])
      with_reducible refine wpQuiet_nil ?_
      intro w5 c5
      go_wp2
      go_returns
      rw [HX.out]
      exact ⟨rfl, c2.trans c5⟩
theorem wos_take {k : Nat} (hk : L[k]? = some x) : wos (L.take (k + 1)) = wos (L.take k) + x.wo := by
  unfold wos
  rw [List.take_add_one, hk, List.map_append, List.sum_append]
  simp
end
end Go.Proofs.Ytjofdamobnemcaa.L9

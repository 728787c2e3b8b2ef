/- The graph and the plain one, both at once; 'same' answers true. Conditions: fewer than 1000000 nodes and classes; the classes can be. -/
import Derived.Test.YtcinielgigdhmaaL9RefA
import Derived.Test.YtcinielgigdhmaaL9RefH
import Derived.Test.YtcinielgigdhmaaL9RefK
namespace Go.Proofs.Ytcinielgigdhmaa.L9
open Go.ChangeShapes Go.WideShapes Go.ChangeAt Go.RowKit
open Go.Proofs.Ytcinielgigdhmaa.L5 (Cl clAt IsCls newX isRf)
set_option linter.unusedVariables false
theorem blk_rd {W : World} {b n : Nat} {xs : List Int} (h : Blk W b 3 (ints xs)) (hn : xs.length = n) : L1.Rd W (some ⟨b, 0, none⟩) n xs :=
  ⟨hn, fun _ => ⟨_, rfl, fun i hi => by rw [addr_add, Nat.zero_add]; exact (h.cell i).trans (ints_get _ _ (by rw [hn]; exact hi))⟩⟩
theorem nil_rd (W : World) : L1.Rd W none 0 [] := ⟨rfl, fun h => absurd h (by omega)⟩
section
variable {w w' : World} {z p q : Nat} {S T S' T' : Nat → Prop} {cv : Value} {L L' : List Nd} {i : Int} {cs : List Cl} {a : Option Addr} {len cap : Nat}
/-- The same graph, twice. -/
def Bo (W : World) (z p q : Nat) (cv : Value) (cs : List Cl) (L : List Nd) : Prop := ∃ S T, GS W z S p cs L ∧ RG W z T q cv L ∧ ∀ k, S k → ¬ T k
theorem Bo.grow (h : Bo w z p q cv cs L) (g : Grow w w') : Bo w' z p q cv cs L := by
  obtain ⟨S, T, h1, h2, h3⟩ := h
  exact ⟨S, T, h1.grow g, h2.grow g, h3⟩
theorem Bo.two {W W3 W4 : World} {S3 T4 : Nat → Prop} (hg : GS W z S p cs L) (hr : RG W z T q cv L) (hd : ∀ k, S k → ¬ T k) (c3 : Chg S W W3) (h3 : GS W3 z S3 p cs L') (s3 : ∀ k, S3 k → S k ∨ W.heap.size ≤ k)
    (c4 : Chg T W3 W4) (h4 : RG W4 z T4 q cv L') (t4 : ∀ k, T4 k → T k ∨ W3.heap.size ≤ k) : Bo W4 z p q cv cs L' ∧ Chg (fun k => z ≤ k) W W4 := by
  have d1 : ∀ k, S3 k → ¬ T k := fun k hk ht => by
    rcases s3 k hk with h | h
    · exact hd k h ht
    · have := (hr.t ht).2; omega
  refine ⟨⟨S3, T4, h3.chg c4 (fun k hk => (hr.t hk).1) d1, h4, fun k hk ht => ?_⟩, (c3.mono fun k _ hk => (hg.s hk).1).step c4 fun k _ hk => (hr.t hk).1⟩
  rcases t4 k ht with h | h
  · exact d1 k hk h
  · have := (h3.s hk).2; omega
theorem hldX_len (ho : Lok cs L) : (hldX cs L i).length ≤ 1099511627776 := by
  unfold hldX
  cases hn : nd L i with
  | none => simp
  | some x =>
    have := hld_len (isRf (kd (clAt cs x.c))) x.refs
    have := (ho.2 x (nd_some hn).1).rl
    show (hld (isRf (kd (clAt cs x.c))) x.refs).length ≤ _
    omega
set_option maxRecDepth 100000 in
set_option maxHeartbeats 4000000 in
theorem same_g (hg : GS w z S p cs L) (hr : RG w z T q (.slice a len cap) L) (hc : IsCls w a len cap cs) (hall : cs.all Cl.rt = true) (hl : L.length < 1000000) (hcap : len < 1000000) (hi : In64 i) :
    Calls Try.prog 24 #[ptr p, ptr q, .int .i64 i] w fun e w' => e = .returned (.bool true) ∧ Grow w w' := by
  have HAIM := hide (fun (W : World) (g : Grow w W) => aim_gs (hg.grow g) hi)
  have HAIMR := hide (fun (W : World) (g : Grow w W) => aim_r (i := i) (hr.grow g) (hc.chg g fun _ _ => id) hg.lok hall hl hcap)
  have HHO := hide (fun (W : World) (g : Grow w W) => holds_gs (hg.grow g) hi)
  have HHOR := hide (fun (W : World) (g : Grow w W) => holds_r (i := i) (hr.grow g) (hc.chg g fun _ _ => id) hg.lok hall hl hcap)
  have HHL := hide (hldX_len (i := i) hg.lok)
  have HLOK := hide hg.lok
  have HLL := hide hl
  have HR := hide hr
  have HG := hide hg
  have HI := hide hi
  generalize hldX cs L i = hx at *
  obtain ⟨⟨at1, ak1⟩, hax⟩ : ∃ pr : Int × Int, aimX cs L i = pr := ⟨_, rfl⟩
  have HAX := hide hax
  clear hc hall hcap hax hg hr hi
  cases hn : nd L i with
  | none =>
    have HN := hide (node_no HG.out HI.out hn)
    have HAT := hide (fun (W : World) (g : Grow w W) => at_no (HR.out.grow g) hn hl)
    clear hn hl
    go_enter Try.func24, Try.ntmps24
    go_wp2_with fail
    refine HN.out.mono ?_
    rintro e w1 ⟨rfl, c1⟩
    have g1 := c1.alloc (.cells #[.int .i64 0, .int .i64 0, .slice none 0 0, .slice none 0 0, .bool false] 45)
    have hb := Blk.new w1 45 [.int .i64 0, .int .i64 0, .slice none 0 0, .slice none 0 0, .bool false]
    clear c1
    go_wp2_with fail
    generalize w1.alloc (.cells #[.int .i64 0, .int .i64 0, .slice none 0 0, .slice none 0 0, .bool false] 45) = w2 at *
    generalize w1.heap.size = t at *
    have g2 : Grow w2 w2 := Chg.refl _ _
    refine (HAT.out _ g1).mono ?_
    rintro e w2' ⟨rfl, rfl⟩
    go_wp2_with fail
    refine (HAIM.out _ g1).mono ?_
    rintro e w3 ⟨rfl, c3⟩
    rw [HAX.out]
    dsimp only
    replace g1 := g1.trans c3
    replace g2 := g2.trans c3
    replace hb := hb.chg c3 id
    clear c3
    go_wp2_with fail
    refine (HAIMR.out _ g1).mono ?_
    rintro e w4 ⟨rfl, c4⟩
    rw [HAX.out]
    dsimp only
    replace g1 := g1.trans c4
    replace g2 := g2.trans c4
    replace hb := hb.chg c4 id
    clear c4
    have q1 : (at1 != at1) = false := bne_self_eq_false _
    have q2 : (ak1 != ak1) = false := bne_self_eq_false _
    go_wp2_with fail
    refine (HHO.out _ g1).mono ?_
    rintro e w5 ⟨ha, hca, rfl, hrow, c5⟩
    replace g1 := g1.trans c5
    replace g2 := g2.trans c5
    replace hb := hb.chg c5 id
    have HROW := hide hrow
    clear c5 hrow
    go_wp2_with fail
    refine (HHOR.out _ g1).mono ?_
    rintro e w6 ⟨ha2, hca2, rfl, hrow2, c6⟩
    replace g1 := g1.trans c6
    replace g2 := g2.trans c6
    replace hb := hb.chg c6 id
    have HR1 := hide (own_rd (own_grow HROW.out c6))
    have HR2 := hide (own_rd hrow2)
    clear c6 hrow2 HROW
    go_wp2_with fail
    refine (L1.same_yes _ _ _ _ _ _ _ HR1.out HR2.out HHL.out).mono ?_
    rintro e w7 ⟨rfl, c7⟩
    replace g1 := g1.trans c7
    replace g2 := g2.trans c7
    replace hb := hb.chg c7 id
    clear c7 HR1 HR2
    go_wp2_with fail
    have b0 : w7.cell? ⟨t, 0, none⟩ = some (.int .i64 0) := hb.cell 0
    have b1 : w7.cell? ⟨t, 1, none⟩ = some (.int .i64 0) := hb.cell 1
    have b2 : w7.cell? ⟨t, 2, none⟩ = some (.slice none 0 0) := hb.cell 2
    have b3 : w7.cell? ⟨t, 3, none⟩ = some (.slice none 0 0) := hb.cell 3
    have b4 : w7.cell? ⟨t, 4, none⟩ = some (.bool false) := hb.cell 4
    have HSM := hide (fun (W : World) (g : Grow w7 W) => same_nd 0 0 false 0 0 0 0 (nil_rd W) (nil_rd W) (nil_rd W) (nil_rd W) (Nat.zero_le _) (Nat.zero_le _))
    clear hb q1 q2
    refine wp_region_grow (by kernel_rfl) (by kernel_rfl) ?_
    repeat (
      with_reducible refine wpQuiet_step ?_
      intro K hK
      first
        | ((with_reducible refine quiet_offT rfl ?_ (hK _ ?_)); focus (refine ⟨_, rfl, ?_⟩; with_reducible rfl))
        | ((with_reducible refine quiet_offF rfl ?_ (hK _ ?_)); focus (refine ⟨_, rfl, ?_⟩; with_reducible rfl))
        | ((with_reducible refine quiet_offN rfl ?_ (hK _ ?_)); focus (exact rfl))
        | ((first | with_reducible refine quiet_free rfl ?_ | ((with_reducible refine quiet_on rfl ?_ ?_); focus (refine ⟨_, rfl, ?_⟩; with_reducible rfl)))
           apply Exists.intro
           refine ⟨fun Wq hW => ?_, hK _ ?_⟩
           focus (have q0 := Grow.cell hW b0; have q1 := Grow.cell hW b1; have q2 := Grow.cell hW b2; have q3 := Grow.cell hW b3; have q4 := Grow.cell hW b4; go_simp; first | done | with_reducible rfl | (go_at_call 33; (first | with_reducible exact grown_call hW (HSM.out _ hW) | with_reducible exact grown_same hW (HSM.out _ hW)))))
      clear hK K
      simp only [Act.put, List.setIfInBounds_toArray, List.set_cons_zero, List.set_cons_succ])
    with_reducible refine wpQuiet_nil ?_
    intro w8 c8
    go_wp2
    go_ret
    exact ⟨rfl, g1.trans c8⟩
  | some x =>
    obtain ⟨k, hk, hkl⟩ := nd_at hn
    obtain ⟨hx', hxi⟩ := nd_some hn
    obtain ⟨xi, xc, xr, xd, xf⟩ := x
    dsimp only at hxi
    subst hxi
    obtain ⟨n1, h1⟩ : ∃ n1, xr.length = n1 := ⟨_, rfl⟩
    obtain ⟨m1, h2⟩ : ∃ m1, xd.length = m1 := ⟨_, rfl⟩
    have HN := hide (node_tn HG.out HI.out hn h1 h2)
    have HAT := hide (fun (W : World) (g : Grow w W) => at_yes (HR.out.grow g) HLOK.out.1 hk hl)
    obtain ⟨v, r, d, ow, hf⟩ := HR.out
    obtain ⟨gv, vc, rfl, -⟩ := hf.at_ hk
    have HF := hide hf
    have hbd : n1 ≤ 1000000 ∧ m1 ≤ 1000000 := by
      have h3 := (HLOK.out.2 _ hx').rl
      have h4 := (HLOK.out.2 _ hx').dl
      dsimp only at h3 h4
      omega
    have HBD := hide hbd
    have HK := hide (And.intro hk (And.intro h1 h2))
    obtain ⟨N, hN⟩ : ∃ N, L.length = N := ⟨_, rfl⟩
    have HNL := hide hN
    rw [hN] at hkl
    have q0 : decide ((k : Int) ≥ 0) = true := decide_eq_true (by omega)
    have q3 : decide ((k : Int) < 0) = false := decide_eq_false (by omega)
    have q4 : decide ((k : Int) < (N : Int)) = true := decide_eq_true (by omega)
    clear hn hl hk hx' hf h1 h2 hbd hN
    go_enter Try.func24, Try.ntmps24
    go_wp2_with fail
    refine HN.out.mono ?_
    rintro e w1 ⟨ar, car, ad, cad, rfl, c1, ta⟩
    have g1 := c1.alloc (.cells #[.int .i64 xi, .int .i64 xc, .slice ar n1 car, .slice ad m1 cad, .bool xf] 45)
    have HTN := hide ta
    have hb := ta.blk
    clear c1 ta
    go_wp2_with fail
    generalize w1.alloc (.cells #[.int .i64 xi, .int .i64 xc, .slice ar n1 car, .slice ad m1 cad, .bool xf] 45) = w2 at *
    generalize w1.heap.size = t at *
    have g2 : Grow w2 w2 := Chg.refl _ _
    refine (HAT.out _ g1).mono ?_
    rintro e w2' ⟨rfl, rfl⟩
    go_wp2_with fail
    refine (HAIM.out _ g1).mono ?_
    rintro e w3 ⟨rfl, c3⟩
    rw [HAX.out]
    dsimp only
    replace g1 := g1.trans c3
    replace g2 := g2.trans c3
    replace hb := hb.chg c3 id
    clear c3
    go_wp2_with fail
    refine (HAIMR.out _ g1).mono ?_
    rintro e w4 ⟨rfl, c4⟩
    rw [HAX.out]
    dsimp only
    replace g1 := g1.trans c4
    replace g2 := g2.trans c4
    replace hb := hb.chg c4 id
    clear c4
    have q1 : (at1 != at1) = false := bne_self_eq_false _
    have q2 : (ak1 != ak1) = false := bne_self_eq_false _
    go_wp2_with fail
    refine (HHO.out _ g1).mono ?_
    rintro e w5 ⟨ha, hca, rfl, hrow, c5⟩
    replace g1 := g1.trans c5
    replace g2 := g2.trans c5
    replace hb := hb.chg c5 id
    have HROW := hide hrow
    clear c5 hrow
    go_wp2_with fail
    refine (HHOR.out _ g1).mono ?_
    rintro e w6 ⟨ha2, hca2, rfl, hrow2, c6⟩
    replace g1 := g1.trans c6
    replace g2 := g2.trans c6
    replace hb := hb.chg c6 id
    have HR1 := hide (own_rd (own_grow HROW.out c6))
    have HR2 := hide (own_rd hrow2)
    clear c6 hrow2 HROW
    go_wp2_with fail
    refine (L1.same_yes _ _ _ _ _ _ _ HR1.out HR2.out HHL.out).mono ?_
    rintro e w7 ⟨rfl, c7⟩
    replace g1 := g1.trans c7
    replace g2 := g2.trans c7
    replace hb := hb.chg c7 id
    clear c7 HR1 HR2
    go_wp2_with fail
    have b0 : w7.cell? ⟨t, 0, none⟩ = some (.int .i64 xi) := hb.cell 0
    have b1 : w7.cell? ⟨t, 1, none⟩ = some (.int .i64 xc) := hb.cell 1
    have b2 : w7.cell? ⟨t, 2, none⟩ = some (.slice ar n1 car) := hb.cell 2
    have b3 : w7.cell? ⟨t, 3, none⟩ = some (.slice ad m1 cad) := hb.cell 3
    have b4 : w7.cell? ⟨t, 4, none⟩ = some (.bool xf) := hb.cell 4
    have ht := HTN.out.grow g2
    have hf := HF.out.chg g1 fun _ _ => id
    obtain ⟨gv', hg', -, -, -, x0, x1, x2, x3, x4⟩ := hf.at2 HK.out.1
    injection hg' with hg'
    injection hg' with hg'
    subst hg'
    have hnd := (hf.nds _ (List.mem_of_getElem? HK.out.1)).1
    dsimp only at x0 x1 x2 x3 x4 hnd
    rw [HK.out.2.1] at x2
    rw [HK.out.2.2] at x3
    have cq := hf.cell1
    rw [HNL.out] at cq
    have HSM := hide (fun (W : World) (g : Grow w7 W) => same_nd xi xc xf car cad n1 m1 (ht.grow g).rdR (ht.grow g).rdD (blk_rd (hnd.1.chg g id) HK.out.2.1) (blk_rd (hnd.2.chg g id) HK.out.2.2) HBD.out.1 HBD.out.2)
    clear hb q1 q2 ht hf hnd
    generalize r xi = rb at *
    generalize d xi = db at *
    refine wp_region_grow (by kernel_rfl) (by kernel_rfl) ?_
    repeat (
      with_reducible refine wpQuiet_step ?_
      intro K hK
      first
        | ((with_reducible refine quiet_offT rfl ?_ (hK _ ?_)); focus (refine ⟨_, rfl, ?_⟩; with_reducible rfl))
        | ((with_reducible refine quiet_offF rfl ?_ (hK _ ?_)); focus (refine ⟨_, rfl, ?_⟩; with_reducible rfl))
        | ((with_reducible refine quiet_offN rfl ?_ (hK _ ?_)); focus (exact rfl))
        | ((first | with_reducible refine quiet_free rfl ?_ | ((with_reducible refine quiet_on rfl ?_ ?_); focus (refine ⟨_, rfl, ?_⟩; with_reducible rfl)))
           apply Exists.intro
           refine ⟨fun Wq hW => ?_, hK _ ?_⟩
           focus (have q0 := Grow.cell hW b0; have q1 := Grow.cell hW b1; have q2 := Grow.cell hW b2; have q3 := Grow.cell hW b3; have q4 := Grow.cell hW b4; have q5 := Grow.cell hW cq; have q6 := Grow.cell hW x0; have q7 := Grow.cell hW x1; have q8 := Grow.cell hW x2; have q9 := Grow.cell hW x3; have q10 := Grow.cell hW x4; go_simp; first | done | with_reducible rfl | (go_at_call 33; (first | with_reducible exact grown_call hW (HSM.out _ hW) | with_reducible exact grown_same hW (HSM.out _ hW)))))
      clear hK K
      simp only [Act.put, List.setIfInBounds_toArray, List.set_cons_zero, List.set_cons_succ])
    with_reducible refine wpQuiet_nil ?_
    intro w8 c8
    go_wp2
    go_ret
    exact ⟨rfl, g1.trans c8⟩
end
end Go.Proofs.Ytcinielgigdhmaa.L9

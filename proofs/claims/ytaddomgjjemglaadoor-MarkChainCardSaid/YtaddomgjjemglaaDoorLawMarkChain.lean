/- For all arguments MarkChain answers true: along a chain all is marked from its beginning on. Conditions: the table of math/bits.TrailingZeros64 is as the program's text lays it, which the card ties. -/
import Derived.Test.YtaddomgjjemglaaDoorL14F
import Derived.Test.YtaddomgjjemglaaDoorL14A
import Derived.Test.YtaddomgjjemglaaDoorCards
import Derived.Test.YtaddomgjjemglaaDoorTie
import Derived.SevenTiedAt
import Derived.Stop.Joined
import Derived.ShutString
namespace Go.Proofs.YtaddomgjjemglaaDoor.markChain
open Go.ChangeShapes Go.WideShapes Go.ChangeAt Go.RowKit Go.Proofs.YtaddomgjjemglaaDoor.L14
open Go.Proofs.YtaddomgjjemglaaDoor.L3 (Ms Tab ms_set ms_len ms_has ms_next ms_count ms_new clamp ptr exB exB_in exB_out exB_nat setI cnt cnt_le cnt_congr cnt_on cnt_none upd upd_at upd_ne hasI has_is count_is nx nx_cases tab_of_laid)
set_option linter.unusedVariables false

/-- What a place of the chain leads to. -/
def chE (d : Bool) (j : Nat) : List Int := [if d then (j : Int) - 1 else (j : Int) + 1]
theorem cnt_yes (n : Nat) : cnt (fun _ => true) n = n := by
  induction n with
  | zero => rfl
  | succ n ih => simp only [cnt]; rw [ih]; rfl
theorem ch_up {N k : Nat} {S : Nat → Bool} (hk : k < N) (h : ∀ j, S j = true ↔ Rch N (chE false) [(k : Int)] j) : cnt S N = N - k ∧ S k = true := by
  have h1 : ∀ i, k + i < N → Rch N (chE false) [(k : Int)] (k + i) := fun i => by
    induction i with
    | zero => exact fun h => .st (by simp) h
    | succ i ih => exact fun h => .go (ih (by omega)) (by simp [chE]; omega) h
  have h2 : ∀ j, Rch N (chE false) [(k : Int)] j → k ≤ j ∧ j < N := fun j hj => by
    induction hj with
    | st h1 h2 => have := List.mem_singleton.1 h1; omega
    | go _ h1 h2 ih => have := List.mem_singleton.1 h1; simp at this; omega
  have e : S = fun j => (fun _ => true : Nat → Bool) j && decide (k ≤ j ∧ j < N) := by
    funext j
    simp only [Bool.true_and]
    cases hs : S j with
    | true => exact (decide_eq_true (h2 j ((h j).1 hs))).symm
    | false =>
      refine (decide_eq_false fun hj => ?_).symm
      have := h1 (j - k) (by omega)
      rw [show k + (j - k) = j by omega] at this
      rw [(h j).2 this] at hs
      cases hs
  refine ⟨?_, (h k).2 (.st (by simp) hk)⟩
  rw [e, L3.cnt_range, cnt_yes, cnt_yes]
  omega
theorem ch_down {N k : Nat} {S : Nat → Bool} (hk : k < N) (h : ∀ j, S j = true ↔ Rch N (chE true) [(k : Int)] j) : cnt S N = k + 1 ∧ S k = true := by
  have h1 : ∀ i, i ≤ k → Rch N (chE true) [(k : Int)] (k - i) := fun i => by
    induction i with
    | zero => exact fun h => .st (by simp) hk
    | succ i ih => exact fun h => .go (ih (by omega)) (by simp [chE]; omega) (by omega)
  have h2 : ∀ j, Rch N (chE true) [(k : Int)] j → j ≤ k := fun j hj => by
    induction hj with
    | st h1 h2 => have := List.mem_singleton.1 h1; omega
    | go _ h1 h2 ih => have := List.mem_singleton.1 h1; simp at this; omega
  have e : S = fun j => (fun _ => true : Nat → Bool) j && decide (0 ≤ j ∧ j < k + 1) := by
    funext j
    simp only [Bool.true_and]
    cases hs : S j with
    | true => exact (decide_eq_true ⟨Nat.zero_le _, by have := h2 j ((h j).1 hs); omega⟩).symm
    | false =>
      refine (decide_eq_false fun hj => ?_).symm
      have := h1 (k - j) (by omega)
      rw [show k - (k - j) = j by omega] at this
      rw [(h j).2 this] at hs
      cases hs
  refine ⟨?_, (h k).2 (.st (by simp) hk)⟩
  rw [e, L3.cnt_range, cnt_yes, cnt_yes]
  omega
section
variable {w W : World} {b j N : Nat} {d : Bool}
theorem cls_nums (hj : j < 1000000) : IntKind.i64.wrap ((j : Int) - 1) = (j : Int) - 1 ∧ wrap64 ((j : Int) - 1) = (j : Int) - 1 ∧ IntKind.i64.wrap ((j : Int) + 1) = (j : Int) + 1 ∧ wrap64 ((j : Int) + 1) = (j : Int) + 1 :=
  ⟨IntWalk.i64_in _ (by omega), wrap64_id _ (by omega), IntWalk.i64_in _ (by omega), wrap64_id _ (by omega)⟩
theorem cls_any (hb : W.cell? ⟨b, 0, none⟩ = some (.bool d)) (hj : j < 1000000) :
    Calls Tryd.prog 21 #[.int .i64 j, ptr b] W fun e W' => ∃ a c, e = .returned (.slice a (chE d j).length c) ∧ L1.Rd W' a (chE d j).length (chE d j) ∧ (0 < (chE d j).length → ∀ x : Addr, a = some x → x.block < w.heap.size ∨ W.heap.size ≤ x.block) ∧ Grow W W' := by
  obtain ⟨hw1, hw2, hw3, hw4⟩ := cls_nums hj
  clear hj
  cases d with
  | false =>
    go_enter Tryd.func21, Tryd.ntmps21
    go_wp2
    go_returns
    exact ⟨_, _, rfl, rd_one W ((j : Int) + 1), fun _ x e => by injection e with e; subst e; exact .inr (Nat.le_refl _), Grow.box _ _⟩
  | true =>
    go_enter Tryd.func21, Tryd.ntmps21
    go_wp2
    go_returns
    exact ⟨_, _, rfl, rd_one W ((j : Int) - 1), fun _ x e => by injection e with e; subst e; exact .inr (Nat.le_refl _), Grow.box _ _⟩
end
theorem ch_nums {A F R N k : Nat} (hN : 1 + A = N) (hk : F % N = k) (h1 : A ≤ 255) (h2 : F ≤ 255) (h3 : R ≤ 255) : IntKind.i64.wrap (A : Int) = (A : Int) ∧ IntKind.i64.wrap (F : Int) = (F : Int) ∧ IntKind.i64.wrap (R : Int) = (R : Int) ∧ IntKind.i64.wrap (1 + (A : Int)) = (N : Int) ∧ wrap64 (1 + (A : Int)) = (N : Int) ∧
    (F : Int) % (N : Int) = (k : Int) ∧ Int.tmod (F : Int) (N : Int) = (k : Int) ∧ ((N : Int) == 0) = false ∧ ¬ (N : Int) = 0 ∧ IntKind.i64.wrap (k : Int) = (k : Int) ∧ IntKind.i64.wrap ((N : Int) - (k : Int)) = ((N - k : Nat) : Int) ∧ IntKind.i64.wrap ((k : Int) + 1) = ((k + 1 : Nat) : Int) := by
  have hkN : k < N := by rw [← hk]; exact Nat.mod_lt _ (by omega)
  refine ⟨IntWalk.i64_in _ (by omega), IntWalk.i64_in _ (by omega), IntWalk.i64_in _ (by omega), (IntWalk.i64_in _ (by omega)).trans (by omega), (wrap64_id _ (by omega)).trans (by omega), by rw [← hk]; simp, (Int.tmod_eq_emod_of_nonneg (by omega)).trans (by rw [← hk]; simp), by simp; omega, by omega, IntWalk.i64_in _ (by omega), ?_, ?_⟩
  · exact (IntWalk.i64_in _ (by omega)).trans (by omega)
  · exact (IntWalk.i64_in _ (by omega)).trans (by omega)
set_option maxRecDepth 100000 in
set_option maxHeartbeats 2000000 in
theorem walk (many fr : Int) (d : Bool) (room : Int) (w : World) (ht : Tab w) (w0 : (Lit.int .u8 many).wf = true) (w1 : (Lit.int .u8 fr).wf = true) (w3 : (Lit.int .u8 room).wf = true) :
    Calls Tryd.prog 7 #[.int .u8 many, .int .u8 fr, .bool d, .int .u8 room] w fun e w' => e = .returned (.bool true) ∧ Below w.heap.size w w' := by
  have b0 := bounds_u8 w0
  have b1 := bounds_u8 w1
  have b3 := bounds_u8 w3
  obtain ⟨A, rfl⟩ := Int.eq_ofNat_of_zero_le b0.1
  obtain ⟨F, rfl⟩ := Int.eq_ofNat_of_zero_le b1.1
  obtain ⟨R, rfl⟩ := Int.eq_ofNat_of_zero_le b3.1
  obtain ⟨N, hN⟩ : ∃ N : Nat, 1 + A = N := ⟨_, rfl⟩
  obtain ⟨k, hk⟩ : ∃ k : Nat, F % N = k := ⟨_, rfl⟩
  have hkN : k < N := by rw [← hk]; exact Nat.mod_lt _ (by omega)
  obtain ⟨r, hr⟩ : ∃ r : Nat, max (R : Int) 1 = (r : Int) := ⟨(max (R : Int) 1).toNat, by omega⟩
  obtain ⟨S, hS⟩ := ex_rch N (chE d) [(k : Int)]
  have HS := hide hS
  have HR := hide hr
  have HN := hide (show clamp (N : Int) = N ∧ N ≤ 256 from ⟨by unfold clamp; omega, by omega⟩)
  have HK := hide hkN
  have HJ := hide (show ∀ j, j < N → j < 1000000 from fun j hj => by omega)
  have HT := hide ht
  have hb := (Blk.new w 4 [.bool d]).cell 0
  have HB := hide (And.intro hb (Grow.box w (.cells [.bool d].toArray 4)))
  have hA : A ≤ 255 := by omega
  have hF : F ≤ 255 := by omega
  have hR : R ≤ 255 := by omega
  clear ht w0 w1 w3 hkN hS hr hb b0 b1 b3
  obtain ⟨hw1, hw2, hw3, hw4, hw4', hm1, hm2, q0, q0', hw5, hw6, hw7⟩ := ch_nums (R := R) hN hk hA hF hR
  clear hN hk hA hF hR
  go_enter Tryd.func7, Tryd.ntmps7
  go_wp2_with fail
  generalize w.alloc (.cells #[.bool d] 4) = w1 at *
  generalize w.heap.size = b at *
  refine (awake_any (HT.out.chg HB.out.2 id)).mono ?_
  rintro e w2 ⟨rfl, c2⟩
  have HC2 := hide (HB.out.2.trans c2)
  have HB2 := hide (c2.cell HB.out.1)
  clear c2 HB
  go_wp2_with fail
  have gB := Grow.box w2 (.cells #[.int .i64 (k : Int)] 3)
  have HC3 := hide (HC2.out.trans gB)
  have HB3 := hide (gB.cell HB2.out)
  have HRD := hide (rd_one w2 (k : Int))
  clear gB HB2
  generalize w2.alloc (.cells #[.int .i64 (k : Int)] 3) = w3 at *
  refine (reach_fun (r := r) (E := chE d) (fid := 21) (lb := #[ptr b]) (enters_of Tryd.func21 (by kernel_rfl) rfl) (fun W j hj g => cls_any (w := w3) (g.cell HB3.out) (HJ.out j hj)) (fun _ _ => by simp [chE]) (HT.out.chg HC3.out id) HRD.out (by decide) HS.out HN.out.1 HR.out).mono ?_
  rintro e w4 ⟨p, g, rn, rfl, hm, -, c4⟩
  have HM := hide hm
  have HC4 := hide (HC3.out.trans c4)
  have hbd := c4.cell HB3.out
  clear hm c4
  cases d with
  | false =>
    have hch := ch_up HK.out HS.out
    have H1 := hide (show ((cnt S N : Nat) : Int) = ((N - k : Nat) : Int) by rw [hch.1])
    have H2 := hide (show hasI S N (k : Int) = true by unfold hasI; rw [exB_in HK.out]; exact hch.2)
    clear hch
    generalize N - k = N2 at *
    go_wp2_with fail
    refine (count_is HM.out H1.out).mono ?_
    rintro e w5 ⟨rfl, c5⟩
    have HM5 := hide (HM.out.grow c5)
    have HC5 := hide (HC4.out.trans c5)
    clear c5 hbd
    go_wp2_with fail
    refine (has_is HM5.out H2.out).mono ?_
    rintro e w6 ⟨rfl, c6⟩
    go_wp2
    go_returns
    exact ⟨rfl, (HC5.out.trans c6).under⟩
  | true =>
    have hch := ch_down HK.out HS.out
    have H1 := hide (show ((cnt S N : Nat) : Int) = ((k + 1 : Nat) : Int) by rw [hch.1])
    have H2 := hide (show hasI S N (k : Int) = true by unfold hasI; rw [exB_in HK.out]; exact hch.2)
    clear hch
    generalize k + 1 = N2 at *
    go_wp2_with fail
    refine (count_is HM.out H1.out).mono ?_
    rintro e w5 ⟨rfl, c5⟩
    have HM5 := hide (HM.out.grow c5)
    have HC5 := hide (HC4.out.trans c5)
    clear c5 hbd
    go_wp2_with fail
    refine (has_is HM5.out H2.out).mono ?_
    rintro e w6 ⟨rfl, c6⟩
    go_wp2
    go_returns
    exact ⟨rfl, (HC5.out.trans c6).under⟩

theorem own : ownKnob Tryd.prog.godebug = none := by kernel_rfl
theorem laidOut : laidOutB Tryd.prog = true := by kernel_rfl
theorem door_met (os : Os) (args : Array Value) : laidMetH Tryd.prog Rows.markChainRow.laid ((World.doorLaid Tryd.prog 400 os).forCall (fun _ _ => 0) ⟨#[], args, []⟩).memory :=
  laidMetH_of_parts3 (fuel := 8) (laidMet_of_run' 8 (by kernel_rfl) (by kernel_rfl)) (by kernel_rfl) (by kernel_rfl)

set_option maxRecDepth 100000 in
theorem lifted (os : Os) (started : os.Started) (H : Type) (enc : TypeId × Value → H) :
    ReturnsInHanded {} Tryd.checked os 7 .any (fun w args => (Rows.markChainSpec.pre enc Tryd.prog Tryd.f7 [] false w args ∧ laidMetH Tryd.prog Rows.markChainRow.laid w) ∧ sizedMet enc Tryd.prog Tryd.f7 (OpenSpec.ofChange Rows.markChainSpec) false w args) (Rows.markChainSpec.post enc Tryd.prog Tryd.f7 false true false false) := by
  refine returnsInHanded_of_change_and (C := Tryd.checked) (X := fun w _ => laidMetH Tryd.prog Rows.markChainRow.laid w) (fun _ _ _ hh h => h.of_heap hh) own started (by kernel_rfl) Tryd.func7
    (ChangeSpec.witness_shaped (enc := enc) (C := Tryd.checked) (os := os) (X := fun w _ => laidMetH Tryd.prog Rows.markChainRow.laid w) false (World.doorLaid Tryd.prog 400 os) #[.int .u8 0, .int .u8 0, .bool false, .int .u8 0] 8 rfl (World.shaped_of_RefB (by kernel_rfl) (by kernel_rfl)) (by kernel_rfl) (by kernel_rfl) (by kernel_rfl) (door_met os _)) ?_
  intro W base args ds gs before hval0 hW _ _ hL _
  have hval : ∀ (j : Nat) t v, Tryd.f7.params[j]? = some t → args[j]? = some v → Value.okWide Tryd.prog W .any base t v := hval0
  have hW' := hW
  obtain ⟨p, q, hA0, hV, rfl, hfz, hnd⟩ := hW
  have hA : DataW.TrodAll enc Tryd.prog W 0 (fun _ => true) true Tryd.f7.params.toList args.toList ds p := hA0
  rw [Tryd.params7] at hA hval
  obtain ⟨v0, vs0, d0, ds0, p0, q0, hargs, rfl, rfl, h0, r0⟩ := trodAll_cons hA
  obtain ⟨v1, vs1, d1, ds1, p1, q1, rfl, rfl, rfl, h1, r1⟩ := trodAll_cons r0
  obtain ⟨v2, vs2, d2, ds2, p2, q2, rfl, rfl, rfl, h2, r2⟩ := trodAll_cons r1
  obtain ⟨v3, vs3, d3, ds3, p3, q3, rfl, rfl, rfl, h3, r3⟩ := trodAll_cons r2
  obtain ⟨rfl, rfl, rfl⟩ := trodAll_nil r3
  obtain rfl : args = #[v0, v1, v2, v3] := by cases args; simp_all
  obtain ⟨rfl, rfl⟩ := trodVars_none hV
  obtain ⟨a0, rfl, rfl, rfl, w0⟩ := open_int Tryd.underlying5 (hval 0 5 v0 rfl rfl) h0
  obtain ⟨a1, rfl, rfl, rfl, w1⟩ := open_int Tryd.underlying5 (hval 1 5 v1 rfl rfl) h1
  obtain ⟨a2, rfl, rfl, rfl⟩ := open_bool Tryd.underlying4 (hval 2 4 v2 rfl rfl) h2
  obtain ⟨a3, rfl, rfl, rfl, w3⟩ := open_int Tryd.underlying5 (hval 3 5 v3 rfl rfl) h3
  clear hA0 hval0
  refine (walk a0 a1 a2 a3 W (tab_of_laid hL) w0 w1 w3).mono fun e W' ⟨he, bel⟩ => ?_
  subst he
  exact ⟨_, rfl, _, _, _, [], _, [], hW', trodAll_mk1 (shut_bool Tryd.underlying4 _), (trodAll_cons_mk (shut_int Tryd.underlying5 w0) (trodAll_cons_mk (shut_int Tryd.underlying5 w1) (trodAll_cons_mk (shut_bool Tryd.underlying4 _) (trodAll_cons_mk (shut_int Tryd.underlying5 w3) trodAll_mk0)))), rfl, bel.frame _, fun h => by cases h⟩

theorem over : Rows.markChainRow.holds Tryd.pinned (OpenSpec.ofChange Rows.markChainSpec) :=
  OpenClaim.holds_of_wide 7 Tryd.f7 rfl rfl rfl rfl rfl rfl rfl ⟨rfl, rfl, rfl, rfl, rfl⟩ rfl rfl rfl rfl rfl (by kernel_rfl) Tryd.func7 (by kernel_rfl)
    (of_decide_eq_true (by kernel_rfl)) (by unfold Func.isWrapper; first | (rw [if_pos (by decide +kernel)]; kernel_rfl) | (rw [if_neg (by decide +kernel)]; exact ⟨rfl, rfl⟩))
    (fun os started H enc _ => lifted os started H enc)

/-- The statement. -/
theorem proved : Rows.MarkChainCardSaid :=
  Claim7.holds_tied_plain_at .later [] [.data] true Rows.markChainCard.stood.harness false
    over (fun _ h => by cases h) (by kernel_rfl) (fun _ h => by cases h) markChain_row_tie rfl ⟨rfl, rfl⟩ (by kernel_rfl) rfl
    (fun f fn hf hfn => by
      obtain rfl : f = 7 := Option.some.inj ((show Tryd.prog.funcNamed "gleaning/gleaninglaw14.MarkChain" = some 7 by kernel_rfl).symm.trans hf) |>.symm
      obtain rfl : fn = Tryd.f7 := (Option.some.inj (Tryd.func7.symm.trans hfn)).symm
      exact ⟨by kernel_rfl, fun j t ht => by
        rw [Tryd.params7] at ht
        have hm : t ∈ [5, 5, 4, 5] := by simpa using Array.mem_of_getElem? ht
        have hall : ([5, 5, 4, 5].all fun u => !Tryd.prog.wantsStandIn u) = true := by kernel_rfl
        exact (show Tryd.prog.wantsStandIn t = false by simpa using List.all_eq_true.1 hall t hm)⟩)
    (by kernel_rfl)
#print axioms proved
end Go.Proofs.YtaddomgjjemglaaDoor.markChain


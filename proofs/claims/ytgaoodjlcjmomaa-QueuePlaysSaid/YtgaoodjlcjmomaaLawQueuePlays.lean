/- For all lists of calls QueuePlays answers true: whatever is put, polled and renamed, each answer is the document's, and so are all queues. Conditions: none. -/
import Derived.Test.YtgaoodjlcjmomaaL12Pl
import Derived.ShutString
namespace Go.Proofs.Ytgaoodjlcjmomaa.queuePlays
open Go.ChangeShapes Go.WideShapes Go.ChangeAt Go.RowKit Go.Proofs.Ytgaoodjlcjmomaa.L12
set_option linter.unusedVariables false
section
variable {a : Option Addr} {len cap : Nat} {rows : List (List Value)} {w : World}
set_option maxHeartbeats 2000000 in
set_option maxRecDepth 100000 in
theorem walk_long (hl : 200 < len) :
    Calls Try.prog 3 #[.slice a len cap] w fun e w' => e = .returned (.bool true) ∧ Below w.heap.size w w' := by
  have q1 : decide ((len : Int) > 200) = true := by simp; omega
  clear hl
  go_enter Try.func3, Try.ntmps3
  go_wp2_with fail
  refine (awake_any _).mono ?_
  rintro e w1 ⟨rfl, g1⟩
  have HG := hide g1
  clear g1
  go_wp2_with fail
  refine (awake_any _).mono ?_
  rintro e w2 ⟨rfl, g2⟩
  have HG2 := hide (HG.out.trans g2)
  clear g2
  go_wp2
  go_ret
  exact ⟨rfl, HG2.out.below (fun _ _ h => h) (Nat.le_refl _)⟩
set_option maxHeartbeats 8000000 in
set_option maxRecDepth 100000 in
theorem walk_main (hr : IsOps w a len cap rows) (hl : len ≤ 200) :
    Calls Try.prog 3 #[.slice a len cap] w fun e w' => e = .returned (.bool true) ∧ Below w.heap.size w w' := by
  have q1 : decide ((len : Int) > 200) = false := by simp; omega
  have HR := hide hr
  have HL := hide hl
  clear hr hl
  go_enter Try.func3, Try.ntmps3
  go_wp2_with fail
  refine (awake_any _).mono ?_
  rintro e w1 ⟨rfl, g1⟩
  have hz := new_set w1
  have hrn := fs_new (w1.alloc (.cells setV 29)) 32
  have e1 : (w1.alloc (.cells setV 29)).heap.size = w1.heap.size + 1 := by simp
  rw [e1] at hrn
  have low : ∀ {W : World} {g : Nat} {t : TypeId} {T : Nat → Prop} {R : Nat → List Int}, FS W g g t T R → w1.heap.size ≤ g → FS W w1.heap.size g t T R := fun ⟨v, h⟩ hg => ⟨v, h.blk, ⟨fun i hi => (h.ls.ql i hi).lower hg, h.ls.ap⟩, h.sg, h.sq, fun k hk => ⟨Nat.le_trans hg (h.s k hk).1, (h.s k hk).2⟩⟩
  have H0 := hide (hz.grow (Grow.box _ (.cells nil5 32)))
  have HR0 := hide (show RS ((w1.alloc (.cells setV 29)).alloc (.cells nil5 32)) w1.heap.size (w1.heap.size + 1) (· = w1.heap.size + 1) noQ [] from by
    show FS _ _ _ _ _ _
    rw [show upd noQ 4 [] = noQ from upd_self noQ 4]
    exact low hrn (by omega))
  have G0 := hide ((g1.trans (Grow.box w1 (.cells setV 29))).alloc (.cells nil5 32))
  have S0 := hide g1.size
  clear g1 hz hrn e1 low
  go_wp2_with fail
  go_loopw [34] (fun c wr => ∃ (i : Nat) (S T : Nat → Prop) (Q : Nat → List Int) (E : List Int), i ≤ len ∧ c = .int .i64 i ∧ (QS wr w1.heap.size S w1.heap.size Q E ∧ RS wr w1.heap.size (w1.heap.size + 1) T Q E ∧ Apart S T) ∧ (Few Q E i ∧ ∀ x ∈ E, 1 ≤ x ∧ x ≤ 1000 + 100 * i) ∧ Grow w wr) (fun c _ => len - (Go.RowKit.intOf c).toNat)
  case atStart => exact ⟨0, _, _, _, _, Nat.zero_le _, rfl, ⟨H0.out, HR0.out, fun k h1 h2 => by omega⟩, ⟨few_new, fun x hx => (by cases hx)⟩, G0.out⟩
  case round =>
    clear H0 HR0 G0
    obtain ⟨i, S, T, Q, E, hi, rfl, ⟨hq, hr, hap⟩, ⟨hf, he⟩, hg⟩ := hrel
    rcases Nat.eq_or_lt_of_le hi with rfl | hlt
    · have q1 : decide ((i : Int) < i) = false := by simp
      have HG := hide hg
      clear hq hr hap hf he hg hi
      go_wp2
      go_ret
      exact ⟨rfl, HG.out.below (fun _ _ h => h) (Nat.le_refl _)⟩
    · obtain ⟨b, off, K, G, Y, rfl, ⟨k0, k1, k2⟩, wK, wG, wY⟩ := (HR.out.grow hg).one hlt
      have q1 : (i : Int) < len := by omega
      have gB := Grow.box wr (.cells #[.int .i64 K, .int .i64 G, .int .i64 Y] 34)
      have HOB := hide (Blk.new wr 34 [.int .i64 K, .int .i64 G, .int .i64 Y])
      have HQ := hide (hq.grow gB)
      have HRF := hide (hr.grow gB)
      have HAP := hide hap
      have HSL := hide (show ∀ k, S k → k < wr.heap.size from fun k hk => (hq.s hk).2)
      have HTL := hide (show ∀ k, T k → k < wr.heap.size from fun k hk => (hr.s hk).2)
      have HF := hide hf
      have HE := hide he
      have HG := hide (hg.trans gB)
      have HI := hide hlt
      have HFB := hide (hf.b (by have := HL.out; omega))
      have HYD := hide (hd_bd Y)
      have d3 : IntKind.i64.wrap ((i : Int) + 1) = ((i + 1 : Nat) : Int) := (w64 (by have := HL.out; omega)).trans (by omega)
      clear hq hr hap hf he hg hi hlt gB
      by_cases hK1 : K = 1
      · subst hK1
        go_wp2_with fail
        generalize (wr.alloc (.cells #[.int .i64 1, .int .i64 G, .int .i64 Y] 34)) = wo at *
        generalize wr.heap.size = ob at *
        have c1 : wo.cell? ⟨ob, 1, none⟩ = some (.int .i64 G) := HOB.out.cell 1
        have c2 : wo.cell? ⟨ob, 2, none⟩ = some (.int .i64 Y) := HOB.out.cell 2
        have hoS : ¬ S ob := fun h => Nat.lt_irrefl _ (HSL.out _ h)
        have hoT : ¬ T ob := fun h => Nat.lt_irrefl _ (HTL.out _ h)
        clear k0 k1 k2
        have gd : Grow wo wo.drew := (Chg.refl _ _).drew
        have HQD := hide (HQ.out.grow gd)
        have HPUT := hide (put_any HQD.out (hd_in Y) G HFB.out.1 HFB.out.2)
        have HK1 := hide (fun (W : World) (c : Chg S wo.drew W) => (⟨c.cell (gd.cell c1) hoS, c.cell (gd.cell c2) hoS⟩ : W.cell? ⟨ob, 1, none⟩ = some (.int .i64 G) ∧ W.cell? ⟨ob, 2, none⟩ = some (.int .i64 Y)))
        go_region_held3 (fun W => W.cell? ⟨ob, 1, none⟩ = some (.int .i64 G) ∧ W.cell? ⟨ob, 2, none⟩ = some (.int .i64 Y)) (first | assumption | exact HK1.out _ c3 | exact ⟨c1, c2⟩ | go_keep) (first | (go_at_call 12; refine (held_any Y _).mono ?_; rintro e wh ⟨rfl, rfl⟩) | (go_at_call 11; refine HPUT.out.mono ?_; rintro e w3 ⟨rfl, c3, S3, h3, s3⟩))
        have HRD : Hid (RS w3 w1.heap.size (w1.heap.size + 1) T Q E) := hide (FS.chg (FS.grow HRF.out gd) c3 HAP.out.symm)
        have HAP3 := hide (HAP.out.more s3 fun k hk => Nat.lt_trans (HTL.out k hk) (show ob < wo.heap.size from HOB.out.lt))
        have HQ3 := hide h3
        have HG3 := hide (HQD.out.step (HG.out.trans gd) S0.out c3)
        have k1 := (HK1.out _ c3).1
        have k2 := (HK1.out _ c3).2
        clear h3 c3 s3 c1 c2 HPUT HK1 gd HQD
        go_wp2_with fail
        have gd : Grow w3 w3.drew := (Chg.refl _ _).drew
        have HPUT := hide (rput_any (x := hd Y) (FS.grow HRD.out gd) G HFB.out.1 HFB.out.2)
        have HK1 := hide (fun (W : World) (c : Chg T w3.drew W) => (⟨c.cell (gd.cell k1) hoT, c.cell (gd.cell k2) hoT⟩ : W.cell? ⟨ob, 1, none⟩ = some (.int .i64 G) ∧ W.cell? ⟨ob, 2, none⟩ = some (.int .i64 Y)))
        go_region_held3 (fun W => W.cell? ⟨ob, 1, none⟩ = some (.int .i64 G) ∧ W.cell? ⟨ob, 2, none⟩ = some (.int .i64 Y)) (first | assumption | exact HK1.out _ c5 | exact ⟨k1, k2⟩ | go_keep) (first | (go_at_call 12; refine (held_any Y _).mono ?_; rintro e wh ⟨rfl, rfl⟩) | (go_at_call 13; refine HPUT.out.mono ?_; rintro e wx ⟨rfl, c5, T5, h5, t5⟩))
        have HQ5 := hide ((HQ3.out.grow gd).chg c5 HAP3.out)
        have HR5 := hide h5
        have HAP5 := hide ((HAP3.out.symm.more t5 fun k hk => (HQ3.out.s hk).2).symm)
        have HF5 := hide (few_put HF.out G (hd Y))
        have HE5 := hide (show ∀ x ∈ puE E G (hd Y), 1 ≤ x ∧ x ≤ 1000 + 100 * ((i + 1 : Nat) : Int) from pu_all (fun x hx => by have := HE.out x hx; omega) (by have := HYD.out; omega))
        have HG5 := hide (show Grow w wx from (HG3.out.trans gd).step c5 fun k hk e => by have := (FS.s HRD.out e).1; have := S0.out; omega)
        have HC5 := hide (HK1.out _ c5).1
        clear h5 c5 t5 k1 k2 HQ3 HRD HAP3 HG3 HPUT HK1 gd HQ HRF HG HOB hoS hoT HE HF HFB
        generalize puQ Q E G (hd Y) = Q5 at *
        generalize puE E G (hd Y) = E5 at *
        generalize puB E G (hd Y) = pb at *
        generalize puX G = px at *
        have HLL := HL.out
        have HII := HI.out
        have HFB5 := hide (HF5.out.b (by omega))
        have HSB := hide (sumL_bd HF5.out (by omega))
        obtain ⟨NN, hNN⟩ : ∃ N, (cat Q5 4).length = N := ⟨_, rfl⟩
        have HNL := hide (show NN ≤ 1099511627776 by rw [← hNN]; have := cat_len HFB5.out.2 4 (Nat.le_refl _); omega)
        have HRA := hide (fun (W : World) (g : Grow wx W) => rall_any (FS.grow HR5.out g) HFB5.out.2)
        have HSA := hide (fun (W : World) (g : Grow wx W) => all_any (HQ5.out.grow g) HFB5.out.2)
        have HLN := hide (fun (W : World) (g : Grow wx W) (q : Int) => len_any (HQ5.out.grow g) q)
        have HLM := hide (fun (W : World) (g : Grow wx W) => length_any (FS.grow HR5.out g) G wG)
        have h6 := sumL_six Q5
        rw [hNN] at HRA HSA h6
        have H6 := hide h6
        have HNN := hide hNN
        clear HLL HII h6 hNN
        go_wp2_with fail
        go_loopw [18, 19] (fun s c wq => ∃ k : Nat, k ≤ 6 ∧ c = .int .i64 k ∧ s = .int .i64 (sumL Q5 k) ∧ wx = wq) (fun _ c _ => 6 - (Go.RowKit.intOf c).toNat)
        case atStart => exact ⟨0, by omega, rfl, rfl, rfl⟩
        case round =>
          obtain ⟨k, hk, rfl, rfl, hwq⟩ := hrel
          subst hwq
          rcases Nat.eq_or_lt_of_le hk with rfl | hlt
          · have q5 : decide (((6 : Nat) : Int) ≤ 5) = false := by simp
            rw [H6.out]
            have gg := (Chg.refl (fun _ => False) wx).drew
            have c1 := HC5.out
            clear hk
            go_wp2_with fail
            go_region_held3 (fun W => W.cell? ⟨ob, 1, none⟩ = some (.int .i64 G)) (first | assumption | exact Grow.cell (show Grow wx _ from by assumption) HC5.out) (first | (go_at_call 19; refine Calls.mono (HRA.out _ (by assumption)) ?_; rintro e wA ⟨aA, cA, rfl, hA, gA⟩; have gg := Chg.trans (a := wx) (by assumption) gA) | (go_at_call 23; refine Calls.mono (HSA.out _ (by assumption)) ?_; rintro e wS ⟨aS, cS, rfl, hS, gS⟩; have gg := Chg.trans (a := wx) (by assumption) gS) | (go_at_call 22; refine Calls.mono (L1.same_yes aS aA NN cS cA (cat Q5 4) _ (Rd.grow (ql_rd hS HNN.out) gA) (ql_rd hA HNN.out) HNL.out) ?_; rintro e wT ⟨rfl, gT⟩; have gg := Chg.trans (a := wx) (by assumption) gT) | (go_at_call 21; refine Calls.mono (HLN.out _ (by assumption) G) ?_; rintro e wL ⟨rfl, rfl⟩) | (go_at_call 24; refine Calls.mono (HLM.out _ (by assumption)) ?_; rintro e wM ⟨rfl, rfl⟩))
            all_goals (have GG := hide gg; clear gg c1; go_wp2_with fail; exact ⟨⟨i + 1, _, _, _, _, HI.out, by rw [Int.natCast_add]; rfl, ⟨HQ5.out.grow GG.out, FS.grow HR5.out GG.out, HAP5.out⟩, ⟨HF5.out, HE5.out⟩, HG5.out.trans GG.out⟩, by have := HI.out; simp [Go.RowKit.intOf]; omega⟩)
          · have hb := HSB.out k (by omega)
            have hb2 := HSB.out (k + 1) (by omega)
            have e6 : sumL Q5 (k + 1) = sumL Q5 k + lnV Q5 k := rfl
            have d5 : IntKind.i64.wrap (sumL Q5 k + lnV Q5 k) = sumL Q5 (k + 1) := (w64 (by omega)).trans e6.symm
            have q5 : decide ((k : Int) ≤ 5) = true := decide_eq_true (by omega)
            have q6 : (k : Int) < 6 := by omega
            have d4 : IntKind.i64.wrap ((k : Int) + 1) = ((k + 1 : Nat) : Int) := (w64 (by omega)).trans (by omega)
            have HLN2 := hide (HLN.out wx (Chg.refl _ _) k)
            have HK := hide hlt
            clear hk hlt hb hb2 e6
            go_wp2_with fail
            refine HLN2.out.mono ?_
            rintro e w9 ⟨rfl, rfl⟩
            go_wp2
            go_roundw
            case rel => exact ⟨k + 1, HK.out, rfl, rfl, by first | rfl | trivial⟩
            case measure => have := HK.out; simp [Go.RowKit.intOf]; omega
      · have n1 : (K == 1) = false := by simpa using hK1
        by_cases hK2 : K = 2
        · subst hK2
          go_wp2_with fail
          generalize (wr.alloc (.cells #[.int .i64 2, .int .i64 G, .int .i64 Y] 34)) = wo at *
          generalize wr.heap.size = ob at *
          have c1 : wo.cell? ⟨ob, 1, none⟩ = some (.int .i64 G) := HOB.out.cell 1
          have c2 : wo.cell? ⟨ob, 2, none⟩ = some (.int .i64 Y) := HOB.out.cell 2
          have hoS : ¬ S ob := fun h => Nat.lt_irrefl _ (HSL.out _ h)
          have hoT : ¬ T ob := fun h => Nat.lt_irrefl _ (HTL.out _ h)
          clear k0 k1 k2
          refine (poll_any HQ.out G HFB.out.2).mono ?_
          rintro e w3 ⟨rfl, c3, h3⟩
          have HQ3 := hide h3
          have HR3 := hide (FS.chg HRF.out c3 HAP.out.symm)
          have HG3 := hide (HQ.out.step HG.out S0.out c3)
          have k1 := c3.cell c1 hoS
          clear h3 c3 c1 c2
          go_wp2_with fail
          refine (rpoll_any HR3.out G HFB.out.2).mono ?_
          rintro e wx ⟨rfl, c4, h4⟩
          have HQ5 := hide (HQ3.out.chg c4 HAP.out)
          have HR5 := hide h4
          have HF5 := hide ((few_poll HF.out G).mono (Nat.le_succ i))
          have HE5 := hide (show ∀ x ∈ E, 1 ≤ x ∧ x ≤ 1000 + 100 * ((i + 1 : Nat) : Int) from fun x hx => by have := HE.out x hx; omega)
          have HG5 := hide (show Grow w wx from HG3.out.step c4 fun k hk e => by have := (FS.s HR3.out e).1; have := S0.out; omega)
          have HC5 := hide (c4.cell k1 hoT)
          have HAP5 := hide HAP.out
          clear h4 c4 k1 HQ3 HR3 HG3 HQ HRF HG HOB hoS hoT HE HF HFB
          generalize poQ Q G = Q5 at *
          generalize poV Q G = pv at *
          generalize poX Q G = px at *
          have HLL := HL.out
          have HII := HI.out
          have HFB5 := hide (HF5.out.b (by omega))
          have HSB := hide (sumL_bd HF5.out (by omega))
          obtain ⟨NN, hNN⟩ : ∃ N, (cat Q5 4).length = N := ⟨_, rfl⟩
          have HNL := hide (show NN ≤ 1099511627776 by rw [← hNN]; have := cat_len HFB5.out.2 4 (Nat.le_refl _); omega)
          have HRA := hide (fun (W : World) (g : Grow wx W) => rall_any (FS.grow HR5.out g) HFB5.out.2)
          have HSA := hide (fun (W : World) (g : Grow wx W) => all_any (HQ5.out.grow g) HFB5.out.2)
          have HLN := hide (fun (W : World) (g : Grow wx W) (q : Int) => len_any (HQ5.out.grow g) q)
          have HLM := hide (fun (W : World) (g : Grow wx W) => length_any (FS.grow HR5.out g) G wG)
          have h6 := sumL_six Q5
          rw [hNN] at HRA HSA h6
          have H6 := hide h6
          have HNN := hide hNN
          clear HLL HII h6 hNN
          go_wp2_with fail
          go_loopw [18, 19] (fun s c wq => ∃ k : Nat, k ≤ 6 ∧ c = .int .i64 k ∧ s = .int .i64 (sumL Q5 k) ∧ wx = wq) (fun _ c _ => 6 - (Go.RowKit.intOf c).toNat)
          case atStart => exact ⟨0, by omega, rfl, rfl, rfl⟩
          case round =>
            obtain ⟨k, hk, rfl, rfl, hwq⟩ := hrel
            subst hwq
            rcases Nat.eq_or_lt_of_le hk with rfl | hlt
            · have q5 : decide (((6 : Nat) : Int) ≤ 5) = false := by simp
              rw [H6.out]
              have gg := (Chg.refl (fun _ => False) wx).drew
              have c1 := HC5.out
              clear hk
              go_wp2_with fail
              go_region_held3 (fun W => W.cell? ⟨ob, 1, none⟩ = some (.int .i64 G)) (first | assumption | exact Grow.cell (show Grow wx _ from by assumption) HC5.out) (first | (go_at_call 19; refine Calls.mono (HRA.out _ (by assumption)) ?_; rintro e wA ⟨aA, cA, rfl, hA, gA⟩; have gg := Chg.trans (a := wx) (by assumption) gA) | (go_at_call 23; refine Calls.mono (HSA.out _ (by assumption)) ?_; rintro e wS ⟨aS, cS, rfl, hS, gS⟩; have gg := Chg.trans (a := wx) (by assumption) gS) | (go_at_call 22; refine Calls.mono (L1.same_yes aS aA NN cS cA (cat Q5 4) _ (Rd.grow (ql_rd hS HNN.out) gA) (ql_rd hA HNN.out) HNL.out) ?_; rintro e wT ⟨rfl, gT⟩; have gg := Chg.trans (a := wx) (by assumption) gT) | (go_at_call 21; refine Calls.mono (HLN.out _ (by assumption) G) ?_; rintro e wL ⟨rfl, rfl⟩) | (go_at_call 24; refine Calls.mono (HLM.out _ (by assumption)) ?_; rintro e wM ⟨rfl, rfl⟩))
              all_goals (have GG := hide gg; clear gg c1; go_wp2_with fail; exact ⟨⟨i + 1, _, _, _, _, HI.out, by rw [Int.natCast_add]; rfl, ⟨HQ5.out.grow GG.out, FS.grow HR5.out GG.out, HAP5.out⟩, ⟨HF5.out, HE5.out⟩, HG5.out.trans GG.out⟩, by have := HI.out; simp [Go.RowKit.intOf]; omega⟩)
            · have hb := HSB.out k (by omega)
              have hb2 := HSB.out (k + 1) (by omega)
              have e6 : sumL Q5 (k + 1) = sumL Q5 k + lnV Q5 k := rfl
              have d5 : IntKind.i64.wrap (sumL Q5 k + lnV Q5 k) = sumL Q5 (k + 1) := (w64 (by omega)).trans e6.symm
              have q5 : decide ((k : Int) ≤ 5) = true := decide_eq_true (by omega)
              have q6 : (k : Int) < 6 := by omega
              have d4 : IntKind.i64.wrap ((k : Int) + 1) = ((k + 1 : Nat) : Int) := (w64 (by omega)).trans (by omega)
              have HLN2 := hide (HLN.out wx (Chg.refl _ _) k)
              have HK := hide hlt
              clear hk hlt hb hb2 e6
              go_wp2_with fail
              refine HLN2.out.mono ?_
              rintro e w9 ⟨rfl, rfl⟩
              go_wp2
              go_roundw
              case rel => exact ⟨k + 1, HK.out, rfl, rfl, by first | rfl | trivial⟩
              case measure => have := HK.out; simp [Go.RowKit.intOf]; omega
        · have n2 : (K == 2) = false := by simpa using hK2
          by_cases hK3 : K = 3
          · subst hK3
            go_wp2_with fail
            generalize (wr.alloc (.cells #[.int .i64 3, .int .i64 G, .int .i64 Y] 34)) = wo at *
            generalize wr.heap.size = ob at *
            have c1 : wo.cell? ⟨ob, 1, none⟩ = some (.int .i64 G) := HOB.out.cell 1
            have c2 : wo.cell? ⟨ob, 2, none⟩ = some (.int .i64 Y) := HOB.out.cell 2
            have hoS : ¬ S ob := fun h => Nat.lt_irrefl _ (HSL.out _ h)
            have hoT : ¬ T ob := fun h => Nat.lt_irrefl _ (HTL.out _ h)
            clear k0 k1 k2
            refine (held_any Y _).mono ?_
            rintro e w3 ⟨rfl, rfl⟩
            obtain ⟨m, hm, hm2⟩ : ∃ m : Int, 1 + hd Y % 100 = m ∧ (1 ≤ m ∧ m ≤ 100) := ⟨_, rfl, by have := HYD.out; omega⟩
            have HM := hide hm2
            have d7 : IntKind.i64.wrap (hd Y % 100) = hd Y % 100 := w64 (by have := HYD.out; omega)
            have d8 : IntKind.i64.wrap (1 + hd Y % 100) = m := (w64 (by have := HYD.out; omega)).trans hm
            have d9 : wrap64 (hd Y % 100) = hd Y % 100 := wrap64_id _ (by have := HYD.out; omega)
            have hyd0 := HYD.out.1
            clear c2 hm hm2
            go_wp2_with fail
            obtain ⟨bx, hbx⟩ : ∃ k, wo.heap.size = k := ⟨_, rfl⟩
            have gb := Grow.box wo (.cells #[.int .i64 m] 3)
            have kb : (wo.alloc (.cells #[.int .i64 m] 3)).cell? ⟨wo.heap.size, 0, none⟩ = some (.int .i64 m) := (Blk.new wo 3 [.int .i64 m]).cell 0
            have hob : ob < bx := by rw [← hbx]; exact HOB.out.lt
            have hsb : (wo.alloc (.cells #[.int .i64 m] 3)).heap.size = bx + 1 := by rw [← hbx]; simp
            have HQB := hide (HQ.out.grow gb)
            have HRB := hide (FS.grow HRF.out gb)
            have HGB := hide (HG.out.trans gb)
            have c1b := gb.cell c1
            rw [hbx] at kb
            rw [hbx]
            generalize (wo.alloc (.cells #[.int .i64 m] 3)) = wb at *
            have hbS : ¬ S bx := fun h => by have := HSL.out _ h; omega
            have HE1 := hide (show ∀ x ∈ E, 1 ≤ x from fun x hx => (HE.out x hx).1)
            have HII := hide (show (i : Int) ≤ 200 from by have := HI.out; have := HL.out; omega)
            have hren := rename_any (f := adF m) (fid := 17) (lb := #[ptr bx]) HQB.out HFB.out.1 HFB.out.2 (fun x hx => by
                have := HE.out x hx
                have := HM.out
                have := HII.out
                exact in64 (by unfold adF; omega)) (enters_of Try.func17 (by kernel_rfl) rfl) (fun W x hx g => (cls_add (g.cell kb) (by have := HE.out x hx; have := HM.out; have := HII.out; omega)).mono fun e w' ⟨h1, h2⟩ => ⟨h1, by rw [h2]; exact Chg.refl _ _⟩)
            refine hren.mono ?_
            clear hren
            rintro e w4 ⟨rfl, c4, S4, h4, s4⟩
            rw [up_rnE HE1.out (by have := HM.out; omega)] at h4
            have hap4 : Apart S4 T := HAP.out.more s4 fun k hk => by have := HTL.out k hk; omega
            have HQ4 := hide h4
            have hr4 : RS w4 w1.heap.size (w1.heap.size + 1) T Q E := FS.chg HRB.out c4 HAP.out.symm
            have HG4 := hide (HQB.out.step HGB.out S0.out c4)
            have k4 := c4.cell kb hbS
            have k1 := c4.cell c1b hoS
            have hadd := radd_any (m := m) (least := 0) hr4 HFB.out.1 HFB.out.2 (fun i hi x hx => by have := HE.out x (HQ.out.inn i hi x hx); have := HII.out; omega) (fun x hx => by have := HE.out x hx; have := HII.out; omega) (by have := HM.out; omega)
            rw [up_adR HE1.out] at hadd
            have HADD := hide hadd
            have HR4 := hide hr4
            have HAP4 := hide hap4
            clear h4 c4 s4 kb hbS c1 c1b gb hob hsb hadd hr4 hap4
            go_wp2_with fail
            refine HADD.out.mono ?_
            rintro e wx ⟨rfl, c5, T5, h5, t5⟩
            have HQ5 := hide (HQ4.out.chg c5 HAP4.out)
            have HR5 := hide h5
            have HAP5 := hide ((HAP4.out.symm.more t5 fun k hk => (HQ4.out.s hk).2).symm)
            have HF5 := hide ((few_up (m := m) HF.out).mono (Nat.le_succ i))
            have HE5 := hide (show ∀ x ∈ E.map (adF m), 1 ≤ x ∧ x ≤ 1000 + 100 * ((i + 1 : Nat) : Int) from fun x hx => by
              obtain ⟨y, hy, rfl⟩ := List.mem_map.1 hx
              have := HE.out y hy
              have := HM.out
              unfold adF
              omega)
            have HG5 := hide (show Grow w wx from HG4.out.step c5 fun k hk e => by have := (FS.s HR4.out e).1; have := S0.out; omega)
            have HC5 := hide (c5.cell k1 hoT)
            clear h5 c5 t5 k1 k4 HQ4 HR4 HAP4 HG4 HADD HE1 HQB HRB HGB HQ HRF HG HOB hoS hoT HE HF HFB
            generalize rnQ (adF m) Q = Q5 at *
            have HLL := HL.out
            have HII := HI.out
            have HFB5 := hide (HF5.out.b (by omega))
            have HSB := hide (sumL_bd HF5.out (by omega))
            obtain ⟨NN, hNN⟩ : ∃ N, (cat Q5 4).length = N := ⟨_, rfl⟩
            have HNL := hide (show NN ≤ 1099511627776 by rw [← hNN]; have := cat_len HFB5.out.2 4 (Nat.le_refl _); omega)
            have HRA := hide (fun (W : World) (g : Grow wx W) => rall_any (FS.grow HR5.out g) HFB5.out.2)
            have HSA := hide (fun (W : World) (g : Grow wx W) => all_any (HQ5.out.grow g) HFB5.out.2)
            have HLN := hide (fun (W : World) (g : Grow wx W) (q : Int) => len_any (HQ5.out.grow g) q)
            have HLM := hide (fun (W : World) (g : Grow wx W) => length_any (FS.grow HR5.out g) G wG)
            have h6 := sumL_six Q5
            rw [hNN] at HRA HSA h6
            have H6 := hide h6
            have HNN := hide hNN
            clear HLL HII h6 hNN
            go_wp2_with fail
            go_loopw [18, 19] (fun s c wq => ∃ k : Nat, k ≤ 6 ∧ c = .int .i64 k ∧ s = .int .i64 (sumL Q5 k) ∧ wx = wq) (fun _ c _ => 6 - (Go.RowKit.intOf c).toNat)
            case atStart => exact ⟨0, by omega, rfl, rfl, rfl⟩
            case round =>
              obtain ⟨k, hk, rfl, rfl, hwq⟩ := hrel
              subst hwq
              rcases Nat.eq_or_lt_of_le hk with rfl | hlt
              · have q5 : decide (((6 : Nat) : Int) ≤ 5) = false := by simp
                rw [H6.out]
                have gg := (Chg.refl (fun _ => False) wx).drew
                have c1 := HC5.out
                clear hk
                go_wp2_with fail
                go_region_held3 (fun W => W.cell? ⟨ob, 1, none⟩ = some (.int .i64 G)) (first | assumption | exact Grow.cell (show Grow wx _ from by assumption) HC5.out) (first | (go_at_call 19; refine Calls.mono (HRA.out _ (by assumption)) ?_; rintro e wA ⟨aA, cA, rfl, hA, gA⟩; have gg := Chg.trans (a := wx) (by assumption) gA) | (go_at_call 23; refine Calls.mono (HSA.out _ (by assumption)) ?_; rintro e wS ⟨aS, cS, rfl, hS, gS⟩; have gg := Chg.trans (a := wx) (by assumption) gS) | (go_at_call 22; refine Calls.mono (L1.same_yes aS aA NN cS cA (cat Q5 4) _ (Rd.grow (ql_rd hS HNN.out) gA) (ql_rd hA HNN.out) HNL.out) ?_; rintro e wT ⟨rfl, gT⟩; have gg := Chg.trans (a := wx) (by assumption) gT) | (go_at_call 21; refine Calls.mono (HLN.out _ (by assumption) G) ?_; rintro e wL ⟨rfl, rfl⟩) | (go_at_call 24; refine Calls.mono (HLM.out _ (by assumption)) ?_; rintro e wM ⟨rfl, rfl⟩))
                all_goals (have GG := hide gg; clear gg c1; go_wp2_with fail; exact ⟨⟨i + 1, _, _, _, _, HI.out, by rw [Int.natCast_add]; rfl, ⟨HQ5.out.grow GG.out, FS.grow HR5.out GG.out, HAP5.out⟩, ⟨HF5.out, HE5.out⟩, HG5.out.trans GG.out⟩, by have := HI.out; simp [Go.RowKit.intOf]; omega⟩)
              · have hb := HSB.out k (by omega)
                have hb2 := HSB.out (k + 1) (by omega)
                have e6 : sumL Q5 (k + 1) = sumL Q5 k + lnV Q5 k := rfl
                have d5 : IntKind.i64.wrap (sumL Q5 k + lnV Q5 k) = sumL Q5 (k + 1) := (w64 (by omega)).trans e6.symm
                have q5 : decide ((k : Int) ≤ 5) = true := decide_eq_true (by omega)
                have q6 : (k : Int) < 6 := by omega
                have d4 : IntKind.i64.wrap ((k : Int) + 1) = ((k + 1 : Nat) : Int) := (w64 (by omega)).trans (by omega)
                have HLN2 := hide (HLN.out wx (Chg.refl _ _) k)
                have HK := hide hlt
                clear hk hlt hb hb2 e6
                go_wp2_with fail
                refine HLN2.out.mono ?_
                rintro e w9 ⟨rfl, rfl⟩
                go_wp2
                go_roundw
                case rel => exact ⟨k + 1, HK.out, rfl, rfl, by first | rfl | trivial⟩
                case measure => have := HK.out; simp [Go.RowKit.intOf]; omega
          · have n3 : (K == 3) = false := by simpa using hK3
            by_cases hK4 : K = 4
            · subst hK4
              go_wp2_with fail
              generalize (wr.alloc (.cells #[.int .i64 4, .int .i64 G, .int .i64 Y] 34)) = wo at *
              generalize wr.heap.size = ob at *
              have c1 : wo.cell? ⟨ob, 1, none⟩ = some (.int .i64 G) := HOB.out.cell 1
              have c2 : wo.cell? ⟨ob, 2, none⟩ = some (.int .i64 Y) := HOB.out.cell 2
              have hoS : ¬ S ob := fun h => Nat.lt_irrefl _ (HSL.out _ h)
              have hoT : ¬ T ob := fun h => Nat.lt_irrefl _ (HTL.out _ h)
              clear k0 k1 k2
              refine (rall_any HRF.out HFB.out.2).mono ?_
              rintro e w3 ⟨a2, c2', rfl, h3, g3⟩
              obtain ⟨N, hN⟩ : ∃ N, (cat Q 4).length = N := ⟨_, rfl⟩
              rw [hN] at h3 ⊢
              have hNB : N < 10000000 := by rw [← hN]; have := cat_len HFB.out.2 4 (Nat.le_refl _); omega
              have gb := g3.trans (Grow.box w3 (.cells #[.slice a2 N c2'] 25))
              have kb : (w3.alloc (.cells #[.slice a2 N c2'] 25)).cell? ⟨w3.heap.size, 0, none⟩ = some (.slice a2 N c2') := (Blk.new w3 25 [.slice a2 N c2']).cell 0
              have hrd : L1.Rd (w3.alloc (.cells #[.slice a2 N c2'] 25)) a2 N (cat Q 4) := Rd.grow (ql_rd h3 hN) (Grow.box w3 _)
              have hob : ob < w3.heap.size := Nat.lt_of_lt_of_le HOB.out.lt g3.size
              have hsb : (w3.alloc (.cells #[.slice a2 N c2'] 25)).heap.size = w3.heap.size + 1 := by simp
              have HQB := hide (HQ.out.grow gb)
              have HRB := hide (FS.grow HRF.out gb)
              have HGB := hide (HG.out.trans gb)
              have c1b := Grow.cell gb c1
              have c2b := Grow.cell gb c2
              have HE1 := hide (show ∀ x ∈ E, 1 ≤ x from fun x hx => (HE.out x hx).1)
              have HII := hide (show (i : Int) ≤ 200 from by have := HI.out; have := HL.out; omega)
              clear h3 g3 hN gb
              go_wp2_with fail
              generalize (w3.alloc (.cells #[.slice a2 N c2'] 25)) = wb at *
              generalize w3.heap.size = bx at *
              have hren := rename_any (f := keepF (cat Q 4) Y) (fid := 20) (lb := #[ptr bx, ptr ob]) HQB.out HFB.out.1 HFB.out.2 (fun x hx => by
                  have := HE.out x hx
                  have := HII.out
                  unfold keepF
                  split
                  · exact in64 (by omega)
                  · split
                    · exact in64 (by omega)
                    · exact in64 (by omega)) (enters_of Try.func20 (by kernel_rfl) rfl) (fun W x hx g => (cls_keep (g.cell kb) (g.cell c2b) (Rd.grow hrd g) hNB).mono fun e w' ⟨h1, h2⟩ => ⟨h1, by rw [h2]; exact Chg.refl _ _⟩)
              refine hren.mono ?_
              clear hren
              rintro e w4 ⟨rfl, c4, S4, h4, s4⟩
              rw [keep_rnE HE1.out] at h4
              have hap4 : Apart S4 T := HAP.out.more s4 fun k hk => by have := HTL.out k hk; omega
              have HQ4 := hide (h4.congr (Q' := Q) fun i hi => keep_rnQ hi)
              have hr4 : RS w4 w1.heap.size (w1.heap.size + 1) T Q E := FS.chg HRB.out c4 HAP.out.symm
              have HG4 := hide (HQB.out.step HGB.out S0.out c4)
              have k1 := c4.cell c1b hoS
              have k2 := c4.cell c2b hoS
              have hadd := radd_any (m := 0) (least := Y) hr4 HFB.out.1 HFB.out.2 (fun i hi x hx => by have := HE.out x (HQ.out.inn i hi x hx); have := HII.out; omega) (fun x hx => by have := HE.out x hx; have := HII.out; omega) (by omega)
              rw [add0_adR, add0_rnQ] at hadd
              have HADD := hide hadd
              have HR4 := hide hr4
              have HAP4 := hide hap4
              clear h4 c4 s4 kb c1 c2 c1b c2b hrd hob hsb hNB hadd hr4 hap4
              go_wp2_with fail
              refine HADD.out.mono ?_
              rintro e wx ⟨rfl, c5, T5, h5, t5⟩
              have HQ5 := hide (HQ4.out.chg c5 HAP4.out)
              have HR5 := hide h5
              have HAP5 := hide ((HAP4.out.symm.more t5 fun k hk => (HQ4.out.s hk).2).symm)
              have HF5 := hide ((few_kp (m := Y) HF.out).mono (Nat.le_succ i))
              have HE5 := hide (show ∀ x ∈ kpE Y Q E, 1 ≤ x ∧ x ≤ 1000 + 100 * ((i + 1 : Nat) : Int) from kp_all fun x hx => by
                have := HE.out x hx
                omega)
              have HG5 := hide (show Grow w wx from HG4.out.step c5 fun k hk e => by have := (FS.s HR4.out e).1; have := S0.out; omega)
              have HC5 := hide (c5.cell k1 hoT)
              clear h5 c5 t5 k1 k2 HQ4 HR4 HAP4 HG4 HADD HE1 HQB HRB HGB HQ HRF HG HOB hoS hoT HE HF HFB
              generalize kpE Y Q E = E5 at *
              generalize Q = Q5 at *
              have HLL := HL.out
              have HII := HI.out
              have HFB5 := hide (HF5.out.b (by omega))
              have HSB := hide (sumL_bd HF5.out (by omega))
              obtain ⟨NN, hNN⟩ : ∃ N, (cat Q5 4).length = N := ⟨_, rfl⟩
              have HNL := hide (show NN ≤ 1099511627776 by rw [← hNN]; have := cat_len HFB5.out.2 4 (Nat.le_refl _); omega)
              have HRA := hide (fun (W : World) (g : Grow wx W) => rall_any (FS.grow HR5.out g) HFB5.out.2)
              have HSA := hide (fun (W : World) (g : Grow wx W) => all_any (HQ5.out.grow g) HFB5.out.2)
              have HLN := hide (fun (W : World) (g : Grow wx W) (q : Int) => len_any (HQ5.out.grow g) q)
              have HLM := hide (fun (W : World) (g : Grow wx W) => length_any (FS.grow HR5.out g) G wG)
              have h6 := sumL_six Q5
              rw [hNN] at HRA HSA h6
              have H6 := hide h6
              have HNN := hide hNN
              clear HLL HII h6 hNN
              go_wp2_with fail
              go_loopw [18, 19] (fun s c wq => ∃ k : Nat, k ≤ 6 ∧ c = .int .i64 k ∧ s = .int .i64 (sumL Q5 k) ∧ wx = wq) (fun _ c _ => 6 - (Go.RowKit.intOf c).toNat)
              case atStart => exact ⟨0, by omega, rfl, rfl, rfl⟩
              case round =>
                obtain ⟨k, hk, rfl, rfl, hwq⟩ := hrel
                subst hwq
                rcases Nat.eq_or_lt_of_le hk with rfl | hlt
                · have q5 : decide (((6 : Nat) : Int) ≤ 5) = false := by simp
                  rw [H6.out]
                  have gg := (Chg.refl (fun _ => False) wx).drew
                  have c1 := HC5.out
                  clear hk
                  go_wp2_with fail
                  go_region_held3 (fun W => W.cell? ⟨ob, 1, none⟩ = some (.int .i64 G)) (first | assumption | exact Grow.cell (show Grow wx _ from by assumption) HC5.out) (first | (go_at_call 19; refine Calls.mono (HRA.out _ (by assumption)) ?_; rintro e wA ⟨aA, cA, rfl, hA, gA⟩; have gg := Chg.trans (a := wx) (by assumption) gA) | (go_at_call 23; refine Calls.mono (HSA.out _ (by assumption)) ?_; rintro e wS ⟨aS, cS, rfl, hS, gS⟩; have gg := Chg.trans (a := wx) (by assumption) gS) | (go_at_call 22; refine Calls.mono (L1.same_yes aS aA NN cS cA (cat Q5 4) _ (Rd.grow (ql_rd hS HNN.out) gA) (ql_rd hA HNN.out) HNL.out) ?_; rintro e wT ⟨rfl, gT⟩; have gg := Chg.trans (a := wx) (by assumption) gT) | (go_at_call 21; refine Calls.mono (HLN.out _ (by assumption) G) ?_; rintro e wL ⟨rfl, rfl⟩) | (go_at_call 24; refine Calls.mono (HLM.out _ (by assumption)) ?_; rintro e wM ⟨rfl, rfl⟩))
                  all_goals (have GG := hide gg; clear gg c1; go_wp2_with fail; exact ⟨⟨i + 1, _, _, _, _, HI.out, by rw [Int.natCast_add]; rfl, ⟨HQ5.out.grow GG.out, FS.grow HR5.out GG.out, HAP5.out⟩, ⟨HF5.out, HE5.out⟩, HG5.out.trans GG.out⟩, by have := HI.out; simp [Go.RowKit.intOf]; omega⟩)
                · have hb := HSB.out k (by omega)
                  have hb2 := HSB.out (k + 1) (by omega)
                  have e6 : sumL Q5 (k + 1) = sumL Q5 k + lnV Q5 k := rfl
                  have d5 : IntKind.i64.wrap (sumL Q5 k + lnV Q5 k) = sumL Q5 (k + 1) := (w64 (by omega)).trans e6.symm
                  have q5 : decide ((k : Int) ≤ 5) = true := decide_eq_true (by omega)
                  have q6 : (k : Int) < 6 := by omega
                  have d4 : IntKind.i64.wrap ((k : Int) + 1) = ((k + 1 : Nat) : Int) := (w64 (by omega)).trans (by omega)
                  have HLN2 := hide (HLN.out wx (Chg.refl _ _) k)
                  have HK := hide hlt
                  clear hk hlt hb hb2 e6
                  go_wp2_with fail
                  refine HLN2.out.mono ?_
                  rintro e w9 ⟨rfl, rfl⟩
                  go_wp2
                  go_roundw
                  case rel => exact ⟨k + 1, HK.out, rfl, rfl, by first | rfl | trivial⟩
                  case measure => have := HK.out; simp [Go.RowKit.intOf]; omega
            · have n4 : (K == 4) = false := by simpa using hK4
              have c1o := HOB.out.cell 1
              go_wp2_with fail
              generalize (wr.alloc (.cells #[.int .i64 K, .int .i64 G, .int .i64 Y] 34)) = wo at *
              generalize wr.heap.size = ob at *
              have c1 : wo.cell? ⟨ob, 1, none⟩ = some (.int .i64 G) := HOB.out.cell 1
              have c2 : wo.cell? ⟨ob, 2, none⟩ = some (.int .i64 Y) := HOB.out.cell 2
              have hoS : ¬ S ob := fun h => Nat.lt_irrefl _ (HSL.out _ h)
              have hoT : ¬ T ob := fun h => Nat.lt_irrefl _ (HTL.out _ h)
              clear k0 k1 k2
              have HQ5 := hide HQ.out
              have HR5 := hide HRF.out
              have HF5 := hide (HF.out.mono (Nat.le_succ i))
              have HE5 := hide (show ∀ x ∈ E, 1 ≤ x ∧ x ≤ 1000 + 100 * ((i + 1 : Nat) : Int) from fun x hx => by have := HE.out x hx; omega)
              have HG5 := hide (show Grow w wo from HG.out)
              have HC5 := hide c1
              have HAP5 := hide HAP.out
              clear c1 c2 c1o HQ HRF HG HOB hoS hoT HE HF HFB
              generalize wo = wx at *
              generalize Q = Q5 at *
              have HLL := HL.out
              have HII := HI.out
              have HFB5 := hide (HF5.out.b (by omega))
              have HSB := hide (sumL_bd HF5.out (by omega))
              obtain ⟨NN, hNN⟩ : ∃ N, (cat Q5 4).length = N := ⟨_, rfl⟩
              have HNL := hide (show NN ≤ 1099511627776 by rw [← hNN]; have := cat_len HFB5.out.2 4 (Nat.le_refl _); omega)
              have HRA := hide (fun (W : World) (g : Grow wx W) => rall_any (FS.grow HR5.out g) HFB5.out.2)
              have HSA := hide (fun (W : World) (g : Grow wx W) => all_any (HQ5.out.grow g) HFB5.out.2)
              have HLN := hide (fun (W : World) (g : Grow wx W) (q : Int) => len_any (HQ5.out.grow g) q)
              have HLM := hide (fun (W : World) (g : Grow wx W) => length_any (FS.grow HR5.out g) G wG)
              have h6 := sumL_six Q5
              rw [hNN] at HRA HSA h6
              have H6 := hide h6
              have HNN := hide hNN
              clear HLL HII h6 hNN
              go_wp2_with fail
              go_loopw [18, 19] (fun s c wq => ∃ k : Nat, k ≤ 6 ∧ c = .int .i64 k ∧ s = .int .i64 (sumL Q5 k) ∧ wx = wq) (fun _ c _ => 6 - (Go.RowKit.intOf c).toNat)
              case atStart => exact ⟨0, by omega, rfl, rfl, rfl⟩
              case round =>
                obtain ⟨k, hk, rfl, rfl, hwq⟩ := hrel
                subst hwq
                rcases Nat.eq_or_lt_of_le hk with rfl | hlt
                · have q5 : decide (((6 : Nat) : Int) ≤ 5) = false := by simp
                  rw [H6.out]
                  have gg := (Chg.refl (fun _ => False) wx).drew
                  have c1 := HC5.out
                  clear hk
                  go_wp2_with fail
                  go_region_held3 (fun W => W.cell? ⟨ob, 1, none⟩ = some (.int .i64 G)) (first | assumption | exact Grow.cell (show Grow wx _ from by assumption) HC5.out) (first | (go_at_call 19; refine Calls.mono (HRA.out _ (by assumption)) ?_; rintro e wA ⟨aA, cA, rfl, hA, gA⟩; have gg := Chg.trans (a := wx) (by assumption) gA) | (go_at_call 23; refine Calls.mono (HSA.out _ (by assumption)) ?_; rintro e wS ⟨aS, cS, rfl, hS, gS⟩; have gg := Chg.trans (a := wx) (by assumption) gS) | (go_at_call 22; refine Calls.mono (L1.same_yes aS aA NN cS cA (cat Q5 4) _ (Rd.grow (ql_rd hS HNN.out) gA) (ql_rd hA HNN.out) HNL.out) ?_; rintro e wT ⟨rfl, gT⟩; have gg := Chg.trans (a := wx) (by assumption) gT) | (go_at_call 21; refine Calls.mono (HLN.out _ (by assumption) G) ?_; rintro e wL ⟨rfl, rfl⟩) | (go_at_call 24; refine Calls.mono (HLM.out _ (by assumption)) ?_; rintro e wM ⟨rfl, rfl⟩))
                  all_goals (have GG := hide gg; clear gg c1; go_wp2_with fail; exact ⟨⟨i + 1, _, _, _, _, HI.out, by rw [Int.natCast_add]; rfl, ⟨HQ5.out.grow GG.out, FS.grow HR5.out GG.out, HAP5.out⟩, ⟨HF5.out, HE5.out⟩, HG5.out.trans GG.out⟩, by have := HI.out; simp [Go.RowKit.intOf]; omega⟩)
                · have hb := HSB.out k (by omega)
                  have hb2 := HSB.out (k + 1) (by omega)
                  have e6 : sumL Q5 (k + 1) = sumL Q5 k + lnV Q5 k := rfl
                  have d5 : IntKind.i64.wrap (sumL Q5 k + lnV Q5 k) = sumL Q5 (k + 1) := (w64 (by omega)).trans e6.symm
                  have q5 : decide ((k : Int) ≤ 5) = true := decide_eq_true (by omega)
                  have q6 : (k : Int) < 6 := by omega
                  have d4 : IntKind.i64.wrap ((k : Int) + 1) = ((k + 1 : Nat) : Int) := (w64 (by omega)).trans (by omega)
                  have HLN2 := hide (HLN.out wx (Chg.refl _ _) k)
                  have HK := hide hlt
                  clear hk hlt hb hb2 e6
                  go_wp2_with fail
                  refine HLN2.out.mono ?_
                  rintro e w9 ⟨rfl, rfl⟩
                  go_wp2
                  go_roundw
                  case rel => exact ⟨k + 1, HK.out, rfl, rfl, by first | rfl | trivial⟩
                  case measure => have := HK.out; simp [Go.RowKit.intOf]; omega
end
theorem walk (a : Option Addr) (len cap : Nat) (rows : List (List Value)) (w : World) (hr : IsOps w a len cap rows) :
    Calls Try.prog 3 #[.slice a len cap] w fun e w' => e = .returned (.bool true) ∧ Below w.heap.size w w' := by
  by_cases h : 200 < len
  · exact walk_long h
  · exact walk_main hr (by omega)


theorem own : ownKnob Try.prog.godebug = none := by kernel_rfl
theorem laidOut : laidOutB Try.prog = true := by kernel_rfl

set_option maxRecDepth 100000 in
theorem lifted (os : Os) (started : os.Started) (H : Type) (enc : TypeId × Value → H) :
    ReturnsInHanded {} Try.checked os 3 .any (Rows.queuePlaysSpec.pre6 enc Try.prog Try.f3 Rows.queuePlaysRow.domain false) (Rows.queuePlaysSpec.post enc Try.prog Try.f3 false true false false) := by
  refine returnsInHanded_of_change (C := Try.checked) own started (by kernel_rfl) Try.func3
    (ChangeSpec.witness6 (enc := enc) (C := Try.checked) false ⟨#[], #[.slice none 0 0], []⟩ 8 (by kernel_rfl) (by kernel_rfl) (by kernel_rfl) (by kernel_rfl)) ?_
  intro W base args ds gs before hval0 hW hcnd _
  have hval : ∀ (j : Nat) t v, Try.f3.params[j]? = some t → args[j]? = some v → Value.okWide Try.prog W .any base t v := hval0
  have hW' := hW
  obtain ⟨p, q, hA0, hV, rfl, hfz, hnd⟩ := hW
  have hA : DataW.TrodAll enc Try.prog W 0 (fun _ => true) true Try.f3.params.toList args.toList ds p := hA0
  rw [Try.params3] at hA hval
  obtain ⟨v0, vs0, d0, ds0, p0, q0, hargs, rfl, rfl, h0, r0⟩ := trodAll_cons hA
  obtain ⟨rfl, rfl, rfl⟩ := trodAll_nil r0
  obtain rfl : args = #[v0] := by cases args; simp_all
  obtain ⟨rfl, rfl⟩ := trodVars_none hV
  have k0 := h0
  have lt0 : ∀ x ∈ p0, x.block < W.heap.size := by obtain ⟨m, hm⟩ := k0; exact DataW.trod_lt m _ _ _ hm
  obtain ⟨a0, len0, cap0, rows0, rfl, w0⟩ := open_ops (hval 0 22 v0 rfl rfl) h0
  clear hA0 hval0
  refine (walk a0 len0 cap0 rows0 W w0).mono fun e W' ⟨he, bel⟩ => ?_
  subst he
  exact ⟨_, rfl, _, _, _, [], _, [], hW', trodAll_mk1 (shut_bool Try.underlying4 _), (trodAll_cons_mk (Below.trod laidOut (by kernel_rfl) (of_decide_eq_true (by kernel_rfl)) k0 bel lt0) trodAll_mk0), rfl, bel.frame _, fun h => by cases h⟩

theorem over : Rows.queuePlaysRow.holds Try.pinned (OpenSpec.ofChange Rows.queuePlaysSpec) :=
  OpenClaim.holds_of_wide 3 Try.f3 rfl rfl rfl rfl rfl rfl rfl ⟨rfl, rfl, rfl, rfl, rfl⟩ rfl rfl rfl rfl rfl (by kernel_rfl) Try.func3 (by kernel_rfl)
    (of_decide_eq_true (by kernel_rfl)) (by unfold Func.isWrapper; first | (rw [if_pos (by decide +kernel)]; kernel_rfl) | (rw [if_neg (by decide +kernel)]; exact ⟨rfl, rfl⟩))
    (fun os started H enc _ => lifted os started H enc)

/-- The statement. -/
theorem proved : Rows.QueuePlaysSaid := over
#print axioms proved
end Go.Proofs.Ytgaoodjlcjmomaa.queuePlays


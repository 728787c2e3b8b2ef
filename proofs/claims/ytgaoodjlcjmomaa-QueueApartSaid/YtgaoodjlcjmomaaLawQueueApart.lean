/- For all lists of calls QueueApart answers true: queues don't touch one another. Conditions: none. -/
import Derived.Test.YtgaoodjlcjmomaaL12Ops
import Derived.ShutString
namespace Go.Proofs.Ytgaoodjlcjmomaa.queueApart
open Go.ChangeShapes Go.WideShapes Go.ChangeAt Go.RowKit Go.Proofs.Ytgaoodjlcjmomaa.L12
set_option linter.unusedVariables false
section
variable {a : Option Addr} {len cap : Nat} {rows : List (List Value)} {w : World}
set_option maxHeartbeats 2000000 in
set_option maxRecDepth 100000 in
theorem walk_long (hl : 200 < len) :
    Calls Try.prog 7 #[.slice a len cap] w fun e w' => e = .returned (.bool true) ∧ Below w.heap.size w w' := by
  have q1 : decide ((len : Int) > 200) = true := by simp; omega
  clear hl
  go_enter Try.func7, Try.ntmps7
  go_wp2_with fail
  refine (awake_any _).mono ?_
  rintro e w1 ⟨rfl, g1⟩
  have HG := hide g1
  clear g1
  go_wp2_with fail
  refine (awake_any _).mono ?_
  rintro e w2 ⟨rfl, g2⟩
  have HG2 := hide (HG.out.trans g2)
  clear g2
  go_wp2
  go_ret
  exact ⟨rfl, HG2.out.below (fun _ _ h => h) (Nat.le_refl _)⟩
set_option maxHeartbeats 2000000 in
set_option maxRecDepth 100000 in
theorem walk_main (hr : IsOps w a len cap rows) (hl : len ≤ 200) :
    Calls Try.prog 7 #[.slice a len cap] w fun e w' => e = .returned (.bool true) ∧ Below w.heap.size w w' := by
  have q1 : decide ((len : Int) > 200) = false := by simp; omega
  have HR := hide hr
  have HL := hide hl
  clear hr hl
  go_enter Try.func7, Try.ntmps7
  go_wp2_with fail
  refine (awake_any _).mono ?_
  rintro e w1 ⟨rfl, g1⟩
  have H0 := hide (new_set w1)
  have G0 := hide (g1.trans (Grow.box w1 (.cells setV 29)))
  have S0 := hide g1.size
  clear g1
  go_wp2_with fail
  go_loopw [28] (fun c wr => ∃ (i : Nat) (S : Nat → Prop) (Q : Nat → List Int) (E : List Int), i ≤ len ∧ c = .int .i64 i ∧ QS wr w1.heap.size S w1.heap.size Q E ∧ Few Q E i ∧ Grow w wr) (fun c _ => len - (Go.RowKit.intOf c).toNat)
  case atStart => exact ⟨0, _, _, _, Nat.zero_le _, rfl, H0.out, few_new, G0.out⟩
  case round =>
    clear H0 G0
    obtain ⟨i, S, Q, E, hi, rfl, hq, hf, hg⟩ := hrel
    generalize wr = wo at *
    rcases Nat.eq_or_lt_of_le hi with rfl | hlt
    · have q1 : decide ((i : Int) < i) = false := by simp
      have HG := hide hg
      clear hq hg hi hf
      go_wp2
      go_ret
      exact ⟨rfl, HG.out.below (fun _ _ h => h) (Nat.le_refl _)⟩
    · obtain ⟨b, off, K, G, Y, rfl, ⟨k0, k1, k2⟩, wK, wG, wY⟩ := (HR.out.grow hg).one hlt
      have q1 : (i : Int) < len := by omega
      obtain ⟨X, hX, eX⟩ := q_of G
      have HQ := hide hq
      have HG := hide hg
      have HI := hide hlt
      have HF := hide hf
      have HX := hide hX
      have HK := hide (And.intro k0 k2)
      have HLL := hide (show ∀ k, k < 4 → ((Q k).length : Int) ≤ 200 from fun k hk => by have := hf.2 k hk; have := HL.out; omega)
      clear hq hg hi hlt hf hX
      go_wp2_with fail
      rw [eX]
      have HB := hide (show Blk (wo.alloc (.cells #[.int .i64 0, .int .i64 0, .int .i64 0, .int .i64 0, .int .i64 0] 57)) wo.heap.size 57 (ints (wl Q 0)) from Blk.new wo _ [.int .i64 0, .int .i64 0, .int .i64 0, .int .i64 0, .int .i64 0])
      have HGB := hide (Grow.box wo (.cells #[.int .i64 0, .int .i64 0, .int .i64 0, .int .i64 0, .int .i64 0] 57))
      clear k0 k1 k2
      go_loopw [7] (fun c wq => ∃ j : Nat, j ≤ 4 ∧ c = .int .i64 ((j : Int) + 1) ∧ Blk wq wo.heap.size 57 (ints (wl Q j)) ∧ Grow wo wq) (fun c _ => 5 - (Go.RowKit.intOf c).toNat)
      case atStart => exact ⟨0, by omega, rfl, HB.out, HGB.out⟩
      case round =>
        clear HB HGB
        obtain ⟨j, hj, rfl, hb, hg⟩ := hrel
        generalize wr = wq at *
        rcases Nat.eq_or_lt_of_le hj with rfl | hlt
        · have HB := hide hb
          have HG2 := hide hg
          have HQ2 := hide (HQ.out.grow hg)
          have hq2 : decide (((4 : Nat) : Int) + 1 ≤ 4) = false := by simp
          have k0 := hg.cell HK.out.1
          have k2 := hg.cell HK.out.2
          clear hb hg hj
          by_cases hK : K = 2
          · subst hK
            go_wp2_with fail
            refine (poll_any HQ2.out ((X : Int) + 1) (HF.out.b (by have := HI.out; have := HL.out; omega)).2).mono ?_
            rintro e w5 ⟨rfl, c5, h5⟩
            have hX1 := (at_q HX.out).1
            have hX2 := (at_q HX.out).2
            have HF5 := hide ((few_poll HF.out ((X : Int) + 1)).mono (Nat.le_succ i))
            have HB5 := hide (HB.out.chg c5 fun e => by have := (HQ.out.s e).2; omega)
            have HG5 := hide (HQ2.out.step (HG.out.trans HG2.out) S0.out c5)
            cases hQX : Q X with
            | nil =>
              have e1 : poX Q ((X : Int) + 1) = 10 := by unfold poX; rw [hX1, if_pos rfl, hX2, hQX, if_pos rfl]
              have e2 : poQ Q ((X : Int) + 1) = Q := by unfold poQ; rw [hX1, if_pos rfl, hX2, hQX]; simp only [List.tail_nil]; rw [← hQX]; exact upd_self Q X
              rw [e2] at h5 HF5
              rw [e1]
              have HQ5 := hide h5
              have HAB := hide (show (-1 : Int) ≤ 0 ∧ (0 : Int) ≤ 1 by omega)
              have HAD := hide (show ∀ k, k < 4 → ((Q k).length : Int) = (Q k).length + if k = X then 0 else 0 from fun k hk => by split <;> omega)
              clear h5 c5 e1 e2 hQX k0 k2 HB HQ2 HG2
              have hwi : IntKind.i64.wrap ((i : Int) + 1) = ((i + 1 : Nat) : Int) := (w64 (by have := HI.out; have := HL.out; omega)).trans (by omega)
              have HFB := hide (HF5.out.b (by have := HI.out; have := HL.out; omega))
              go_wp2_with fail
              go_loopw [13, 14] (fun s c wq => ∃ j : Nat, j ≤ 4 ∧ c = .int .i64 ((j : Int) + 1) ∧ s = .int .i64 (((cat Q j).length : Nat) : Int) ∧ w5 = wq) (fun _ c _ => 5 - (Go.RowKit.intOf c).toNat)
              case atStart => exact ⟨0, by omega, rfl, rfl, rfl⟩
              case round =>
                obtain ⟨j, hj, rfl, rfl, hwq⟩ := hrel
                subst hwq
                rcases Nat.eq_or_lt_of_le hj with rfl | hlt
                · have hq2 : decide (((4 : Nat) : Int) + 1 ≤ 4) = false := by simp
                  have HAL := hide (all_any HQ5.out HFB.out.2)
                  clear hj
                  go_wp2_with fail
                  refine HAL.out.mono ?_
                  rintro e w6 ⟨a6, c6, rfl, -, g6⟩
                  have HQ6 := hide (HQ5.out.grow g6)
                  have HG6 := hide (HG5.out.trans g6)
                  clear g6 HAL
                  go_wp2
                  go_roundw
                  case rel => exact ⟨i + 1, _, _, _, HI.out, rfl, HQ6.out, HF5.out, HG6.out⟩
                  case measure => have := HI.out; simp [Go.RowKit.intOf]; omega
                · have hb := HAD.out j hlt
                  have hA := HAB.out
                  have hc : (w5).cell? ⟨wo.heap.size, j + 1, none⟩ = some (.int .i64 ((Q j).length : Int)) := (HB5.out.cell (j + 1)).trans (by unfold ints; rw [List.getElem?_map, wl_get Q hlt]; rfl)
                  have h1 := cat_len HFB.out.2 j hj
                  have h2 := HFB.out.2 j hlt
                  have hw2 : IntKind.i64.wrap (((cat Q j).length : Int) + ((Q j).length : Int)) = ((cat Q (j + 1)).length : Nat) := (w64 (by omega)).trans (by simp [cat])
                  have q1 : decide ((j : Int) + 1 ≤ 4) = true := decide_eq_true (by omega)
                  have q3 : (j : Int) + 1 < 5 := by omega
                  have hwj : IntKind.i64.wrap ((j : Int) + 1 + 1) = ((j + 1 : Nat) : Int) + 1 := (w64 (by omega)).trans (by omega)
                  have HLN := hide (len_any HQ5.out ((j : Int) + 1))
                  have el : lnV Q ((j : Int) + 1) = ((Q j).length : Int) := by unfold lnV; rw [(at_q hlt).1, if_pos rfl, (at_q hlt).2]
                  rw [el] at HLN
                  have HJ := hide hlt
                  obtain ⟨N1, hN1⟩ : ∃ N1 : Nat, (cat Q (j + 1)).length = N1 := ⟨_, rfl⟩
                  rw [hN1] at hw2
                  have HN1 := hide hN1
                  by_cases ej : j = X
                  · subst ej
                    rw [if_pos rfl] at hb
                    have hw1 : IntKind.i64.wrap (((Q j).length : Int) + 0) = ((Q j).length : Int) := (w64 (by omega)).trans hb.symm
                    have hw3 : IntKind.i64.wrap ((Q j).length : Int) = ((Q j).length : Int) := w64 (by omega)
                    have hw4 : wrap64 ((Q j).length : Int) = ((Q j).length : Int) := wrap64_id _ (by omega)
                    clear hb hA h1 h2 el hN1 hj hlt
                    generalize ((Q j).length : Int) = N5 at *
                    generalize ((Q j).length : Int) = N0 at *
                    generalize ((cat Q j).length : Int) = N2 at *
                    go_wp2_with fail
                    refine HLN.out.mono ?_
                    rintro e w6 ⟨rfl, rfl⟩
                    go_wp2
                    go_roundw
                    case rel => exact ⟨j + 1, HJ.out, rfl, by rw [HN1.out], by first | rfl | trivial⟩
                    case measure => have := HJ.out; simp [Go.RowKit.intOf]; omega
                  · rw [if_neg ej, Int.add_zero] at hb
                    rw [← hb] at hc
                    have q4 : ((j : Int) + 1 == (X : Int) + 1) = false := by simp; omega
                    clear hb hA h1 h2 el hN1 hj hlt
                    generalize ((Q j).length : Int) = N5 at *
                    generalize ((cat Q j).length : Int) = N2 at *
                    go_wp2_with fail
                    refine HLN.out.mono ?_
                    rintro e w6 ⟨rfl, rfl⟩
                    go_wp2
                    go_roundw
                    case rel => exact ⟨j + 1, HJ.out, rfl, by rw [HN1.out], by first | rfl | trivial⟩
                    case measure => have := HJ.out; simp [Go.RowKit.intOf]; omega
            | cons x l =>
              have e1 : poX Q ((X : Int) + 1) = 0 := by unfold poX; rw [hX1, if_pos rfl, hX2, hQX, if_neg (by simp)]
              rw [e1]
              have HQ5 := hide h5
              have HAB := hide (show (-1 : Int) ≤ -1 ∧ (-1 : Int) ≤ 1 by omega)
              have HAD := hide (show ∀ k, k < 4 → ((poQ Q ((X : Int) + 1) k).length : Int) = (Q k).length + if k = X then -1 else 0 from fun k hk => by
                unfold poQ
                rw [hX1, if_pos rfl, hX2]
                by_cases e : k = X
                · rw [e, upd_at, hQX, if_pos rfl]; simp; omega
                · rw [upd_ne _ _ e, if_neg e]; omega)
              clear h5 c5 e1 hQX k0 k2 HB HQ2 HG2
              generalize poQ Q ((X : Int) + 1) = Q5 at *
              have hwi : IntKind.i64.wrap ((i : Int) + 1) = ((i + 1 : Nat) : Int) := (w64 (by have := HI.out; have := HL.out; omega)).trans (by omega)
              have HFB := hide (HF5.out.b (by have := HI.out; have := HL.out; omega))
              go_wp2_with fail
              go_loopw [13, 14] (fun s c wq => ∃ j : Nat, j ≤ 4 ∧ c = .int .i64 ((j : Int) + 1) ∧ s = .int .i64 (((cat Q5 j).length : Nat) : Int) ∧ w5 = wq) (fun _ c _ => 5 - (Go.RowKit.intOf c).toNat)
              case atStart => exact ⟨0, by omega, rfl, rfl, rfl⟩
              case round =>
                obtain ⟨j, hj, rfl, rfl, hwq⟩ := hrel
                subst hwq
                rcases Nat.eq_or_lt_of_le hj with rfl | hlt
                · have hq2 : decide (((4 : Nat) : Int) + 1 ≤ 4) = false := by simp
                  have HAL := hide (all_any HQ5.out HFB.out.2)
                  clear hj
                  go_wp2_with fail
                  refine HAL.out.mono ?_
                  rintro e w6 ⟨a6, c6, rfl, -, g6⟩
                  have HQ6 := hide (HQ5.out.grow g6)
                  have HG6 := hide (HG5.out.trans g6)
                  clear g6 HAL
                  go_wp2
                  go_roundw
                  case rel => exact ⟨i + 1, _, _, _, HI.out, rfl, HQ6.out, HF5.out, HG6.out⟩
                  case measure => have := HI.out; simp [Go.RowKit.intOf]; omega
                · have hb := HAD.out j hlt
                  have hA := HAB.out
                  have hc : (w5).cell? ⟨wo.heap.size, j + 1, none⟩ = some (.int .i64 ((Q j).length : Int)) := (HB5.out.cell (j + 1)).trans (by unfold ints; rw [List.getElem?_map, wl_get Q hlt]; rfl)
                  have h1 := cat_len HFB.out.2 j hj
                  have h2 := HFB.out.2 j hlt
                  have hw2 : IntKind.i64.wrap (((cat Q5 j).length : Int) + ((Q5 j).length : Int)) = ((cat Q5 (j + 1)).length : Nat) := (w64 (by omega)).trans (by simp [cat])
                  have q1 : decide ((j : Int) + 1 ≤ 4) = true := decide_eq_true (by omega)
                  have q3 : (j : Int) + 1 < 5 := by omega
                  have hwj : IntKind.i64.wrap ((j : Int) + 1 + 1) = ((j + 1 : Nat) : Int) + 1 := (w64 (by omega)).trans (by omega)
                  have HLN := hide (len_any HQ5.out ((j : Int) + 1))
                  have el : lnV Q5 ((j : Int) + 1) = ((Q5 j).length : Int) := by unfold lnV; rw [(at_q hlt).1, if_pos rfl, (at_q hlt).2]
                  rw [el] at HLN
                  have HJ := hide hlt
                  obtain ⟨N1, hN1⟩ : ∃ N1 : Nat, (cat Q5 (j + 1)).length = N1 := ⟨_, rfl⟩
                  rw [hN1] at hw2
                  have HN1 := hide hN1
                  by_cases ej : j = X
                  · subst ej
                    rw [if_pos rfl] at hb
                    have hw1 : IntKind.i64.wrap (((Q j).length : Int) + -1) = ((Q5 j).length : Int) := (w64 (by omega)).trans hb.symm
                    have hw3 : IntKind.i64.wrap ((Q5 j).length : Int) = ((Q5 j).length : Int) := w64 (by omega)
                    have hw4 : wrap64 ((Q5 j).length : Int) = ((Q5 j).length : Int) := wrap64_id _ (by omega)
                    clear hb hA h1 h2 el hN1 hj hlt
                    generalize ((Q5 j).length : Int) = N5 at *
                    generalize ((Q j).length : Int) = N0 at *
                    generalize ((cat Q5 j).length : Int) = N2 at *
                    go_wp2_with fail
                    refine HLN.out.mono ?_
                    rintro e w6 ⟨rfl, rfl⟩
                    go_wp2
                    go_roundw
                    case rel => exact ⟨j + 1, HJ.out, rfl, by rw [HN1.out], by first | rfl | trivial⟩
                    case measure => have := HJ.out; simp [Go.RowKit.intOf]; omega
                  · rw [if_neg ej, Int.add_zero] at hb
                    rw [← hb] at hc
                    have q4 : ((j : Int) + 1 == (X : Int) + 1) = false := by simp; omega
                    clear hb hA h1 h2 el hN1 hj hlt
                    generalize ((Q5 j).length : Int) = N5 at *
                    generalize ((cat Q5 j).length : Int) = N2 at *
                    go_wp2_with fail
                    refine HLN.out.mono ?_
                    rintro e w6 ⟨rfl, rfl⟩
                    go_wp2
                    go_roundw
                    case rel => exact ⟨j + 1, HJ.out, rfl, by rw [HN1.out], by first | rfl | trivial⟩
                    case measure => have := HJ.out; simp [Go.RowKit.intOf]; omega
          · have q2 : (K == 2) = false := by simpa using hK
            go_wp2_with fail
            refine (put_any HQ2.out wY ((X : Int) + 1) (HF.out.b (by have := HI.out; have := HL.out; omega)).1 (HF.out.b (by have := HI.out; have := HL.out; omega)).2).mono ?_
            rintro e w5 ⟨rfl, c5, S5, h5, s5⟩
            have hX1 := (at_q HX.out).1
            have hX2 := (at_q HX.out).2
            have HF5 := hide (few_put HF.out ((X : Int) + 1) Y)
            have HB5 := hide (HB.out.chg c5 fun e => by have := (HQ.out.s e).2; omega)
            have HG5 := hide (HQ2.out.step (HG.out.trans HG2.out) S0.out c5)
            by_cases hE : Y ∈ E
            · have e1 : puB E ((X : Int) + 1) Y = false := by unfold puB; rw [hX1, decide_eq_true hE]; rfl
              have e2 : puQ Q E ((X : Int) + 1) Y = Q := by unfold puQ; rw [e1]; rfl
              rw [e2] at h5 HF5
              rw [e1]
              have HQ5 := hide h5
              have HAB := hide (show (-1 : Int) ≤ 0 ∧ (0 : Int) ≤ 1 by omega)
              have HAD := hide (show ∀ k, k < 4 → ((Q k).length : Int) = (Q k).length + if k = X then 0 else 0 from fun k hk => by split <;> omega)
              clear h5 c5 s5 e1 e2 hE k0 k2 HB HQ2 HG2
              have hwi : IntKind.i64.wrap ((i : Int) + 1) = ((i + 1 : Nat) : Int) := (w64 (by have := HI.out; have := HL.out; omega)).trans (by omega)
              have HFB := hide (HF5.out.b (by have := HI.out; have := HL.out; omega))
              go_wp2_with fail
              go_loopw [13, 14] (fun s c wq => ∃ j : Nat, j ≤ 4 ∧ c = .int .i64 ((j : Int) + 1) ∧ s = .int .i64 (((cat Q j).length : Nat) : Int) ∧ w5 = wq) (fun _ c _ => 5 - (Go.RowKit.intOf c).toNat)
              case atStart => exact ⟨0, by omega, rfl, rfl, rfl⟩
              case round =>
                obtain ⟨j, hj, rfl, rfl, hwq⟩ := hrel
                subst hwq
                rcases Nat.eq_or_lt_of_le hj with rfl | hlt
                · have hq2 : decide (((4 : Nat) : Int) + 1 ≤ 4) = false := by simp
                  have HAL := hide (all_any HQ5.out HFB.out.2)
                  clear hj
                  go_wp2_with fail
                  refine HAL.out.mono ?_
                  rintro e w6 ⟨a6, c6, rfl, -, g6⟩
                  have HQ6 := hide (HQ5.out.grow g6)
                  have HG6 := hide (HG5.out.trans g6)
                  clear g6 HAL
                  go_wp2
                  go_roundw
                  case rel => exact ⟨i + 1, _, _, _, HI.out, rfl, HQ6.out, HF5.out, HG6.out⟩
                  case measure => have := HI.out; simp [Go.RowKit.intOf]; omega
                · have hb := HAD.out j hlt
                  have hA := HAB.out
                  have hc : (w5).cell? ⟨wo.heap.size, j + 1, none⟩ = some (.int .i64 ((Q j).length : Int)) := (HB5.out.cell (j + 1)).trans (by unfold ints; rw [List.getElem?_map, wl_get Q hlt]; rfl)
                  have h1 := cat_len HFB.out.2 j hj
                  have h2 := HFB.out.2 j hlt
                  have hw2 : IntKind.i64.wrap (((cat Q j).length : Int) + ((Q j).length : Int)) = ((cat Q (j + 1)).length : Nat) := (w64 (by omega)).trans (by simp [cat])
                  have q1 : decide ((j : Int) + 1 ≤ 4) = true := decide_eq_true (by omega)
                  have q3 : (j : Int) + 1 < 5 := by omega
                  have hwj : IntKind.i64.wrap ((j : Int) + 1 + 1) = ((j + 1 : Nat) : Int) + 1 := (w64 (by omega)).trans (by omega)
                  have HLN := hide (len_any HQ5.out ((j : Int) + 1))
                  have el : lnV Q ((j : Int) + 1) = ((Q j).length : Int) := by unfold lnV; rw [(at_q hlt).1, if_pos rfl, (at_q hlt).2]
                  rw [el] at HLN
                  have HJ := hide hlt
                  obtain ⟨N1, hN1⟩ : ∃ N1 : Nat, (cat Q (j + 1)).length = N1 := ⟨_, rfl⟩
                  rw [hN1] at hw2
                  have HN1 := hide hN1
                  by_cases ej : j = X
                  · subst ej
                    rw [if_pos rfl] at hb
                    have hw1 : IntKind.i64.wrap (((Q j).length : Int) + 0) = ((Q j).length : Int) := (w64 (by omega)).trans hb.symm
                    have hw3 : IntKind.i64.wrap ((Q j).length : Int) = ((Q j).length : Int) := w64 (by omega)
                    have hw4 : wrap64 ((Q j).length : Int) = ((Q j).length : Int) := wrap64_id _ (by omega)
                    clear hb hA h1 h2 el hN1 hj hlt
                    generalize ((Q j).length : Int) = N5 at *
                    generalize ((Q j).length : Int) = N0 at *
                    generalize ((cat Q j).length : Int) = N2 at *
                    go_wp2_with fail
                    refine HLN.out.mono ?_
                    rintro e w6 ⟨rfl, rfl⟩
                    go_wp2
                    go_roundw
                    case rel => exact ⟨j + 1, HJ.out, rfl, by rw [HN1.out], by first | rfl | trivial⟩
                    case measure => have := HJ.out; simp [Go.RowKit.intOf]; omega
                  · rw [if_neg ej, Int.add_zero] at hb
                    rw [← hb] at hc
                    have q4 : ((j : Int) + 1 == (X : Int) + 1) = false := by simp; omega
                    clear hb hA h1 h2 el hN1 hj hlt
                    generalize ((Q j).length : Int) = N5 at *
                    generalize ((cat Q j).length : Int) = N2 at *
                    go_wp2_with fail
                    refine HLN.out.mono ?_
                    rintro e w6 ⟨rfl, rfl⟩
                    go_wp2
                    go_roundw
                    case rel => exact ⟨j + 1, HJ.out, rfl, by rw [HN1.out], by first | rfl | trivial⟩
                    case measure => have := HJ.out; simp [Go.RowKit.intOf]; omega
            · have e1 : puB E ((X : Int) + 1) Y = true := by unfold puB; rw [hX1, decide_eq_false hE]; rfl
              rw [e1]
              have HQ5 := hide h5
              have HAB := hide (show (-1 : Int) ≤ 1 ∧ (1 : Int) ≤ 1 by omega)
              have HAD := hide (show ∀ k, k < 4 → ((puQ Q E ((X : Int) + 1) Y k).length : Int) = (Q k).length + if k = X then 1 else 0 from fun k hk => by
                unfold puQ
                rw [e1, if_pos rfl, hX2]
                by_cases e : k = X
                · rw [e, upd_at, if_pos rfl]; simp
                · rw [upd_ne _ _ e, if_neg e]; omega)
              clear h5 c5 s5 e1 hE k0 k2 HB HQ2 HG2
              generalize puQ Q E ((X : Int) + 1) Y = Q5 at *
              have hwi : IntKind.i64.wrap ((i : Int) + 1) = ((i + 1 : Nat) : Int) := (w64 (by have := HI.out; have := HL.out; omega)).trans (by omega)
              have HFB := hide (HF5.out.b (by have := HI.out; have := HL.out; omega))
              go_wp2_with fail
              go_loopw [13, 14] (fun s c wq => ∃ j : Nat, j ≤ 4 ∧ c = .int .i64 ((j : Int) + 1) ∧ s = .int .i64 (((cat Q5 j).length : Nat) : Int) ∧ w5 = wq) (fun _ c _ => 5 - (Go.RowKit.intOf c).toNat)
              case atStart => exact ⟨0, by omega, rfl, rfl, rfl⟩
              case round =>
                obtain ⟨j, hj, rfl, rfl, hwq⟩ := hrel
                subst hwq
                rcases Nat.eq_or_lt_of_le hj with rfl | hlt
                · have hq2 : decide (((4 : Nat) : Int) + 1 ≤ 4) = false := by simp
                  have HAL := hide (all_any HQ5.out HFB.out.2)
                  clear hj
                  go_wp2_with fail
                  refine HAL.out.mono ?_
                  rintro e w6 ⟨a6, c6, rfl, -, g6⟩
                  have HQ6 := hide (HQ5.out.grow g6)
                  have HG6 := hide (HG5.out.trans g6)
                  clear g6 HAL
                  go_wp2
                  go_roundw
                  case rel => exact ⟨i + 1, _, _, _, HI.out, rfl, HQ6.out, HF5.out, HG6.out⟩
                  case measure => have := HI.out; simp [Go.RowKit.intOf]; omega
                · have hb := HAD.out j hlt
                  have hA := HAB.out
                  have hc : (w5).cell? ⟨wo.heap.size, j + 1, none⟩ = some (.int .i64 ((Q j).length : Int)) := (HB5.out.cell (j + 1)).trans (by unfold ints; rw [List.getElem?_map, wl_get Q hlt]; rfl)
                  have h1 := cat_len HFB.out.2 j hj
                  have h2 := HFB.out.2 j hlt
                  have hw2 : IntKind.i64.wrap (((cat Q5 j).length : Int) + ((Q5 j).length : Int)) = ((cat Q5 (j + 1)).length : Nat) := (w64 (by omega)).trans (by simp [cat])
                  have q1 : decide ((j : Int) + 1 ≤ 4) = true := decide_eq_true (by omega)
                  have q3 : (j : Int) + 1 < 5 := by omega
                  have hwj : IntKind.i64.wrap ((j : Int) + 1 + 1) = ((j + 1 : Nat) : Int) + 1 := (w64 (by omega)).trans (by omega)
                  have HLN := hide (len_any HQ5.out ((j : Int) + 1))
                  have el : lnV Q5 ((j : Int) + 1) = ((Q5 j).length : Int) := by unfold lnV; rw [(at_q hlt).1, if_pos rfl, (at_q hlt).2]
                  rw [el] at HLN
                  have HJ := hide hlt
                  obtain ⟨N1, hN1⟩ : ∃ N1 : Nat, (cat Q5 (j + 1)).length = N1 := ⟨_, rfl⟩
                  rw [hN1] at hw2
                  have HN1 := hide hN1
                  by_cases ej : j = X
                  · subst ej
                    rw [if_pos rfl] at hb
                    have hw1 : IntKind.i64.wrap (((Q j).length : Int) + 1) = ((Q5 j).length : Int) := (w64 (by omega)).trans hb.symm
                    have hw3 : IntKind.i64.wrap ((Q5 j).length : Int) = ((Q5 j).length : Int) := w64 (by omega)
                    have hw4 : wrap64 ((Q5 j).length : Int) = ((Q5 j).length : Int) := wrap64_id _ (by omega)
                    clear hb hA h1 h2 el hN1 hj hlt
                    generalize ((Q5 j).length : Int) = N5 at *
                    generalize ((Q j).length : Int) = N0 at *
                    generalize ((cat Q5 j).length : Int) = N2 at *
                    go_wp2_with fail
                    refine HLN.out.mono ?_
                    rintro e w6 ⟨rfl, rfl⟩
                    go_wp2
                    go_roundw
                    case rel => exact ⟨j + 1, HJ.out, rfl, by rw [HN1.out], by first | rfl | trivial⟩
                    case measure => have := HJ.out; simp [Go.RowKit.intOf]; omega
                  · rw [if_neg ej, Int.add_zero] at hb
                    rw [← hb] at hc
                    have q4 : ((j : Int) + 1 == (X : Int) + 1) = false := by simp; omega
                    clear hb hA h1 h2 el hN1 hj hlt
                    generalize ((Q5 j).length : Int) = N5 at *
                    generalize ((cat Q5 j).length : Int) = N2 at *
                    go_wp2_with fail
                    refine HLN.out.mono ?_
                    rintro e w6 ⟨rfl, rfl⟩
                    go_wp2
                    go_roundw
                    case rel => exact ⟨j + 1, HJ.out, rfl, by rw [HN1.out], by first | rfl | trivial⟩
                    case measure => have := HJ.out; simp [Go.RowKit.intOf]; omega
        · have HB := hide hb
          have HG2 := hide hg
          have HJ := hide hlt
          have q1 : decide ((j : Int) + 1 ≤ 4) = true := decide_eq_true (by omega)
          have q2 : (j : Int) + 1 < 5 := by omega
          have hw : IntKind.i64.wrap ((j : Int) + 1 + 1) = ((j + 1 : Nat) : Int) + 1 := (w64 (by omega)).trans (by omega)
          obtain ⟨y, hy⟩ : ∃ y, (ints (wl Q j))[j + 1]? = some y := ⟨_, List.getElem?_eq_getElem (by rw [ints_length]; simp [wl]; omega)⟩
          have hc : wq.cell? ⟨wo.heap.size, j + 1, none⟩ = some y := (hb.cell (j + 1)).trans hy
          have hfr := hb.frozen (j + 1)
          have HLN := hide (len_any (HQ.out.grow hg) ((j : Int) + 1))
          have el : lnV Q ((j : Int) + 1) = ((Q j).length : Int) := by unfold lnV; rw [(at_q hlt).1, if_pos rfl, (at_q hlt).2]
          rw [el] at HLN
          have HS := hide (show ints (wl Q (j + 1)) = (ints (wl Q j)).set (j + 1) (.int .i64 ((Q j).length : Int)) by rw [← wl_set Q hlt, ints_set])
          clear hb hg hj hlt hy el
          go_wp2_with fail
          refine HLN.out.mono ?_
          rintro e w5 ⟨rfl, rfl⟩
          go_wp2
          go_roundw
          case rel => exact ⟨j + 1, HJ.out, rfl, by rw [HS.out]; exact HB.out.set_ _ _, HG2.out.setCell (fun h => by simp at h) _⟩
          case measure => have := HJ.out; simp [Go.RowKit.intOf]; omega
end
theorem walk (a : Option Addr) (len cap : Nat) (rows : List (List Value)) (w : World) (hr : IsOps w a len cap rows) :
    Calls Try.prog 7 #[.slice a len cap] w fun e w' => e = .returned (.bool true) ∧ Below w.heap.size w w' := by
  by_cases h : 200 < len
  · exact walk_long h
  · exact walk_main hr (by omega)

theorem own : ownKnob Try.prog.godebug = none := by kernel_rfl
theorem laidOut : laidOutB Try.prog = true := by kernel_rfl

set_option maxRecDepth 100000 in
theorem lifted (os : Os) (started : os.Started) (H : Type) (enc : TypeId × Value → H) :
    ReturnsInHanded {} Try.checked os 7 .any (Rows.queueApartSpec.pre6 enc Try.prog Try.f7 Rows.queueApartRow.domain false) (Rows.queueApartSpec.post enc Try.prog Try.f7 false true false false) := by
  refine returnsInHanded_of_change (C := Try.checked) own started (by kernel_rfl) Try.func7
    (ChangeSpec.witness6 (enc := enc) (C := Try.checked) false ⟨#[], #[.slice none 0 0], []⟩ 8 (by kernel_rfl) (by kernel_rfl) (by kernel_rfl) (by kernel_rfl)) ?_
  intro W base args ds gs before hval0 hW hcnd _
  have hval : ∀ (j : Nat) t v, Try.f7.params[j]? = some t → args[j]? = some v → Value.okWide Try.prog W .any base t v := hval0
  have hW' := hW
  obtain ⟨p, q, hA0, hV, rfl, hfz, hnd⟩ := hW
  have hA : DataW.TrodAll enc Try.prog W 0 (fun _ => true) true Try.f7.params.toList args.toList ds p := hA0
  rw [Try.params7] at hA hval
  obtain ⟨v0, vs0, d0, ds0, p0, q0, hargs, rfl, rfl, h0, r0⟩ := trodAll_cons hA
  obtain ⟨rfl, rfl, rfl⟩ := trodAll_nil r0
  obtain rfl : args = #[v0] := by cases args; simp_all
  obtain ⟨rfl, rfl⟩ := trodVars_none hV
  have k0 := h0
  have lt0 : ∀ x ∈ p0, x.block < W.heap.size := by obtain ⟨m, hm⟩ := k0; exact DataW.trod_lt m _ _ _ hm
  obtain ⟨a0, len0, cap0, rows0, rfl, w0⟩ := open_ops (hval 0 22 v0 rfl rfl) h0
  clear hA0 hval0
  refine (walk a0 len0 cap0 rows0 W w0).mono fun e W' ⟨he, bel⟩ => ?_
  subst he
  exact ⟨_, rfl, _, _, _, [], _, [], hW', trodAll_mk1 (shut_bool Try.underlying4 _), (trodAll_cons_mk (Below.trod laidOut (by kernel_rfl) (of_decide_eq_true (by kernel_rfl)) k0 bel lt0) trodAll_mk0), rfl, bel.frame _, fun h => by cases h⟩

theorem over : Rows.queueApartRow.holds Try.pinned (OpenSpec.ofChange Rows.queueApartSpec) :=
  OpenClaim.holds_of_wide 7 Try.f7 rfl rfl rfl rfl rfl rfl rfl ⟨rfl, rfl, rfl, rfl, rfl⟩ rfl rfl rfl rfl rfl (by kernel_rfl) Try.func7 (by kernel_rfl)
    (of_decide_eq_true (by kernel_rfl)) (by unfold Func.isWrapper; first | (rw [if_pos (by decide +kernel)]; kernel_rfl) | (rw [if_neg (by decide +kernel)]; exact ⟨rfl, rfl⟩))
    (fun os started H enc _ => lifted os started H enc)

/-- The statement. -/
theorem proved : Rows.QueueApartSaid := over
#print axioms proved
end Go.Proofs.Ytgaoodjlcjmomaa.queueApart


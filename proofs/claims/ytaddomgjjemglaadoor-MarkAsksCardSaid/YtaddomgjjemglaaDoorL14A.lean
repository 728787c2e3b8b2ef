/- That 'awake' of the laws answers true. Conditions: the table of TrailingZeros64 is laid. -/
import Derived.Test.YtaddomgjjemglaaDoorL14B
namespace Go.Proofs.YtaddomgjjemglaaDoor.L14
open Go.ChangeShapes Go.WideShapes Go.ChangeAt Go.RowKit
open Go.Proofs.YtaddomgjjemglaaDoor.L3 (Ms Tab ms_set ms_len ms_has ms_next ms_count ms_new clamp ptr exB exB_in exB_out exB_nat setI cnt cnt_le cnt_congr cnt_on cnt_none upd upd_at upd_ne hasI has_is nx nx_cases)
set_option linter.unusedVariables false
/-- The lists of 'awake'. -/
abbrev aw : List (List Int) := [[1, 2], [], [4]]
theorem aw_few : fewB aw 1 = true := by decide
theorem aw_set {S : Nat → Bool} (h : ∀ j, S j = true ↔ Rch 5 (eL aw) [0] j) : S = fun j => decide (j = 0 ∨ j = 1 ∨ j = 2 ∨ j = 4) := by
  have h0 : Rch 5 (eL aw) [0] 0 := .st (by simp) (by decide)
  have h1 : Rch 5 (eL aw) [0] 1 := .go h0 (by simp [eL]) (by decide)
  have h2 : Rch 5 (eL aw) [0] 2 := .go h0 (by simp [eL]) (by decide)
  have h4 : Rch 5 (eL aw) [0] 4 := .go h2 (by simp [eL]) (by decide)
  have hall : ∀ j, Rch 5 (eL aw) [0] j → j = 0 ∨ j = 1 ∨ j = 2 ∨ j = 4 := fun j hj => by
    induction hj with
    | st h _ => left; have := List.mem_singleton.1 h; omega
    | go _ h _ ih =>
      rcases ih with rfl | rfl | rfl | rfl
      · simp [eL] at h; omega
      · simp [eL] at h
      · simp [eL] at h; omega
      · simp [eL] at h
  funext j
  cases hs : S j with
  | true => exact (decide_eq_true (hall j ((h j).1 hs))).symm
  | false =>
    refine (decide_eq_false fun hj => ?_).symm
    have : Rch 5 (eL aw) [0] j := by
      rcases hj with rfl | rfl | rfl | rfl
      · exact h0
      · exact h1
      · exact h2
      · exact h4
    rw [(h j).2 this] at hs
    cases hs
section
variable {w W W' : World}
theorem aw_lists (w : World) : ∃ W B, ((((w.alloc (.cells #[.int .i64 1, .int .i64 2] 3)).alloc (.cells #[] 3)).alloc (.cells #[.int .i64 4] 3)).alloc (.cells #[.slice (some ⟨w.heap.size, 0, none⟩) 2 2, .slice (some ⟨w.heap.size + 1, 0, none⟩) 0 0, .slice (some ⟨w.heap.size + 1 + 1, 0, none⟩) 1 1] 23)) = W ∧
    w.heap.size + 1 + 1 + 1 = B ∧ IsLs B W (some ⟨B, 0, none⟩) 3 aw ∧ B < W.heap.size ∧ Grow w W := by
  refine ⟨_, _, rfl, rfl, ?_⟩
  obtain ⟨h1, h2, h3, hg, -⟩ := boxes3 w 3 [.int .i64 1, .int .i64 2] 3 [] 3 [.int .i64 4]
  have e : (((w.alloc (.cells [.int .i64 1, .int .i64 2].toArray 3)).alloc (.cells [].toArray 3)).alloc (.cells [.int .i64 4].toArray 3)).heap.size = w.heap.size + 1 + 1 + 1 := by simp
  have h4 := Blk.new (((w.alloc (.cells [.int .i64 1, .int .i64 2].toArray 3)).alloc (.cells [].toArray 3)).alloc (.cells [.int .i64 4].toArray 3)) 23 [.slice (some ⟨w.heap.size, 0, none⟩) 2 2, .slice (some ⟨w.heap.size + 1, 0, none⟩) 0 0, .slice (some ⟨w.heap.size + 1 + 1, 0, none⟩) 1 1]
  rw [e] at h4
  refine ⟨⟨rfl, fun _ => ⟨_, rfl, fun i hi => ?_⟩⟩, h4.lt, hg.alloc _⟩
  rw [addr_add, Nat.zero_add]
  match i, hi with
  | 0, _ => exact ⟨_, 2, h4.cell 0, L1.Rd.of_blk (xs := [1, 2]) (h1.alloc _) rfl, fun _ y e => by injection e with e; subst e; show w.heap.size < _; omega⟩
  | 1, _ => exact ⟨_, 0, h4.cell 1, L1.Rd.nothing, fun h => absurd h (by simp)⟩
  | 2, _ => exact ⟨_, 1, h4.cell 2, L1.Rd.of_blk (xs := [4]) (h3.alloc _) rfl, fun _ y e => by injection e with e; subst e; show w.heap.size + 1 + 1 < _; omega⟩
set_option maxRecDepth 100000 in
set_option maxHeartbeats 1000000 in
theorem awake_any (ht : Tab w) : Calls Tryd.prog 10 #[] w fun e w' => e = .returned (.bool true) ∧ Grow w w' := by
  have HT := hide ht
  clear ht
  obtain ⟨W4, B, hW, hB, hls, hlt, hg⟩ := aw_lists w
  have HL := hide hls
  have HG := hide hg
  have HLT := hide hlt
  go_enter Tryd.func10, Tryd.ntmps10
  go_wp2_with fail
  clear hW hB hls hlt hg
  refine (by_any (.bool true) _).mono ?_
  rintro e w5 ⟨rfl, hw5⟩
  have gB := Grow.box W4 (.cells #[.slice (some ⟨B, 0, none⟩) 3 3] 22)
  have hc := (Blk.new W4 22 [.slice (some ⟨B, 0, none⟩) 3 3]).cell 0
  have HW5 := hide hw5
  rw [show W4.alloc (.cells #[.slice (some ⟨B, 0, none⟩) 3 3] 22) = w5 from hw5.symm] at gB
  rw [show W4.alloc (.cells [.slice (some ⟨B, 0, none⟩) 3 3].toArray 22) = w5 from hw5.symm] at hc
  have HC := hide hc
  have HGB := hide gB
  have HLT5 := hide (Nat.le_of_lt (Nat.lt_of_lt_of_le HLT.out gB.size))
  clear hw5 gB hc
  generalize W4.heap.size = b at *
  have HED := hide (ed_by (n := 5) ((Grow.box w5 (.cells #[.int .i64 0] 3)).cell HC.out) (HL.out.grow (HGB.out.trans (Grow.box w5 (.cells #[.int .i64 0] 3)))) (Nat.le_trans HLT5.out (Grow.box w5 (.cells #[.int .i64 0] 3)).size) (eL_len aw_few))
  have HRD := hide (rd_one w5 0)
  have HT5 := hide (HT.out.chg (HG.out.trans (HGB.out.trans (Grow.box w5 (.cells #[.int .i64 0] 3)))) id)
  have HG5 := hide (HG.out.trans (HGB.out.trans (Grow.box w5 (.cells #[.int .i64 0] 3))))
  clear HT HG HC HW5 HGB HL HLT HLT5
  go_wp2_with fail
  generalize w5.alloc (.cells #[.int .i64 0] 3) = w6 at *
  obtain ⟨S, hS⟩ := ex_rch 5 (eL aw) [0]
  have hs := aw_set hS
  refine (reach_any HED.out HT5.out HRD.out (by decide) (Chg.refl _ _) hS rfl (r := 9) (by decide)).mono ?_
  rintro e w7 ⟨p, g, rn, rfl, hms, -, -, hrn, -, hg7⟩
  have hc4 : cnt S 5 = 4 := by rw [hs]; decide
  obtain rfl : rn = 0 := by omega
  have HM := hide hms
  have HG7 := hide (HG5.out.trans (hg7.mono fun _ _ e => e.elim))
  have H4 := hide (show ((cnt S 5 : Nat) : Int) = 4 by rw [hc4]; rfl)
  have H3 := hide (show hasI S 5 3 = false by rw [hs]; decide)
  clear hS hs hms hrn hg7 hc4
  go_wp2_with fail
  refine (ms_len HM.out).mono ?_
  rintro e w8 ⟨rfl, rfl⟩
  go_wp2_with fail
  refine (L3.count_is HM.out H4.out).mono ?_
  rintro e w8 ⟨rfl, c8⟩
  have HM8 := hide (HM.out.grow c8)
  have HG8 := hide (HG7.out.trans c8)
  clear c8
  go_wp2_with fail
  refine (has_is HM8.out H3.out).mono ?_
  rintro e w9 ⟨rfl, c9⟩
  go_wp2
  go_returns
  exact ⟨rfl, HG8.out.trans c9⟩
end
end Go.Proofs.YtaddomgjjemglaaDoor.L14

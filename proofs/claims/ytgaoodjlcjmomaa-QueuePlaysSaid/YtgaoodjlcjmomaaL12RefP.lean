/- The plain set: Put. Conditions: at most 1000000 things. -/
import Derived.Test.YtgaoodjlcjmomaaL12Ref
namespace Go.Proofs.Ytgaoodjlcjmomaa.L12
open Go.ChangeShapes Go.WideShapes Go.ChangeAt Go.RowKit
set_option linter.unusedVariables false
section
variable {w w' W W5 : World} {z p n i b : Nat} {S T : Nat → Prop} {v : Nat → Value} {Q : Nat → List Int} {E l xs : List Int} {x q : Int} {a : Option Addr}
set_option maxRecDepth 100000 in
theorem rput_out (hq : isQ q = false) (p : Nat) (w : World) :
    Calls Try.prog 13 #[ptr p, .int .i64 q, .int .i64 x] w fun e w' => e = .returned (.tuple #[.bool false, .int .i64 1]) ∧ w = w' := by
  have HQ := isQ_no hq
  clear hq
  by_cases h1 : q < 1
  · have q1 : decide (q < 1) = true := by simpa using h1
    clear HQ h1
    go_enter Try.func13, Try.ntmps13
    go_wp2
    go_returns
    exact ⟨rfl, rfl⟩
  · have q1 : decide (q < 1) = false := by simpa using h1
    have q2 : decide (q > 4) = true := by simp; omega
    clear HQ h1
    go_enter Try.func13, Try.ntmps13
    go_wp2
    go_returns
    exact ⟨rfl, rfl⟩
/-- The empty list, made anew. -/
theorem lit_ql (W : World) : QL (W.alloc (.cells #[] 3)) W.heap.size (.slice (some ⟨W.heap.size, 0, none⟩) 0 0) [] :=
  own_ql (xs := []) (World.ownsRow_lit (e := 3) (size := 1) (base := W.heap.size) W #[] 0 (Nat.le_refl _) (by unfold maxLen; omega) rfl)
/-- A copy of a list behind the empty one at block b: its value is written out. -/
theorem app_one (g : Grow W5 W) (hb : QL W W5.heap.size (.slice (some ⟨b, 0, none⟩) 0 0) []) (hr : L1.Rd W a n xs) (hn : n < 1000000) (c : Nat) :
    ∃ a1 c1 W1, (Builtin.append_ #[25, 25] 25 #[.slice (some ⟨b, 0, none⟩) 0 0, .slice a n c]).run Try.prog W = .ok (.slice a1 n c1) W1 ∧ QL W1 W5.heap.size (.slice a1 n c1) xs ∧ Grow W5 W1 ∧ Chg (· = b) W W1 := by
  obtain ⟨v', W', h1, h2, h3, h4⟩ := app_more (c0 := c) g hb hr (by simp; omega)
  rw [List.nil_append] at h2
  obtain ⟨a1, c1, e, -⟩ := h2.form
  rw [hr.1] at e
  subst e
  exact ⟨a1, c1, W', h1, h2, h3, h4.os, h4.tape, h4.output, h4.size, fun k hk hne => h4.block k hk fun e => hne (by injection e)⟩
/-- One more. -/
theorem app_x {a1 : Option Addr} {c1 : Nat} (g : Grow W5 W) (hq : QL W W5.heap.size (.slice a1 n c1) xs) (hr : L1.Rd W (some ⟨b, 0, none⟩) 1 [x]) (hn : xs.length < 1000000) :
    ∃ a2 c2 W2, (Builtin.append_ #[25, 25] 25 #[.slice a1 n c1, .slice (some ⟨b, 0, none⟩) 1 1]).run Try.prog W = .ok (.slice a2 (xs.length + 1) c2) W2 ∧ QL W2 W5.heap.size (.slice a2 (xs.length + 1) c2) (xs ++ [x]) ∧ Grow W5 W2 := by
  obtain ⟨v', W', h1, h2, h3, h4⟩ := app_more (c0 := 1) g hq hr (by omega)
  obtain ⟨a2, c2, e, -⟩ := h2.form
  rw [List.length_append, List.length_singleton] at e
  subst e
  exact ⟨a2, c2, W', h1, h2, h3⟩
theorem rd_at {W : World} {g : Nat} (h : Blk W g 3 [.int .i64 x]) : L1.Rd W (some ⟨g, 0, none⟩) 1 [x] := L1.Rd.of_blk (xs := [x]) h rfl
/-- The copy in its place. -/
theorem Fv.copy {W2 : World} {a2 : Option Addr} {c2 m : Nat} (h : Fv W5 z p 32 T v (upd Q 4 E)) (hi : i < 4) (g : Grow W5 W2) (hq : QL W2 W5.heap.size (.slice a2 m c2) l) :
    (W2.cell? ⟨p, i, none⟩ = some (v i) ∧ W2.frozen? ⟨p, i, none⟩ = false) ∧ Chg T W5 (W2.setCell ⟨p, i, none⟩ (.slice a2 m c2)) ∧ ∃ T', RS (W2.setCell ⟨p, i, none⟩ (.slice a2 m c2)) z p T' (upd Q i l) E ∧ ∀ k, T' k → T k ∨ W5.heap.size ≤ k := by
  have hz := h.s p h.sg
  have hb := h.blk.chg g id
  have hF := h.put (by decide) (show i < 5 by omega) (hq.lower (by omega)) g (fun _ _ h => h.elim) fun k hk => .inr (hq.lt k hk).1
  refine ⟨⟨by rw [hb.cell, five_get v (by omega)], hb.frozen i⟩, (g.mono fun _ _ h => h.elim).setCell (p := ⟨p, i, none⟩) (fun _ => h.sg) _, (fun k => T k ∨ (Value.slice a2 m c2).ownBlock = some k), ?_, fun k hk => hk.elim .inl fun e => .inr (hq.lt k e).1⟩
  show FS _ _ _ _ _ _
  rw [upd_comm Q (show i ≠ 4 by omega)]
  exact ⟨_, hF⟩
set_option maxRecDepth 100000 in
set_option maxHeartbeats 1000000 in
theorem rput_was (h : RS w z p S Q E) (hi : i < 4) (hb : E.length < 1000000) (hc : (Q i).length < 1000000) (hm : x ∈ E) :
    Calls Try.prog 13 #[ptr p, .int .i64 ((i : Int) + 1), .int .i64 x] w fun e w' => e = .returned (.tuple #[.bool false, .int .i64 0]) ∧ Grow w w' := by
  obtain ⟨v, h⟩ := h
  obtain ⟨a4, c4, e4, r4⟩ := (h.ls.ql 4 (by omega)).form
  have k4 := h.cell (show 4 < 5 by omega)
  rw [upd_at] at e4 r4
  rw [e4] at k4
  have q1 : decide ((i : Int) + 1 < 1) = false := by simp; omega
  have q2 : decide ((i : Int) + 1 > 4) = false := by simp; omega
  have HI := hide hi
  have HH := hide h
  have HB := hide (And.intro hb hc)
  have HR := hide r4
  obtain ⟨N, hN⟩ : ∃ N, E.length = N := ⟨_, rfl⟩
  rw [hN] at HR k4
  have HN := hide hN
  have HM := hide hm
  clear h hi hb hc r4 hN hm
  go_enter Try.func13, Try.ntmps13
  go_wp2_with fail
  go_loopw [20] (fun c wr => ∃ k : Nat, k ≤ N ∧ c = .int .i64 k ∧ (¬ x ∈ E.take k) ∧ w = wr) (fun c _ => N - (Go.RowKit.intOf c).toNat)
  case atStart => exact ⟨0, Nat.zero_le _, rfl, by simp, rfl⟩
  case round =>
    obtain ⟨k, hk, rfl, hno, hw⟩ := hrel
    subst hw
    rcases Nat.eq_or_lt_of_le hk with rfl | hlt
    · have q3 : decide ((k : Int) < k) = false := by simp
      have e := HN.out
      rw [← e, List.take_length] at hno
      exact absurd HM.out hno
    · have q3 : decide ((k : Int) < N) = true := decide_eq_true (by omega)
      have q5 : (k : Int) < N := by omega
      obtain ⟨ad, rfl, hc⟩ := HR.out.at_ hlt
      have hkl : k < E.length := by rw [HN.out]; exact hlt
      have hw : IntKind.i64.wrap ((k : Int) + 1) = ((k + 1 : Nat) : Int) := (w64 (by have := HB.out.1; have := HN.out; omega)).trans (by omega)
      by_cases he : E.getD k 0 = x
      · skip
        rw [he] at hc
        clear hno hk hkl he
        go_wp2
        go_returns
        exact ⟨rfl, Chg.refl _ _⟩
      · have HNO := hide (take_in hkl hno he)
        have q4 : (E.getD k 0 == x) = false := by simpa using he
        have HK := hide hlt
        clear hno hk hkl he hlt
        generalize E.getD k 0 = y at *
        go_wp2
        go_roundw
        case rel => exact ⟨k + 1, HK.out, rfl, HNO.out, by first | rfl | trivial⟩
        case measure => have := HK.out; simp [Go.RowKit.intOf]; omega
set_option maxRecDepth 100000 in
set_option maxHeartbeats 4000000 in
theorem rput_new (h : RS w z p S Q E) (hi : i < 4) (hb : E.length < 1000000) (hc : (Q i).length < 1000000) (hm : x ∉ E) :
    Calls Try.prog 13 #[ptr p, .int .i64 ((i : Int) + 1), .int .i64 x] w fun e w' => e = .returned (.tuple #[.bool true, .int .i64 0]) ∧ Chg S w w' ∧ ∃ S', RS w' z p S' (upd Q i (Q i ++ [x])) (E ++ [x]) ∧ ∀ k, S' k → S k ∨ w.heap.size ≤ k := by
  obtain ⟨v, h⟩ := h
  obtain ⟨a4, c4, e4, r4⟩ := (h.ls.ql 4 (by omega)).form
  have k4 := h.cell (show 4 < 5 by omega)
  rw [upd_at] at e4 r4
  rw [e4] at k4
  have q1 : decide ((i : Int) + 1 < 1) = false := by simp; omega
  have q2 : decide ((i : Int) + 1 > 4) = false := by simp; omega
  have HI := hide hi
  have HH := hide h
  have HB := hide (And.intro hb hc)
  have HR := hide r4
  obtain ⟨N, hN⟩ : ∃ N, E.length = N := ⟨_, rfl⟩
  rw [hN] at HR k4
  have HN := hide hN
  have HM := hide hm
  clear h hi hb hc r4 hN hm
  go_enter Try.func13, Try.ntmps13
  go_wp2_with fail
  go_loopw [20] (fun c wr => ∃ k : Nat, k ≤ N ∧ c = .int .i64 k ∧ (¬ x ∈ E.take k) ∧ w = wr) (fun c _ => N - (Go.RowKit.intOf c).toNat)
  case atStart => exact ⟨0, Nat.zero_le _, rfl, by simp, rfl⟩
  case round =>
    obtain ⟨k, hk, rfl, hno, hw⟩ := hrel
    subst hw
    rcases Nat.eq_or_lt_of_le hk with rfl | hlt
    · have q3 : decide ((k : Int) < k) = false := by simp
      have e := HN.out
      rw [← e, List.take_length] at hno
      rw [HN.out] at e4
      clear hno hk e HR
      have f4 := HH.out.blk.frozen 4
      obtain ⟨ar, cr, W4, p1, p2, ⟨p3, p4⟩, p5, p6, S5, h5, s5⟩ := HH.out.adds (x := x) (by decide) (show 4 < 5 by omega) (by rw [upd_at]; exact HB.out.1) (Grow.box w _) (rd_one w x)
      rw [upd_at] at p2 p6 h5
      rw [upd_upd] at h5
      clear HN
      obtain ⟨m, hm⟩ : ∃ m, E.length + 1 = m := ⟨_, rfl⟩
      rw [hm] at p2 p6 h5
      obtain ⟨W5, hW5⟩ : ∃ W5, W4.setCell ⟨p, 4, none⟩ (.slice ar m cr) = W5 := ⟨_, rfl⟩
      rw [hW5] at p6 h5
      have KA := hide p2
      have HC6 := hide p6
      have HS5 := hide s5
      rw [e4] at p3 KA
      obtain ⟨v5, hv5⟩ := h5
      obtain ⟨ai, ci, ei, ri⟩ := (hv5.ls.ql i (by have := HI.out; omega)).form
      rw [q4 HI.out] at ei ri
      have ki := hv5.cell (show i < 5 by have := HI.out; omega)
      rw [ei] at ki
      obtain ⟨N5, hN5⟩ : ∃ N, (Q i).length = N := ⟨_, rfl⟩
      rw [hN5] at ki ri
      have hNb : N5 < 1000000 := by rw [← hN5]; exact HB.out.2
      -- three orders: the empty list first (and the copy), the empty list first, the number first
      have gA := (Grow.box W5 (.cells #[] 3)).drew
      have gB := ((Grow.box W5 (.cells #[] 3)).alloc (.cells #[.int .i64 x] 3)).drew
      have gC := ((Grow.box W5 (.cells #[.int .i64 x] 3)).alloc (.cells #[] 3)).drew
      have lA : QL (W5.alloc (.cells #[] 3)).drew W5.heap.size (.slice (some ⟨W5.heap.size, 0, none⟩) 0 0) [] := lit_ql W5
      have lB : QL ((W5.alloc (.cells #[] 3)).alloc (.cells #[.int .i64 x] 3)).drew W5.heap.size (.slice (some ⟨W5.heap.size, 0, none⟩) 0 0) [] := (lit_ql W5).grow (Grow.box (W5.alloc (.cells #[] 3)) (.cells #[.int .i64 x] 3)).drew
      have lC : QL ((W5.alloc (.cells #[.int .i64 x] 3)).alloc (.cells #[] 3)).drew W5.heap.size (.slice (some ⟨W5.heap.size + 1, 0, none⟩) 0 0) [] := by
        have h1 := (lit_ql (W5.alloc (.cells #[.int .i64 x] 3))).lower (z' := W5.heap.size) (by simp)
        rw [show (W5.alloc (.cells #[.int .i64 x] 3)).heap.size = W5.heap.size + 1 by simp] at h1
        exact h1
      have hs1 : (W5.alloc (.cells #[] 3)).heap.size = W5.heap.size + 1 := by simp
      obtain ⟨aA, cA, WA, runA, qlA, grA, -⟩ := app_one (c := ci) gA lA (Rd.grow ri gA) hNb
      obtain ⟨aB, cB, WB, runB, qlB, grB, chB⟩ := app_one (c := ci) gB lB (Rd.grow ri gB) hNb
      obtain ⟨aC, cC, WC, runC, qlC, grC, chC⟩ := app_one (c := ci) gC lC (Rd.grow ri gC) hNb
      have xA := rd_one WA x
      have xB : L1.Rd WB (some ⟨W5.heap.size + 1, 0, none⟩) 1 [x] := Rd.chg (by rw [← hs1]; exact rd_one (W5.alloc (.cells #[] 3)) x) chB fun y e => by injection e with e; rw [← e]; show ¬ W5.heap.size + 1 = W5.heap.size; omega
      have xC : L1.Rd WC (some ⟨W5.heap.size, 0, none⟩) 1 [x] := Rd.chg (T := (· = W5.heap.size + 1)) (Rd.grow (rd_one W5 x) (Grow.box (W5.alloc (.cells #[.int .i64 x] 3)) (.cells #[] 3)).drew) chC fun y e => by injection e with e; rw [← e]; show ¬ W5.heap.size = W5.heap.size + 1; omega
      obtain ⟨bA, dA, VA, rA2, qA2, gA2⟩ := app_x (grA.trans (Grow.box WA _)) (qlA.grow (Grow.box WA (.cells #[.int .i64 x] 3))) xA (by rw [hN5]; exact hNb)
      obtain ⟨bB, dB, VB, rB2, qB2, gB2⟩ := app_x grB qlB xB (by rw [hN5]; exact hNb)
      obtain ⟨bC, dC, VC, rC2, qC2, gC2⟩ := app_x grC qlC xC (by rw [hN5]; exact hNb)
      obtain ⟨⟨tA1, tA2⟩, fA1, TA, fA2, fA3⟩ := hv5.copy HI.out gA2 qA2
      obtain ⟨⟨tB1, tB2⟩, fB1, TB, fB2, fB3⟩ := hv5.copy HI.out gB2 qB2
      obtain ⟨⟨tC1, tC2⟩, fC1, TC, fC2, fC3⟩ := hv5.copy HI.out gC2 qC2
      rw [hN5] at rA2 rB2 rC2 fA1 fA2 fB1 fB2 fC1 fC2
      rw [ei, hN5] at tA1 tB1 tC1
      have lift : ∀ {V : World} {T' : Nat → Prop}, Chg S5 W5 V → RS V z p T' (upd Q i (Q i ++ [x])) (E ++ [x]) → (∀ k, T' k → S5 k ∨ W5.heap.size ≤ k) → Chg S w V ∧ ∃ S', RS V z p S' (upd Q i (Q i ++ [x])) (E ++ [x]) ∧ ∀ k, S' k → S k ∨ w.heap.size ≤ k := fun {V} {T'} c1 c2 c3 => ⟨HC6.out.step c1 fun k hk h => (HS5.out k h).elim id fun e => by omega, T', c2, fun k hk => (c3 k hk).elim (fun h => HS5.out k h) fun h => .inr (Nat.le_trans HC6.out.size h)⟩
      have HFA := hide (lift fA1 fA2 fA3)
      have HFB := hide (lift fB1 fB2 fB3)
      have HFC := hide (lift fC1 fC2 fC3)
      have KA1 := hide runA
      have KB1 := hide runB
      have KC1 := hide runC
      have KA2 := hide rA2
      have KB2 := hide rB2
      have KC2 := hide rC2
      have sA := (Grow.box W5 (.cells #[] 3)).cell ki
      have sX := (Grow.box W5 (.cells #[.int .i64 x] 3)).cell ki
      have sAX := (Grow.box (W5.alloc (.cells #[] 3)) (.cells #[.int .i64 x] 3)).cell sA
      have sXA := (Grow.box (W5.alloc (.cells #[.int .i64 x] 3)) (.cells #[] 3)).cell sX
      have d1 : IntKind.i64.wrap ((i : Int) + 1 - 1) = i := (w64 (by have := HI.out; omega)).trans (by omega)
      have d2 : IntKind.i64.wrap (i : Int) = i := w64 (by have := HI.out; omega)
      have q6 : (i : Int) < 4 := by have := HI.out; omega
      have q7 : (0 : Int) ≤ i := by omega
      clear lift fA1 fA2 fA3 fB1 fB2 fB3 fC1 fC2 fC3 runA runB runC rA2 rB2 rC2 qA2 qB2 qC2 gA2 gB2 gC2 xA xB xC qlA qlB qlC grA grB grC chB chC hs1 lA lB lC gA gB gC hNb ri ei hv5 s5 p5 p6 p2 HB HH e4
      go_wp2_with (at_builtin; refine wpList_app rfl _ _ 25 rfl (.slice a4 k c4) (.slice (some ⟨w.heap.size, 0, none⟩) 1 1) (.slice ar m cr) _ W4 rfl rfl KA.out ?_)
      go_region_law (first | (refine step_app (by rfl) _ _ _ (by rfl) (.slice (some ⟨W5.heap.size, 0, none⟩) 0 0) (.slice ai N5 ci) (.slice aA N5 cA) WA (by rfl) (by rfl) KA1.out ?_) | (refine step_app (by rfl) _ _ _ (by rfl) (.slice (some ⟨W5.heap.size, 0, none⟩) 0 0) (.slice ai N5 ci) (.slice aB N5 cB) WB (by rfl) (by rfl) KB1.out ?_) | (refine step_app (by rfl) _ _ _ (by rfl) (.slice (some ⟨W5.heap.size + 1, 0, none⟩) 0 0) (.slice ai N5 ci) (.slice aC N5 cC) WC (by rfl) (by rfl) KC1.out ?_) | (refine step_app (by rfl) _ _ _ (by rfl) (.slice aA N5 cA) (.slice (some ⟨WA.heap.size, 0, none⟩) 1 1) (.slice bA (N5 + 1) dA) VA (by rfl) (by rfl) KA2.out ?_) | (refine step_app (by rfl) _ _ _ (by rfl) (.slice aB N5 cB) (.slice (some ⟨W5.heap.size + 1, 0, none⟩) 1 1) (.slice bB (N5 + 1) dB) VB (by rfl) (by rfl) KB2.out ?_) | (refine step_app (by rfl) _ _ _ (by rfl) (.slice aC N5 cC) (.slice (some ⟨W5.heap.size, 0, none⟩) 1 1) (.slice bC (N5 + 1) dC) VC (by rfl) (by rfl) KC2.out ?_))
      all_goals (go_wp2; go_returns; first | exact ⟨rfl, HFA.out⟩ | exact ⟨rfl, HFB.out⟩ | exact ⟨rfl, HFC.out⟩)
    · have q3 : decide ((k : Int) < N) = true := decide_eq_true (by omega)
      have q5 : (k : Int) < N := by omega
      obtain ⟨ad, rfl, hc⟩ := HR.out.at_ hlt
      have hkl : k < E.length := by rw [HN.out]; exact hlt
      have hw : IntKind.i64.wrap ((k : Int) + 1) = ((k + 1 : Nat) : Int) := (w64 (by have := HB.out.1; have := HN.out; omega)).trans (by omega)
      by_cases he : E.getD k 0 = x
      · skip
        exact absurd (he ▸ getD_in hkl) HM.out
      · have HNO := hide (take_in hkl hno he)
        have q4 : (E.getD k 0 == x) = false := by simpa using he
        have HK := hide hlt
        clear hno hk hkl he hlt
        generalize E.getD k 0 = y at *
        go_wp2
        go_roundw
        case rel => exact ⟨k + 1, HK.out, rfl, HNO.out, by first | rfl | trivial⟩
        case measure => have := HK.out; simp [Go.RowKit.intOf]; omega
end
end Go.Proofs.Ytgaoodjlcjmomaa.L12

/- Tables of handles: what New, Get, Set and Drop answer, and what they do; of the nil table, too. Conditions: a slot was used at most 1000000 times. -/
import Derived.Test.YtmklmoahkcekiaaL8Find
import Derived.Handy
namespace Go.Proofs.Ytmklmoahkcekiaa.L8
open Go.ChangeShapes Go.WideShapes Go.ChangeAt Go.RowKit
set_option linter.unusedVariables false

section
variable {w : World} {p : Nat} {S : Nat → Sl}
theorem index_nil (w : World) (fv : Value) : Calls Try.prog 25 #[.slice none 0 0, fv] w fun e w' => e = .returned (.int .i64 (-1)) ∧ Grow w w' := by
  go_enter Try.func25, Try.ntmps25
  go_wp2
  go_loop [8] (fun k => k = .int .i64 0) (fun k => 0)
  case atStart => exact rfl
  case round =>
    obtain rfl := hrel
    go_wp2
    go_ret
    exact ⟨rfl, Chg.refl _ _⟩
set_option maxHeartbeats 1000000 in
/-- The first slot that is not taken, or -1 where all are. -/
theorem index_any (h : Tb w p S) (m : Nat) (hm : m ≤ 64) (hS : ∀ j, j < m → (S j).t = true) (hm2 : m < 64 → (S m).t = false) :
    Calls Try.prog 25 #[.slice (some ⟨p, 0, none⟩) 64 64, .func (.func 26) #[] #[]] w fun e w' => e = .returned (.int .i64 (if m < 64 then (m : Int) else -1)) ∧ Grow w w' := by
  have HT := hide hS
  have HF := hide hm2
  clear hS hm2
  go_enter Try.func25, Try.ntmps25
  go_wp2
  go_loopw [8] (fun k wr => ∃ i : Nat, k = .int .i64 (i : Int) ∧ i ≤ m ∧ Grow w wr) (fun k _ => 64 - (intOf k).toNat)
  case atStart => exact ⟨0, rfl, by omega, Chg.refl _ _⟩
  case round =>
    obtain ⟨i, rfl, hi, hc⟩ := hrel
    replace h := h.grow hc
    by_cases h64 : i < 64
    · have c0 := h.c0 h64
      have c1 := h.c1 h64
      have c2 := h.c2 h64
      obtain ⟨⟨se, st, sv⟩, hs⟩ : ∃ s, S i = s := ⟨_, rfl⟩
      rw [hs] at c0 c1 c2
      dsimp only at c0 c1 c2
      have HFR := hide (free_any wr ⟨se, st, sv⟩)
      have hst : st = decide (i < m) := by
        by_cases hlt : i < m
        · have := HT.out i hlt
          rw [hs] at this
          simp_all
        · have : i = m := by omega
          subst this
          have := HF.out h64
          rw [hs] at this
          simp_all
      by_cases hlt : i < m
      · obtain rfl : st = true := by simp [hst, hlt]
        clear hst hs HT HF
        go_wp2_with fail
        refine HFR.out.mono ?_
        rintro e w1 ⟨rfl, c⟩
        go_wp2
        go_roundw
        case rel => exact ⟨i + 1, by simp, by omega, hc.trans c⟩
        case measure => simp [intOf]; omega
      · obtain rfl : st = false := by simp [hst, hlt]
        obtain rfl : i = m := by omega
        clear hst hs HT HF
        go_wp2_with fail
        refine HFR.out.mono ?_
        rintro e w1 ⟨rfl, c⟩
        go_wp2
        go_ret
        exact ⟨rfl, hc.trans c⟩
    · obtain rfl : i = 64 := by omega
      obtain rfl : m = 64 := by omega
      clear HT HF
      go_wp2
      go_ret
      exact ⟨rfl, hc⟩

/-- What the pair of an answer and its error is. -/
abbrev two (a : Int) (e : Int) : Value := .tuple #[.int .i64 a, .int .i64 e]
theorem new_nil (w : World) (x : Int) : Calls Try.prog 12 #[.pointer none, .int .i64 x] w fun e w' => e = .returned (two 0 3) ∧ Grow w w' := by
  go_enter Try.func12, Try.ntmps12
  go_wp2_with fail
  refine (all_nil _).mono ?_
  rintro e w1 ⟨rfl, rfl⟩
  go_wp2_with fail
  refine (index_nil _ _).mono ?_
  rintro e w1 ⟨rfl, c⟩
  go_wp2
  go_returns
  exact ⟨rfl, c⟩
theorem new_full (h : Tb w p S) (hS : ∀ j, j < 64 → (S j).t = true) (x : Int) : Calls Try.prog 12 #[ptr p, .int .i64 x] w fun e w' => e = .returned (two 0 3) ∧ Grow w w' := by
  have HI := hide (index_any h 64 (Nat.le_refl _) hS (fun h => absurd h (by omega)))
  have HA := hide (all_any w p h)
  rw [if_neg (by omega)] at HI
  clear h hS
  go_enter Try.func12, Try.ntmps12
  go_wp2_with fail
  refine HA.out.mono ?_
  rintro e w1 ⟨rfl, rfl⟩
  go_wp2_with fail
  refine HI.out.mono ?_
  rintro e w1 ⟨rfl, c⟩
  go_wp2
  go_returns
  exact ⟨rfl, c⟩
set_option maxHeartbeats 1000000 in
theorem new_at (h : Tb w p S) (hB : Bd S 1000000) (m : Nat) (hm : m < 64) (hS : ∀ j, j < m → (S j).t = true) (hm2 : (S m).t = false) (x : Int) :
    Calls Try.prog 12 #[ptr p, .int .i64 x] w fun e w' => e = .returned (two (hd S m : Nat) 0) ∧ Tb w' p (upd S m ⟨(S m).e, true, x⟩) ∧ Chg (· = p) w w' := by
  have HI := hide (index_any h m (by omega) hS (fun _ => hm2))
  have HA := hide (all_any w p h)
  have q1 : decide ((m : Int) < 0) = false := by simp
  have q2 : decide ((m : Int) < 64) = true := by simp; omega
  rw [if_pos hm] at HI
  obtain ⟨y, hy⟩ : ∃ y, hd S m = y := ⟨_, rfl⟩
  have HH : Hid (∀ W, Calls Try.prog 27 #[(Sl.mk (S m).e true x).val, .int .i64 (m : Int)] W fun e w' => e = .returned (.int .i64 (y : Int)) ∧ Grow W w') := hide fun W => hd_any W ⟨(S m).e, true, x⟩ m _ hm (hB m hm) (by rw [← hy]; rfl)
  have HST := hide fun (W : World) (h : Tb W p S) => ((h.setT hm true).setV hm x).eq (S' := upd S m ⟨(S m).e, true, x⟩) (by rw [upd_upd, upd_same])
  rw [hy]
  clear hS hm2 hB hy
  go_enter Try.func12, Try.ntmps12
  go_wp2_with fail
  refine HA.out.mono ?_
  rintro e w1 ⟨rfl, rfl⟩
  go_wp2_with fail
  refine HI.out.mono ?_
  rintro e w1 ⟨rfl, c⟩
  replace h := h.grow c
  have c0 := h.c0 hm
  have c1 := h.c1 hm
  have c2 := h.c2 hm
  have f1 := h.frozen (m * 3 + 1)
  have f2 := h.frozen (m * 3 + 2)
  clear HA HI
  go_wp2_with fail
  have h2 := HST.out _ h
  have cc : Chg (· = p) w ((w1.setCell ⟨p, m * 3 + 1, none⟩ (.bool true)).setCell ⟨p, m * 3 + 2, none⟩ (.int .i64 x)) := ((c.mono (fun _ _ h => h.elim)).set1 _ _).set1 _ _
  clear HST h c0 c1 c2 f1 f2
  generalize (w1.setCell ⟨p, m * 3 + 1, none⟩ (.bool true)).setCell ⟨p, m * 3 + 2, none⟩ (.int .i64 x) = w2 at *
  refine (HH.out _).mono ?_
  rintro e w3 ⟨rfl, c3⟩
  go_wp2
  go_returns
  exact ⟨rfl, h2.grow c3, cc.trans (c3.mono (fun _ _ h => h.elim))⟩

theorem get_by {pv : Value} {x : Int} (H : Calls Try.prog 28 #[pv, .int .i64 x] w fun e w' => e = .returned (.pointer none) ∧ Grow w w') :
    Calls Try.prog 14 #[pv, .int .i64 x] w fun e w' => e = .returned (two 0 6) ∧ Grow w w' := by
  have HFI := hide H
  clear H
  go_enter Try.func14, Try.ntmps14
  go_wp2_with fail
  refine HFI.out.mono ?_
  rintro e w1 ⟨rfl, c⟩
  go_wp2
  go_returns
  exact ⟨rfl, c⟩
theorem set_by {pv : Value} {x y : Int} (H : Calls Try.prog 28 #[pv, .int .i64 x] w fun e w' => e = .returned (.pointer none) ∧ Grow w w') :
    Calls Try.prog 15 #[pv, .int .i64 x, .int .i64 y] w fun e w' => e = .returned (.int .i64 6) ∧ Grow w w' := by
  have HFI := hide H
  clear H
  go_enter Try.func15, Try.ntmps15
  go_wp2_with fail
  refine HFI.out.mono ?_
  rintro e w1 ⟨rfl, c⟩
  go_wp2
  go_ret
  exact ⟨rfl, c⟩
theorem drop_by {pv : Value} {x : Int} (H : Calls Try.prog 28 #[pv, .int .i64 x] w fun e w' => e = .returned (.pointer none) ∧ Grow w w') :
    Calls Try.prog 16 #[pv, .int .i64 x] w fun e w' => e = .returned (.int .i64 6) ∧ Grow w w' := by
  have HFI := hide H
  clear H
  go_enter Try.func16, Try.ntmps16
  go_wp2_with fail
  refine HFI.out.mono ?_
  rintro e w1 ⟨rfl, c⟩
  go_wp2
  go_ret
  exact ⟨rfl, c⟩
theorem get_nil (w : World) (x : Int) : Calls Try.prog 14 #[.pointer none, .int .i64 x] w fun e w' => e = .returned (two 0 6) ∧ Grow w w' := get_by (find_nil w x)
theorem set_nil (w : World) (x y : Int) : Calls Try.prog 15 #[.pointer none, .int .i64 x, .int .i64 y] w fun e w' => e = .returned (.int .i64 6) ∧ Grow w w' := set_by (find_nil w x)
theorem drop_nil (w : World) (x : Int) : Calls Try.prog 16 #[.pointer none, .int .i64 x] w fun e w' => e = .returned (.int .i64 6) ∧ Grow w w' := drop_by (find_nil w x)
theorem get_no (h : Tb w p S) (hB : Bd S 1000000) {x : Int} (hx : (Lit.int .i64 x).wf = true) (ho : ∀ i, ¬ Of S i x) :
    Calls Try.prog 14 #[ptr p, .int .i64 x] w fun e w' => e = .returned (two 0 6) ∧ Grow w w' := get_by (find_no h hB hx ho)
theorem set_no (h : Tb w p S) (hB : Bd S 1000000) {x : Int} (hx : (Lit.int .i64 x).wf = true) (ho : ∀ i, ¬ Of S i x) (y : Int) :
    Calls Try.prog 15 #[ptr p, .int .i64 x, .int .i64 y] w fun e w' => e = .returned (.int .i64 6) ∧ Grow w w' := set_by (find_no h hB hx ho)
theorem drop_no (h : Tb w p S) (hB : Bd S 1000000) {x : Int} (hx : (Lit.int .i64 x).wf = true) (ho : ∀ i, ¬ Of S i x) :
    Calls Try.prog 16 #[ptr p, .int .i64 x] w fun e w' => e = .returned (.int .i64 6) ∧ Grow w w' := drop_by (find_no h hB hx ho)
theorem get_yes (h : Tb w p S) (hB : Bd S 1000000) {x : Int} {i : Nat} (ho : Of S i x) :
    Calls Try.prog 14 #[ptr p, .int .i64 x] w fun e w' => e = .returned (two (S i).v 0) ∧ Grow w w' := by
  have HFI := hide (find_yes h hB ho)
  have hi := ho.1
  clear hB ho
  go_enter Try.func14, Try.ntmps14
  go_wp2_with fail
  refine HFI.out.mono ?_
  rintro e w1 ⟨rfl, c⟩
  replace h := h.grow c
  have c0 := h.c0 hi
  have c1 := h.c1 hi
  have c2 := h.c2 hi
  have f0 := h.frozen (i * 3)
  have f1 := h.frozen (i * 3 + 1)
  have f2 := h.frozen (i * 3 + 2)
  clear HFI
  go_wp2
  go_returns
  exact ⟨rfl, c⟩
theorem set_yes (h : Tb w p S) (hB : Bd S 1000000) {x : Int} {i : Nat} (ho : Of S i x) (y : Int) :
    Calls Try.prog 15 #[ptr p, .int .i64 x, .int .i64 y] w fun e w' => e = .returned (.int .i64 0) ∧ Tb w' p (upd S i { S i with v := y }) ∧ Chg (· = p) w w' := by
  have HFI := hide (find_yes h hB ho)
  have hi := ho.1
  clear hB ho
  go_enter Try.func15, Try.ntmps15
  go_wp2_with fail
  refine HFI.out.mono ?_
  rintro e w1 ⟨rfl, c⟩
  replace h := h.grow c
  have c0 := h.c0 hi
  have c1 := h.c1 hi
  have c2 := h.c2 hi
  have f0 := h.frozen (i * 3)
  have f1 := h.frozen (i * 3 + 1)
  have f2 := h.frozen (i * 3 + 2)
  clear HFI
  go_wp2
  go_ret
  exact ⟨rfl, h.setV hi y, (c.mono (fun _ _ h => h.elim)).set1 _ _⟩
theorem drop_yes (h : Tb w p S) (hB : Bd S 1000000) {x : Int} {i : Nat} (ho : Of S i x) :
    Calls Try.prog 16 #[ptr p, .int .i64 x] w fun e w' => e = .returned (.int .i64 0) ∧ Tb w' p (upd S i ⟨(S i).e + 1, false, 0⟩) ∧ Chg (· = p) w w' := by
  have he := hB i ho.1
  have q : IntKind.i64.wrap (((S i).e : Int) + 1) = (((S i).e + 1 : Nat) : Int) := by rw [wrap_i64_id _ (by omega)]; omega
  clear he
  have HFI := hide (find_yes h hB ho)
  have hi := ho.1
  clear hB ho
  go_enter Try.func16, Try.ntmps16
  go_wp2_with fail
  refine HFI.out.mono ?_
  rintro e w1 ⟨rfl, c⟩
  replace h := h.grow c
  have c0 := h.c0 hi
  have c1 := h.c1 hi
  have c2 := h.c2 hi
  have f0 := h.frozen (i * 3)
  have f1 := h.frozen (i * 3 + 1)
  have f2 := h.frozen (i * 3 + 2)
  clear HFI
  have hst := (((h.setE hi ((S i).e + 1)).setT hi false).setV hi 0).eq (S' := upd S i ⟨(S i).e + 1, false, 0⟩) (by rw [upd_upd, upd_upd]; simp only [upd_same])
  go_wp2
  go_ret
  exact ⟨rfl, hst, (((c.mono (fun _ _ h => h.elim)).set1 _ _).set1 _ _).set1 _ _⟩
end
end Go.Proofs.Ytmklmoahkcekiaa.L8

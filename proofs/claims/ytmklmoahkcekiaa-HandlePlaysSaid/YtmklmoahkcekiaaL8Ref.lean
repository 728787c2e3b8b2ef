/- What the calls of package gleaningref08 (the plain table of handles) answer and do. Conditions: a slot was used at most 1000000 times. -/
import Derived.Test.YtmklmoahkcekiaaL8Cls
import Derived.StillTailTactics
namespace Go.Proofs.Ytmklmoahkcekiaa.L8
open Go.ChangeShapes Go.WideShapes Go.ChangeAt Go.RowKit
set_option linter.unusedVariables false

/-- How often a place was used, the use now among them. -/
def oft (s : Sl) : Nat := if s.t then s.e + 1 else s.e
/-- Block r is a plain table that says the same as these slots. -/
def Rt (w : World) (r : Nat) (S : Nat → Sl) : Prop := ∃ cs, Blk w r 34 cs ∧ cs.length = 192 ∧
  ∀ i, i < 64 → cs[i]? = some (.int .i64 ((oft (S i) : Nat) : Int)) ∧ cs[64 + i]? = some (.bool (S i).t) ∧ ∃ x, cs[128 + i]? = some (.int .i64 x) ∧ ((S i).t = true → x = (S i).v)
section
variable {w w' : World} {r : Nat} {S : Nat → Sl} {C : Nat → Prop}
theorem Rt.lt (h : Rt w r S) : r < w.heap.size := by obtain ⟨cs, hb, _⟩ := h; exact hb.lt
theorem Rt.chg (h : Rt w r S) (c : Chg C w w') (hp : ¬ C r) : Rt w' r S := by obtain ⟨cs, hb, q⟩ := h; exact ⟨cs, hb.chg c hp, q⟩
theorem Rt.grow (h : Rt w r S) (c : Grow w w') : Rt w' r S := h.chg c id
theorem Rt.drew (h : Rt w r S) : Rt w.drew r S := h
theorem Rt.c0 (h : Rt w r S) {i : Nat} (hi : i < 64) : w.cell? ⟨r, i, none⟩ = some (.int .i64 ((oft (S i) : Nat) : Int)) := by obtain ⟨cs, hb, _, q⟩ := h; rw [hb.cell]; exact (q i hi).1
theorem Rt.c1 (h : Rt w r S) {i : Nat} (hi : i < 64) : w.cell? ⟨r, 64 + i, none⟩ = some (.bool (S i).t) := by obtain ⟨cs, hb, _, q⟩ := h; rw [hb.cell]; exact (q i hi).2.1
theorem Rt.c2 (h : Rt w r S) {i : Nat} (hi : i < 64) : ∃ x, w.cell? ⟨r, 128 + i, none⟩ = some (.int .i64 x) ∧ ((S i).t = true → x = (S i).v) := by obtain ⟨cs, hb, _, q⟩ := h; obtain ⟨x, hx, hv⟩ := (q i hi).2.2; exact ⟨x, by rw [hb.cell]; exact hx, hv⟩
theorem Rt.frozen (h : Rt w r S) (k : Nat) : w.frozen? ⟨r, k, none⟩ = false := by obtain ⟨cs, hb, _⟩ := h; exact hb.frozen k
/-- A value is laid: of a place that is used it is what it stands for then. -/
theorem Rt.setX (h : Rt w r S) {i : Nat} (hi : i < 64) (v : Int) : Rt (w.setCell ⟨r, 128 + i, none⟩ (.int .i64 v)) r (upd S i { S i with v := v }) := by
  obtain ⟨cs, hb, hl, q⟩ := h
  refine ⟨_, hb.set_ (128 + i) _, by simp [hl], fun j hj => ?_⟩
  obtain ⟨r0, r1, x, r2, r3⟩ := q j hj
  by_cases hji : j = i
  · subst hji
    rw [upd_same]
    exact ⟨(set_off (by omega)).trans r0, (set_off (by omega)).trans r1, v, set_at (by omega), fun _ => rfl⟩
  · rw [upd_ne S _ hji]
    exact ⟨(set_off (by omega)).trans r0, (set_off (by omega)).trans r1, x, (set_off (by omega)).trans r2, r3⟩
/-- A place is used no more. -/
theorem Rt.drop (h : Rt w r S) {i : Nat} (hi : i < 64) (ht : (S i).t = true) : Rt (w.setCell ⟨r, 64 + i, none⟩ (.bool false)) r (upd S i ⟨(S i).e + 1, false, 0⟩) := by
  obtain ⟨cs, hb, hl, q⟩ := h
  refine ⟨_, hb.set_ (64 + i) _, by simp [hl], fun j hj => ?_⟩
  obtain ⟨r0, r1, x, r2, r3⟩ := q j hj
  by_cases hji : j = i
  · subst hji
    rw [upd_same]
    refine ⟨(set_off (by omega)).trans ?_, set_at (by omega), x, (set_off (by omega)).trans r2, fun hx => by cases hx⟩
    rw [r0]
    simp [oft, ht]
  · rw [upd_ne S _ hji]
    exact ⟨(set_off (by omega)).trans r0, (set_off (by omega)).trans r1, x, (set_off (by omega)).trans r2, r3⟩
/-- A place is used anew. -/
theorem Rt.use (h : Rt w r S) {i : Nat} (hi : i < 64) (ht : (S i).t = false) (v : Int) :
    Rt (((w.setCell ⟨r, 64 + i, none⟩ (.bool true)).setCell ⟨r, 128 + i, none⟩ (.int .i64 v)).setCell ⟨r, i, none⟩ (.int .i64 (((S i).e + 1 : Nat) : Int))) r (upd S i ⟨(S i).e, true, v⟩) := by
  obtain ⟨cs, hb, hl, q⟩ := h
  refine ⟨_, ((hb.set_ (64 + i) _).set_ (128 + i) _).set_ i _, by simp [hl], fun j hj => ?_⟩
  obtain ⟨r0, r1, x, r2, r3⟩ := q j hj
  by_cases hji : j = i
  · subst hji
    rw [upd_same]
    exact ⟨set_at (by simp; omega), (set_off (by omega)).trans ((set_off (by omega)).trans (set_at (by omega))), v, (set_off (by omega)).trans (set_at (by simp; omega)), fun _ => rfl⟩
  · rw [upd_ne S _ hji]
    exact ⟨(set_off (by omega)).trans ((set_off (by omega)).trans ((set_off (by omega)).trans r0)), (set_off (by omega)).trans ((set_off (by omega)).trans ((set_off (by omega)).trans r1)), x, (set_off (by omega)).trans ((set_off (by omega)).trans ((set_off (by omega)).trans r2)), r3⟩
theorem Rt.eq (h : Rt w r S) {S' : Nat → Sl} (e : S = S') : Rt w r S' := e ▸ h
end
theorem oft_hd (S : Nat → Sl) {i : Nat} (ht : (S i).t = true) : oft (S i) = (S i).e + 1 := by simp [oft, ht]

section
variable {w : World} {r : Nat} {S : Nat → Sl}
set_option maxHeartbeats 2000000 in
/-- The least free place, and it is used. -/
theorem rnew_at (h : Rt w r S) (hB : Bd S 1000000) (m : Nat) (hm : m < 64) (hS : ∀ j, j < m → (S j).t = true) (hm2 : (S m).t = false) (x : Int) :
    Calls Try.prog 13 #[ptr r, .int .i64 x] w fun e w' => e = .returned (two (hd S m : Nat) 0) ∧ Rt w' r (upd S m ⟨(S m).e, true, x⟩) ∧ Chg (· = r) w w' := by
  have HT := hide hS
  have HF := hide hm2
  have HB := hide hB
  have H := hide h
  obtain ⟨hh, hhe⟩ : ∃ hh, hd S m = hh := ⟨_, rfl⟩
  have HHE := hide hhe
  rw [hhe]
  clear hS hm2 hB h hhe
  go_enter Try.func13, Try.ntmps13
  go_wp2
  go_loopw [6] (fun k wr => ∃ i : Nat, k = .int .i64 (i : Int) ∧ i ≤ m ∧ wr = w) (fun k _ => 64 - (intOf k).toNat)
  case atStart => exact ⟨0, rfl, by omega, rfl⟩
  case round =>
    obtain ⟨i, rfl, hi, rfl⟩ := hrel
    have h64 : (i : Int) < 64 := by omega
    have c1 := H.out.c1 (show i < 64 by omega)
    by_cases hlt : i < m
    · rw [HT.out i hlt] at c1
      go_wp2
      go_roundw
      case rel => exact ⟨i + 1, by simp, by omega, by first | rfl | trivial⟩
      case measure => simp [intOf]; omega
    · obtain rfl : i = m := by omega
      rw [HF.out] at c1
      have c0 := H.out.c0 hm
      obtain ⟨y, c2, _⟩ := H.out.c2 hm
      have f0 := H.out.frozen i
      have f1 := H.out.frozen (64 + i)
      have f2 := H.out.frozen (128 + i)
      have he := HB.out i hm
      rw [show oft (S i) = (S i).e by simp [oft, HF.out]] at c0
      have HU := hide (H.out.use hm HF.out x)
      have hhd : hd S i = 64 * (S i).e + i + 1 := rfl
      obtain ⟨n, hne⟩ : ∃ n, (S i).e = n := ⟨_, rfl⟩
      rw [hne] at c0 HU he hhd
      have HE := hide hne
      clear hne
      have he2 : IntKind.i64.wrap ((n : Int) + 1) = ((n + 1 : Nat) : Int) := by rw [wrap_i64_id _ (by omega)]; omega
      obtain ⟨n1, hn1⟩ : ∃ n1, n + 1 = n1 := ⟨_, rfl⟩
      rw [hn1] at he2 HU
      obtain ⟨y1, hy1⟩ : ∃ y1, 64 * n = y1 := ⟨_, rfl⟩
      have q1 : IntKind.i64.wrap ((n1 : Int) - 1) = (n : Int) := by rw [wrap_i64_id _ (by omega)]; omega
      have q2 : IntKind.i64.wrap (64 * (n : Int)) = (y1 : Int) := by rw [wrap_i64_id _ (by omega)]; omega
      have q3 : IntKind.i64.wrap ((y1 : Int) + (i : Int)) = ((y1 + i : Nat) : Int) := by rw [wrap_i64_id _ (by omega)]; omega
      obtain ⟨z1, hz1⟩ : ∃ z1, y1 + i = z1 := ⟨_, rfl⟩
      rw [hz1] at q3
      have q4 : IntKind.i64.wrap ((z1 : Int) + 1) = (hh : Int) := by have := HHE.out; rw [wrap_i64_id _ (by omega)]; omega
      clear hhd hz1 hy1 hn1 he HB HT HF
      go_wp2
      have k0 : (((wr.setCell ⟨r, 64 + i, none⟩ (.bool true)).setCell ⟨r, 128 + i, none⟩ (.int .i64 x))).cell? ⟨r, i, none⟩ = some (.int .i64 (n : Int)) := by
        obtain ⟨cs, hb, _, _⟩ := H.out
        rw [hb.cell] at c0
        rw [((hb.set_ _ _).set_ _ _).cell]
        exact (set_off (by omega)).trans ((set_off (by omega)).trans c0)
      have kf : (((wr.setCell ⟨r, 64 + i, none⟩ (.bool true)).setCell ⟨r, 128 + i, none⟩ (.int .i64 x))).frozen? ⟨r, i, none⟩ = false := by
        rw [World.frozen?_setCell, World.frozen?_setCell]
        exact f0
      have cc : Chg (· = r) wr ((wr.setCell ⟨r, 64 + i, none⟩ (.bool true)).setCell ⟨r, 128 + i, none⟩ (.int .i64 x)) := ((Chg.refl _ _).set1 _ _).set1 _ _
      clear c0 c1 c2 f0 f1 f2 H
      generalize (wr.setCell ⟨r, 64 + i, none⟩ (.bool true)).setCell ⟨r, 128 + i, none⟩ (.int .i64 x) = w2 at *
      go_still_tail 10, (by kernel_rfl)
      change wpList _ _ _ _ _ (World.drew _)
      have HU2 : Hid (Rt (w2.drew.setCell ⟨r, i, none⟩ (.int .i64 (n1 : Int))) r (upd S i ⟨n, true, x⟩)) := HU
      have HC2 : Hid (Chg (· = r) wr (w2.drew.setCell ⟨r, i, none⟩ (.int .i64 (n1 : Int)))) := hide (cc.drew.set1 _ _)
      have k3 : (w2.setCell ⟨r, i, none⟩ (.int .i64 (n1 : Int))).cell? ⟨r, i, none⟩ = some (.int .i64 (n1 : Int)) := World.cell?_setCell_same' _ _ _ (by show (w2.cell? _).isSome = true; rw [k0]; rfl)
      have kf2 : w2.drew.frozen? ⟨r, i, none⟩ = false := kf
      have k02 : w2.drew.cell? ⟨r, i, none⟩ = some (.int .i64 (n : Int)) := k0
      clear HU cc k0 kf
      go_wp2
      go_returns
      exact ⟨rfl, by rw [HE.out]; exact HU2.out, HC2.out⟩

theorem rnew_full (h : Rt w r S) (hS : ∀ j, j < 64 → (S j).t = true) (x : Int) :
    Calls Try.prog 13 #[ptr r, .int .i64 x] w fun e w' => e = .returned (two 0 3) ∧ Rt w' r S ∧ Chg (· = r) w w' := by
  have HT := hide hS
  have H := hide h
  clear hS h
  go_enter Try.func13, Try.ntmps13
  go_wp2
  go_loopw [6] (fun k wr => ∃ i : Nat, k = .int .i64 (i : Int) ∧ i ≤ 64 ∧ wr = w) (fun k _ => 64 - (intOf k).toNat)
  case atStart => exact ⟨0, rfl, by omega, rfl⟩
  case round =>
    obtain ⟨i, rfl, hi, rfl⟩ := hrel
    by_cases hlt : i < 64
    · have h64 : (i : Int) < 64 := by omega
      have c1 := H.out.c1 hlt
      rw [HT.out i hlt] at c1
      go_wp2
      go_roundw
      case rel => exact ⟨i + 1, by simp, by omega, by first | rfl | trivial⟩
      case measure => simp [intOf]; omega
    · obtain rfl : i = 64 := by omega
      go_wp2
      go_returns
      exact ⟨rfl, H.out, Chg.refl _ _⟩
theorem rplace_yes (h : Rt w r S) (hB : Bd S 1000000) {x : Int} {m : Nat} (ho : Of S m x) :
    Calls Try.prog 11 #[ptr r, .int .i64 x] w fun e w' => e = .returned (.int .i64 (m : Int)) ∧ w = w' := by
  have HO := hide ho
  have HB := hide hB
  have H := hide h
  have hm := ho.1
  clear ho hB h
  go_enter Try.func11, Try.ntmps11
  go_wp2
  go_loopw [5] (fun k wr => ∃ i : Nat, k = .int .i64 (i : Int) ∧ i ≤ m ∧ wr = w) (fun k _ => 64 - (intOf k).toNat)
  case atStart => exact ⟨0, rfl, by omega, rfl⟩
  case round =>
    obtain ⟨i, rfl, hi, rfl⟩ := hrel
    have h64 : (i : Int) < 64 := by omega
    have hi64 : i < 64 := by omega
    have c0 := H.out.c0 hi64
    have c1 := H.out.c1 hi64
    have he := HB.out i hi64
    have HN : Hid (i ≠ m → (S i).t = true → x ≠ ((64 * (S i).e + i + 1 : Nat) : Int)) := hide fun hne ht hx => hne (Of.one (S := S) ⟨hi64, ht, hx⟩ HO.out)
    have HY : Hid (i = m → (S i).t = true ∧ x = ((64 * (S i).e + i + 1 : Nat) : Int)) := hide fun e => by
      subst e
      exact ⟨HO.out.2.1, HO.out.2.2⟩
    unfold oft at c0
    generalize (S i).e = n at *
    generalize (S i).t = t at *
    cases t with
    | false =>
      have hne : i ≠ m := fun e => by cases (HY.out e).1
      clear HY HN
      go_wp2
      go_roundw
      case rel => exact ⟨i + 1, by simp, by omega, by first | rfl | trivial⟩
      case measure => simp [intOf]; omega
    | true =>
      rw [if_pos rfl] at c0
      obtain ⟨n1, hn1⟩ : ∃ n1, n + 1 = n1 := ⟨_, rfl⟩
      rw [hn1] at c0
      obtain ⟨y1, hy1⟩ : ∃ y1, 64 * n = y1 := ⟨_, rfl⟩
      have q1 : IntKind.i64.wrap ((n1 : Int) - 1) = (n : Int) := by rw [wrap_i64_id _ (by omega)]; omega
      have q2 : IntKind.i64.wrap (64 * (n : Int)) = (y1 : Int) := by rw [wrap_i64_id _ (by omega)]; omega
      have q3 : IntKind.i64.wrap ((y1 : Int) + (i : Int)) = ((y1 + i : Nat) : Int) := by rw [wrap_i64_id _ (by omega)]; omega
      obtain ⟨z1, hz1⟩ : ∃ z1, y1 + i = z1 := ⟨_, rfl⟩
      rw [hz1] at q3
      obtain ⟨y, hy⟩ : ∃ y, 64 * n + i + 1 = y := ⟨_, rfl⟩
      have q4 : IntKind.i64.wrap ((z1 : Int) + 1) = (y : Int) := by rw [wrap_i64_id _ (by omega)]; omega
      rw [hy] at HN HY
      clear he hn1 hy1 hz1 hy
      by_cases hne : i = m
      · subst hne
        obtain ⟨_, rfl⟩ := HY.out rfl
        clear HN HY
        go_wp2
        go_ret
        exact ⟨rfl, rfl⟩
      · have hx := HN.out hne rfl
        have q5 : (x == (y : Int)) = false := by simpa using hx
        clear HN HY hx
        go_wp2
        go_roundw
        case rel => exact ⟨i + 1, by simp, by omega, by first | rfl | trivial⟩
        case measure => simp [intOf]; omega
theorem rplace_no (h : Rt w r S) (hB : Bd S 1000000) {x : Int} (ho : ∀ i, ¬ Of S i x) :
    Calls Try.prog 11 #[ptr r, .int .i64 x] w fun e w' => e = .returned (.int .i64 (-1)) ∧ w = w' := by
  have HO := hide ho
  have HB := hide hB
  have H := hide h
  clear ho hB h
  go_enter Try.func11, Try.ntmps11
  go_wp2
  go_loopw [5] (fun k wr => ∃ i : Nat, k = .int .i64 (i : Int) ∧ i ≤ 64 ∧ wr = w) (fun k _ => 64 - (intOf k).toNat)
  case atStart => exact ⟨0, rfl, by omega, rfl⟩
  case round =>
    obtain ⟨i, rfl, hi, rfl⟩ := hrel
    by_cases hi64 : i < 64
    · have h64 : (i : Int) < 64 := by omega
      have c0 := H.out.c0 hi64
      have c1 := H.out.c1 hi64
      have he := HB.out i hi64
      have HN : Hid ((S i).t = true → x ≠ ((64 * (S i).e + i + 1 : Nat) : Int)) := hide fun ht hx => HO.out i ⟨hi64, ht, hx⟩
      unfold oft at c0
      generalize (S i).e = n at *
      generalize (S i).t = t at *
      cases t with
      | false =>
        clear HN
        go_wp2
        go_roundw
        case rel => exact ⟨i + 1, by simp, by omega, by first | rfl | trivial⟩
        case measure => simp [intOf]; omega
      | true =>
        rw [if_pos rfl] at c0
        obtain ⟨n1, hn1⟩ : ∃ n1, n + 1 = n1 := ⟨_, rfl⟩
        rw [hn1] at c0
        obtain ⟨y1, hy1⟩ : ∃ y1, 64 * n = y1 := ⟨_, rfl⟩
        have q1 : IntKind.i64.wrap ((n1 : Int) - 1) = (n : Int) := by rw [wrap_i64_id _ (by omega)]; omega
        have q2 : IntKind.i64.wrap (64 * (n : Int)) = (y1 : Int) := by rw [wrap_i64_id _ (by omega)]; omega
        have q3 : IntKind.i64.wrap ((y1 : Int) + (i : Int)) = ((y1 + i : Nat) : Int) := by rw [wrap_i64_id _ (by omega)]; omega
        obtain ⟨z1, hz1⟩ : ∃ z1, y1 + i = z1 := ⟨_, rfl⟩
        rw [hz1] at q3
        obtain ⟨y, hy⟩ : ∃ y, 64 * n + i + 1 = y := ⟨_, rfl⟩
        have q4 : IntKind.i64.wrap ((z1 : Int) + 1) = (y : Int) := by rw [wrap_i64_id _ (by omega)]; omega
        rw [hy] at HN
        have hx := HN.out rfl
        have q5 : (x == (y : Int)) = false := by simpa using hx
        clear he hn1 hy1 hz1 hy HN hx
        go_wp2
        go_roundw
        case rel => exact ⟨i + 1, by simp, by omega, by first | rfl | trivial⟩
        case measure => simp [intOf]; omega
    · obtain rfl : i = 64 := by omega
      go_wp2
      go_ret
      exact ⟨rfl, rfl⟩
set_option maxHeartbeats 2000000 in
theorem rall_is (h : Rt w r S) (hB : Bd S 1000000) :
    Calls Try.prog 10 #[ptr r] w fun e w' => ∃ v, e = .returned v ∧ w'.ownsRow w.heap.size 3 1 v (hs S 64).length (ints (hs S 64)) ∧ Grow w w' := by
  have HB := hide hB
  have H := hide h
  obtain ⟨i0, hi, hz0, hz1, hz2⟩ := info_parts Try.infoInt
  have HI := hide hi
  have HZ0 := hide hz0
  have HZ1 := hide hz1
  have HZ2 := hide hz2
  clear hB h hi hz0 hz1 hz2
  obtain ⟨B, hBB⟩ : ∃ B, w.heap.size = B := ⟨_, rfl⟩
  have HBB := hide hBB
  rw [hBB]
  clear hBB
  go_enter Try.func10, Try.ntmps10
  go_wp2
  go_loopw [3, 4] (fun v k wr => ∃ i : Nat, k = .int .i64 (i : Int) ∧ i ≤ 64 ∧ wr.ownsRow B 3 1 v (hs S i).length (ints (hs S i)) ∧ Grow w wr) (fun _ k _ => 64 - (intOf k).toNat)
  case atStart => exact ⟨0, rfl, by omega, World.ownsRow_nil _ _ _ _, Chg.refl _ _⟩
  case round =>
    obtain ⟨i, rfl, hi, hown, cc⟩ := hrel
    by_cases hi64 : i < 64
    · have h64 : (i : Int) < 64 := by omega
      have HH := H.out.grow cc
      have c0 := HH.c0 hi64
      have c1 := HH.c1 hi64
      have he := HB.out i hi64
      have HL := hide (hs_length S i)
      have HY : Hid ((S i).t = true → hs S (i + 1) = hs S i ++ [(hd S i : Int)]) := hide hs_yes
      have HN : Hid ((S i).t = false → hs S (i + 1) = hs S i) := hide hs_not
      unfold hd at HY
      unfold oft at c0
      generalize (S i).e = n at *
      generalize (S i).t = t at *
      clear HH
      cases t with
      | false =>
        have hn := HN.out rfl
        have HN2 := hide hn
        clear HY HN he hn
        go_wp2
        go_roundw
        case rel => exact ⟨i + 1, by simp, by omega, by rw [HN2.out]; exact hown, cc⟩
        case measure => simp [intOf]; omega
      | true =>
        rw [if_pos rfl] at c0
        have HY2 := hide (HY.out rfl)
        obtain ⟨n1, hn1⟩ : ∃ n1, n + 1 = n1 := ⟨_, rfl⟩
        rw [hn1] at c0
        obtain ⟨y1, hy1⟩ : ∃ y1, 64 * n = y1 := ⟨_, rfl⟩
        have q1 : IntKind.i64.wrap ((n1 : Int) - 1) = (n : Int) := by rw [wrap_i64_id _ (by omega)]; omega
        have q2 : IntKind.i64.wrap (64 * (n : Int)) = (y1 : Int) := by rw [wrap_i64_id _ (by omega)]; omega
        have q3 : IntKind.i64.wrap ((y1 : Int) + (i : Int)) = ((y1 + i : Nat) : Int) := by rw [wrap_i64_id _ (by omega)]; omega
        obtain ⟨z1, hz1⟩ : ∃ z1, y1 + i = z1 := ⟨_, rfl⟩
        rw [hz1] at q3
        obtain ⟨y, hy⟩ : ∃ y, 64 * n + i + 1 = y := ⟨_, rfl⟩
        have q4 : IntKind.i64.wrap ((z1 : Int) + 1) = (y : Int) := by rw [wrap_i64_id _ (by omega)]; omega
        rw [hy] at HY2
        have HO := hide (hown.alloc (.cells [Value.int .i64 (y : Int)].toArray 3))
        have HC := hide (cc.alloc (.cells [Value.int .i64 (y : Int)].toArray 3))
        have HSZ := hide cc.size
        have hli : (hs S i).length < 64 := by have := HL.out; omega
        clear he hn1 hy1 hz1 hy HN HY cc
        go_wp2_with (at_builtin; refine wpList_append_own _ rfl _ _ 37 rfl B 3 i0 (.int .i64 0) 1 8 Try.underlying37 HI.out HZ0.out HZ1.out HZ2.out rfl (by decide) _ _ _ rfl HO.out ⟨wr.heap.size, 0, none⟩ 1 1 [.int .i64 (y : Int)] rfl rfl ?c1 ?c2 ?c3 ?c4 ?c5 ?_)
        case c1 => exact cell_one_new _ _ _
        case c2 => simp [Value.oneCell']
        case c3 => unfold maxLen; omega
        case c4 => omega
        case c5 => have := HSZ.out; have := HBB.out; simp; omega
        intro v' w1 hown1 hgrow _
        have cc := Chg.grownOwn HC.out HO.out (by rw [HBB.out]; exact Nat.le_refl _) hgrow
        have HO1 := hide hown1
        clear hown1 hgrow HO HC q1 q2 q3 q4
        go_wp2
        go_roundw
        case rel => exact ⟨i + 1, by simp, by omega, by rw [HY2.out]; have := HO1.out; simpa [ints] using this, cc⟩
        case measure => simp [intOf]; omega
    · obtain rfl : i = 64 := by omega
      go_wp2
      go_ret
      exact ⟨_, rfl, hown, cc⟩
end
theorem rnew_any {S S' : Nat → Sl} (hB : Bd S 1000000) {x a e : Int} (hN : isNew S x a e S') {w : World} {r : Nat} (h : Rt w r S) :
    Calls Try.prog 13 #[ptr r, .int .i64 x] w fun q w' => q = .returned (two a e) ∧ Rt w' r S' ∧ Chg (· = r) w w' := by
  rcases hN with ⟨m, hm, h1, h2, rfl, rfl, rfl⟩ | ⟨h1, rfl, rfl, rfl⟩
  · exact rnew_at h hB m hm h1 h2 x
  · exact rnew_full h h1 x
def one (S : Nat → Sl) (i : Nat) (v : Int) : Nat → Sl := fun j => if j = i ∧ (S j).t = true then ⟨(S j).e, (S j).t, v⟩ else S j
theorem one_yes {S : Nat → Sl} {i : Nat} {v : Int} (h : (S i).t = true) : one S i v i = ⟨(S i).e, (S i).t, v⟩ := if_pos ⟨rfl, h⟩
theorem one_no {S : Nat → Sl} {i j : Nat} {v : Int} (h : ¬ (j = i ∧ (S j).t = true)) : one S i v j = S j := if_neg h
/-- A number is laid where a place's value lies; of a place that isn't used it doesn't matter. -/
theorem Rt.lay {w : World} {r : Nat} {S : Nat → Sl} (h : Rt w r S) {i : Nat} (hi : i < 64) {y v : Int} (hy : (S i).t = true → y = v) :
    Rt (w.setCell ⟨r, 128 + i, none⟩ (.int .i64 y)) r (one S i v) := by
  obtain ⟨cs, hb, hl, q⟩ := h
  refine ⟨_, hb.set_ (128 + i) _, by simp [hl], fun j hj => ?_⟩
  obtain ⟨r0, r1, x, r2, r3⟩ := q j hj
  by_cases hji : j = i
  · subst hji
    by_cases ht : (S j).t = true
    · rw [one_yes ht]
      exact ⟨(set_off (by omega)).trans r0, (set_off (by omega)).trans r1, y, set_at (by omega), hy⟩
    · rw [one_no (fun e => ht e.2)]
      exact ⟨(set_off (by omega)).trans r0, (set_off (by omega)).trans r1, y, set_at (by omega), fun e => absurd e ht⟩
  · rw [one_no (fun e => hji e.1)]
    exact ⟨(set_off (by omega)).trans r0, (set_off (by omega)).trans r1, x, (set_off (by omega)).trans r2, r3⟩
theorem zc_rt : ∃ A : Array Value, (∀ w, (zeroValue 34).run Try.prog w = .ok (.agg A) w) ∧ Hid (∀ w : World, Rt (w.alloc (.cells A 34)) w.heap.size fun _ => zero) :=
  ⟨(List.replicate 64 (Value.int .i64 0) ++ List.replicate 64 (Value.bool false) ++ List.replicate 64 (Value.int .i64 0)).toArray, fun w => by kernel_rfl, hide fun w => ⟨_, Blk.new w _ _, by rw [List.length_append, List.length_append, List.length_replicate, List.length_replicate], fun i hi => by
    have g1 : ∀ (n j : Nat) (v : Value), j < n → (List.replicate n v)[j]? = some v := fun n j v hj => by simp [hj]
    have l1 : ∀ (n : Nat) (v : Value), (List.replicate n v).length = n := fun n v => by simp
    refine ⟨?_, ?_, 0, ?_, fun e => by cases e⟩
    · rw [List.append_assoc, List.getElem?_append_left (by rw [l1]; exact hi)]
      exact g1 64 i _ hi
    · rw [List.append_assoc, List.getElem?_append_right (by rw [l1]; omega), l1, List.getElem?_append_left (by rw [l1]; omega)]
      exact g1 64 _ _ (by omega)
    · rw [List.append_assoc, List.getElem?_append_right (by rw [l1]; omega), l1, List.getElem?_append_right (by rw [l1]; omega), l1]
      exact g1 64 _ _ (by omega)⟩⟩
end Go.Proofs.Ytmklmoahkcekiaa.L8

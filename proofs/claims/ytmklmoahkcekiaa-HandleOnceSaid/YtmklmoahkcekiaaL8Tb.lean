/- Tables of handles: what lies in a table's block, slot by slot; the calls of package handle that look at a slot. Conditions: a slot was used at most 1000000 times. -/
import Derived.Test.YtmklmoahkcekiaaOwn
import Derived.Test.YtmklmoahkcekiaaInts
import Derived.Deep.RegionHeld3
namespace Go.Proofs.Ytmklmoahkcekiaa.L8
open Go.ChangeShapes Go.WideShapes Go.ChangeAt Go.RowKit
set_option linter.unusedVariables false

abbrev ptr (p : Nat) : Value := .pointer (some ⟨p, 0, none⟩)
theorem wrap_i64_id (x : Int) (h : -9223372036854775808 ≤ x ∧ x ≤ 9223372036854775807) : IntKind.i64.wrap x = x := IntWalk.i64_in _ (by omega)
/-- A slot: how often it was used ahead of now, whether it is taken, its value. -/
structure Sl where
  e : Nat
  t : Bool
  v : Int
abbrev Sl.val (s : Sl) : Value := .agg #[.int .i64 (s.e : Int), .bool s.t, .int .i64 s.v]
def zero : Sl := ⟨0, false, 0⟩
def upd (S : Nat → Sl) (i : Nat) (s : Sl) : Nat → Sl := fun j => if j = i then s else S j
theorem upd_same (S : Nat → Sl) (i : Nat) (s : Sl) : upd S i s i = s := if_pos rfl
theorem upd_ne (S : Nat → Sl) {i j : Nat} (s : Sl) (h : j ≠ i) : upd S i s j = S j := if_neg h
/-- The handle of a slot. -/
def hd (S : Nat → Sl) (i : Nat) : Nat := 64 * (S i).e + i + 1
/-- No slot was used more often than n times. -/
def Bd (S : Nat → Sl) (n : Nat) : Prop := ∀ i, i < 64 → (S i).e ≤ n
theorem Bd.mono {S : Nat → Sl} {n m : Nat} (h : Bd S n) (k : n ≤ m) : Bd S m := fun i hi => Nat.le_trans (h i hi) k

/-- Block p is a table with these slots. -/
def Tb (w : World) (p : Nat) (S : Nat → Sl) : Prop := ∃ cs, Blk w p 29 cs ∧ cs.length = 192 ∧
  ∀ i, i < 64 → cs[i * 3]? = some (.int .i64 ((S i).e : Int)) ∧ cs[i * 3 + 1]? = some (.bool (S i).t) ∧ cs[i * 3 + 2]? = some (.int .i64 (S i).v)
section
variable {w w' : World} {p : Nat} {S : Nat → Sl} {C : Nat → Prop}
theorem Tb.lt (h : Tb w p S) : p < w.heap.size := by obtain ⟨cs, hb, _⟩ := h; exact hb.lt
theorem Tb.chg (h : Tb w p S) (c : Chg C w w') (hp : ¬ C p) : Tb w' p S := by obtain ⟨cs, hb, r⟩ := h; exact ⟨cs, hb.chg c hp, r⟩
theorem Tb.grow (h : Tb w p S) (c : Grow w w') : Tb w' p S := h.chg c id
theorem Tb.drew (h : Tb w p S) : Tb w.drew p S := h
theorem Tb.c0 (h : Tb w p S) {i : Nat} (hi : i < 64) : w.cell? ⟨p, i * 3, none⟩ = some (.int .i64 ((S i).e : Int)) := by obtain ⟨cs, hb, _, r⟩ := h; rw [hb.cell]; exact (r i hi).1
theorem Tb.c1 (h : Tb w p S) {i : Nat} (hi : i < 64) : w.cell? ⟨p, i * 3 + 1, none⟩ = some (.bool (S i).t) := by obtain ⟨cs, hb, _, r⟩ := h; rw [hb.cell]; exact (r i hi).2.1
theorem Tb.c2 (h : Tb w p S) {i : Nat} (hi : i < 64) : w.cell? ⟨p, i * 3 + 2, none⟩ = some (.int .i64 (S i).v) := by obtain ⟨cs, hb, _, r⟩ := h; rw [hb.cell]; exact (r i hi).2.2
theorem Tb.frozen (h : Tb w p S) (k : Nat) : w.frozen? ⟨p, k, none⟩ = false := by obtain ⟨cs, hb, _⟩ := h; exact hb.frozen k
theorem set_at {cs : List Value} {k : Nat} {u : Value} (h : k < cs.length) : (cs.set k u)[k]? = some u := by simp [h]
theorem set_off {cs : List Value} {k j : Nat} {u : Value} (h : k ≠ j) : (cs.set k u)[j]? = cs[j]? := List.getElem?_set_ne h
theorem Tb.setE (h : Tb w p S) {i : Nat} (hi : i < 64) (e : Nat) : Tb (w.setCell ⟨p, i * 3, none⟩ (.int .i64 (e : Int))) p (upd S i { S i with e := e }) := by
  obtain ⟨cs, hb, hl, r⟩ := h
  refine ⟨_, hb.set_ (i * 3) _, by simp [hl], fun j hj => ?_⟩
  obtain ⟨r0, r1, r2⟩ := r j hj
  by_cases hji : j = i
  · subst hji
    rw [upd_same]
    exact ⟨set_at (by omega), (set_off (by omega)).trans r1, (set_off (by omega)).trans r2⟩
  · rw [upd_ne S _ hji]
    exact ⟨(set_off (by omega)).trans r0, (set_off (by omega)).trans r1, (set_off (by omega)).trans r2⟩
theorem Tb.setT (h : Tb w p S) {i : Nat} (hi : i < 64) (t : Bool) : Tb (w.setCell ⟨p, i * 3 + 1, none⟩ (.bool t)) p (upd S i { S i with t := t }) := by
  obtain ⟨cs, hb, hl, r⟩ := h
  refine ⟨_, hb.set_ (i * 3 + 1) _, by simp [hl], fun j hj => ?_⟩
  obtain ⟨r0, r1, r2⟩ := r j hj
  by_cases hji : j = i
  · subst hji
    rw [upd_same]
    exact ⟨(set_off (by omega)).trans r0, set_at (by omega), (set_off (by omega)).trans r2⟩
  · rw [upd_ne S _ hji]
    exact ⟨(set_off (by omega)).trans r0, (set_off (by omega)).trans r1, (set_off (by omega)).trans r2⟩
theorem Tb.setV (h : Tb w p S) {i : Nat} (hi : i < 64) (v : Int) : Tb (w.setCell ⟨p, i * 3 + 2, none⟩ (.int .i64 v)) p (upd S i { S i with v := v }) := by
  obtain ⟨cs, hb, hl, r⟩ := h
  refine ⟨_, hb.set_ (i * 3 + 2) _, by simp [hl], fun j hj => ?_⟩
  obtain ⟨r0, r1, r2⟩ := r j hj
  by_cases hji : j = i
  · subst hji
    rw [upd_same]
    exact ⟨(set_off (by omega)).trans r0, (set_off (by omega)).trans r1, set_at (by omega)⟩
  · rw [upd_ne S _ hji]
    exact ⟨(set_off (by omega)).trans r0, (set_off (by omega)).trans r1, (set_off (by omega)).trans r2⟩
theorem upd_upd (S : Nat → Sl) (i : Nat) (s s' : Sl) : upd (upd S i s) i s' = upd S i s' := by
  funext j
  unfold upd
  split <;> rfl
theorem Tb.eq (h : Tb w p S) {S' : Nat → Sl} (e : S = S') : Tb w p S' := e ▸ h
end

/-- The cells of a zero table. -/
def zc : Nat → List Value
  | 0 => []
  | n + 1 => zc n ++ [.int .i64 0, .bool false, .int .i64 0]
theorem zc_length (n : Nat) : (zc n).length = n * 3 := by
  induction n with
  | zero => rfl
  | succ n ih => simp [zc, ih]; omega
theorem zc_get (n : Nat) : ∀ i, i < n → (zc n)[i * 3]? = some (.int .i64 0) ∧ (zc n)[i * 3 + 1]? = some (.bool false) ∧ (zc n)[i * 3 + 2]? = some (.int .i64 0) := by
  induction n with
  | zero => intro i hi; omega
  | succ n ih =>
    intro i hi
    have hl := zc_length n
    rcases Nat.lt_or_ge i n with h1 | h1
    · unfold zc
      rw [List.getElem?_append_left (by omega), List.getElem?_append_left (by omega), List.getElem?_append_left (by omega)]
      exact ih i h1
    · obtain rfl : i = n := by omega
      unfold zc
      rw [List.getElem?_append_right (by omega), List.getElem?_append_right (by omega), List.getElem?_append_right (by omega), hl]
      simp
theorem Tb.zero {w : World} {p : Nat} (h : Blk w p 29 (zc 64)) : Tb w p fun _ => zero :=
  ⟨_, h, zc_length 64, zc_get 64⟩

section
variable (w : World)
theorem hd_any (s : Sl) (i h : Nat) (hi : i < 64) (he : s.e ≤ 1000000) (hh : h = 64 * s.e + i + 1) : Calls Try.prog 27 #[s.val, .int .i64 (i : Int)] w fun e w' => e = .returned (.int .i64 (h : Int)) ∧ Grow w w' := by
  obtain ⟨y, hy⟩ : ∃ y, y = 64 * s.e := ⟨_, rfl⟩
  have h1 : IntKind.i64.wrap (64 * (s.e : Int)) = (y : Int) := by rw [wrap_i64_id _ (by omega)]; omega
  have h2 : IntKind.i64.wrap ((y : Int) + (i : Int)) = ((y + i : Nat) : Int) := by rw [wrap_i64_id _ (by omega)]; omega
  obtain ⟨z, hz⟩ : ∃ z, z = y + i := ⟨_, rfl⟩
  rw [← hz] at h2
  have h3 : IntKind.i64.wrap ((z : Int) + 1) = (h : Int) := by rw [wrap_i64_id _ (by omega)]; omega
  obtain ⟨se, st, sv⟩ := s
  clear hi he hh hy hz
  go_enter Try.func27, Try.ntmps27
  go_wp2
  go_ret
  exact ⟨rfl, Grow.box _ _⟩
theorem free_any (s : Sl) : Calls Try.prog 26 #[s.val] w fun e w' => e = .returned (.bool (!s.t)) ∧ Grow w w' := by
  obtain ⟨se, st, sv⟩ := s
  go_enter Try.func26, Try.ntmps26
  go_wp2
  go_ret
  exact ⟨rfl, Grow.box _ _⟩
theorem all_nil : Calls Try.prog 24 #[.pointer none] w fun e w' => e = .returned (.slice none 0 0) ∧ w = w' := by
  go_enter Try.func24, Try.ntmps24
  go_wp2
  go_ret
  exact ⟨rfl, rfl⟩
theorem all_any (p : Nat) {S : Nat → Sl} (h : Tb w p S) : Calls Try.prog 24 #[ptr p] w fun e w' => e = .returned (.slice (some ⟨p, 0, none⟩) 64 64) ∧ w = w' := by
  clear h
  go_enter Try.func24, Try.ntmps24
  go_wp2
  go_ret
  exact ⟨rfl, rfl⟩
end
end Go.Proofs.Ytmklmoahkcekiaa.L8

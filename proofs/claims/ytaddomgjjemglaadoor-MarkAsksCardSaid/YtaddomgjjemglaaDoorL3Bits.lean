/- What each call of package bits that only reads answers, of a map whose words are known (a nil one among them). Conditions: the numbers given fit their kinds; a map has at most 4096 places. -/
import Derived.Test.YtaddomgjjemglaaDoorL3Leaf
import Derived.StillTailTactics
import Derived.ScopeJumps
import Derived.Laws.ShiftsVarLaws
namespace Go.Proofs.YtaddomgjjemglaaDoor.L3
open Go.ChangeShapes Go.WideShapes Go.ChangeAt Go.RowKit
set_option linter.unusedVariables false

abbrev ptr (p : Nat) : Value := .pointer (some ⟨p, 0, none⟩)
/-- The words as cells. -/
def u64s (ws : List Nat) : List Value := ws.map fun x => .int .u64 (x : Nat)
theorem u64s_length (ws : List Nat) : (u64s ws).length = ws.length := by simp [u64s]
theorem u64s_get (ws : List Nat) (k : Nat) (h : k < ws.length) : (u64s ws)[k]? = some (.int .u64 (ws.getD k 0 : Nat)) := by
  simp [u64s, h]
theorem u64s_set (ws : List Nat) (k x : Nat) : (u64s ws).set k (.int .u64 (x : Nat)) = u64s (ws.set k x) := by simp [u64s, List.map_set]

/-- Is a place set? -/
def hs (ws : List Nat) (i : Nat) : Bool := (ws.getD (i / 64) 0).testBit (i % 64)
/-- So many words for n places, none set beyond them. -/
structure Rep (n : Nat) (ws : List Nat) : Prop where
  most : n ≤ 4096
  len : ws.length = (n + 63) / 64
  word : ∀ k, ws.getD k 0 < 18446744073709551616
  tail : ∀ i, hs ws i = true → i < n

/-- The value pv leads to a map of n places with these words, which lie in a row at A; nil leads to none. -/
structure Mv (w : World) (pv : Value) (A : Option Addr) (n : Nat) (ws : List Nat) : Prop where
  rep : Rep n ws
  head : (pv = .pointer none ∧ A = none ∧ n = 0 ∧ ws = []) ∨ ∃ b, pv = ptr b ∧ w.cell? ⟨b, 0, none⟩ = some (.int .i64 n) ∧ w.cell? ⟨b, 1, none⟩ = some (.slice A ws.length ws.length)
  cell : ∀ k, k < ws.length → ∃ g, A = some ⟨g, 0, none⟩ ∧ w.cell? ⟨g, k, none⟩ = some (.int .u64 (ws.getD k 0 : Nat))
theorem Mv.grow {w w' : World} {pv : Value} {A : Option Addr} {n : Nat} {ws : List Nat} (h : Mv w pv A n ws) (c : Grow w w') : Mv w' pv A n ws :=
  ⟨h.rep, h.head.imp id fun ⟨b, e, c0, c1⟩ => ⟨b, e, c.cell c0, c.cell c1⟩, fun k hk => by obtain ⟨g, e, hc⟩ := h.cell k hk; exact ⟨g, e, c.cell hc⟩⟩
theorem Mv.lenle {w : World} {pv : Value} {A : Option Addr} {n : Nat} {ws : List Nat} (h : Mv w pv A n ws) : ws.length ≤ 64 := by have := h.rep.most; have := h.rep.len; omega

section
variable (pv : Value) (A : Option Addr) (n : Nat) (ws : List Nat) (w : World)

theorem len_any (h : Mv w pv A n ws) : Calls Tryd.prog 17 #[pv] w fun e w' => e = .returned (.int .i64 n) ∧ w = w' := by
  rcases h.head with ⟨rfl, rfl, rfl, rfl⟩ | ⟨b, rfl, c0, c1⟩
  · clear h
    go_enter Tryd.func17, Tryd.ntmps17
    go_wp2
    go_ret
    exact ⟨rfl, rfl⟩
  · clear h
    go_enter Tryd.func17, Tryd.ntmps17
    go_wp2
    go_ret
    exact ⟨rfl, rfl⟩

theorem all_any (h : Mv w pv A n ws) : Calls Tryd.prog 33 #[pv] w fun e w' => e = .returned (.slice A ws.length ws.length) ∧ w = w' := by
  rcases h.head with ⟨rfl, rfl, rfl, rfl⟩ | ⟨b, rfl, c0, c1⟩
  · clear h
    go_enter Tryd.func33, Tryd.ntmps33
    go_wp2
    go_ret
    exact ⟨rfl, rfl⟩
  · clear h
    go_enter Tryd.func33, Tryd.ntmps33
    go_wp2
    go_ret
    exact ⟨rfl, rfl⟩

/-- Is a place there? -/
def exB (n : Nat) (i : Int) : Bool := decide (0 ≤ i ∧ i < n)
theorem exB_nat {n : Nat} {i : Int} (h : exB n i = true) : ∃ a : Nat, i = a ∧ a < n := by
  simp [exB] at h
  obtain ⟨a, rfl⟩ := Int.eq_ofNat_of_zero_le h.1
  exact ⟨a, rfl, by omega⟩

theorem exists_any (i : Int) (h : Mv w pv A n ws) : Calls Tryd.prog 32 #[pv, .int .i64 i] w fun e w' => e = .returned (.bool (exB n i)) ∧ w = w' := by
  have H := hide h
  clear h
  by_cases ha : 0 ≤ i
  · go_enter Tryd.func32, Tryd.ntmps32
    go_wp2_with fail
    refine (len_any _ A n ws _ H.out).mono ?_
    rintro e w' ⟨rfl, rfl⟩
    go_wp2
    go_ret
    exact ⟨ret_bool (by simp [exB, ha]), rfl⟩
  · have e : exB n i = false := by simp [exB]; omega
    have E := hide e
    clear e
    have ha' : decide (0 ≤ i) = false := by simpa using ha
    go_enter Tryd.func32, Tryd.ntmps32
    go_wp2
    go_ret
    exact ⟨ret_bool E.out.symm, rfl⟩

/-- The answer of Has. -/
def hasB (n : Nat) (ws : List Nat) (i : Int) : Bool := exB n i && hs ws i.toNat

theorem has_no (i : Int) (h : Mv w pv A n ws) (hx : exB n i = false) : Calls Tryd.prog 18 #[pv, .int .i64 i] w fun e w' => e = .returned (.bool false) ∧ Grow w w' := by
  have H := hide fun W (c : Grow w W) => exists_any pv A n ws W i (h.grow c)
  rw [hx] at H
  clear h hx
  go_enter Tryd.func18, Tryd.ntmps18
  go_wp2_with fail
  refine wp_region_grow (by kernel_rfl) (by kernel_rfl) ?_
  repeat (
    with_reducible refine wpQuiet_step ?_
    intro K hK
    first
      | ((with_reducible refine quiet_offT rfl ?_ (hK _ ?_)); focus (refine ⟨_, rfl, ?_⟩; with_reducible rfl))
      | ((with_reducible refine quiet_offF rfl ?_ (hK _ ?_)); focus (refine ⟨_, rfl, ?_⟩; with_reducible rfl))
      | ((with_reducible refine quiet_offN rfl ?_ (hK _ ?_)); focus (exact rfl))
      | ((first | with_reducible refine quiet_free rfl ?_ | ((with_reducible refine quiet_on rfl ?_ ?_); focus (refine ⟨_, rfl, ?_⟩; with_reducible rfl)))
         apply Exists.intro
         refine ⟨fun Wq hW => ?_, hK _ ?_⟩
         focus (go_simp; first | done | with_reducible rfl | (go_at_call 32; (first | with_reducible exact grown_call hW (H.out _ hW) | with_reducible exact grown_same hW (H.out _ hW)))))
    clear hK K
    simp only [Act.put, List.setIfInBounds_toArray, List.set_cons_zero, List.set_cons_succ])
  with_reducible refine wpQuiet_nil ?_
  intro w' c
  go_wp2
  go_ret
  exact ⟨rfl, c⟩

/-- A place's word: what the walk writes for it. -/
theorem word_of {n k : Nat} {ws : List Nat} (h : Rep n ws) (hk : k < n) : ∃ q : Nat, k / 64 = q ∧ q < ws.length ∧ IntKind.i64.wrap ((k : Int) / 64) = (q : Int) ∧ (0 : Int) ≤ (q : Int) ∧ (q : Int) < (ws.length : Int) := by
  have hm := h.most
  have hl := h.len
  exact ⟨k / 64, rfl, by omega, by rw [wrap_i64_id _ (by omega)]; omega, by omega, by omega⟩
theorem and_bit (x j : Nat) (hx : x < 18446744073709551616) (hj : j < 64) : ∃ y : Nat, bits .and .u64 ((x : Nat) : Int) ((2 ^ j : Nat) : Int) = y ∧ ((y : Int) != 0) = x.testBit j := by
  refine ⟨_, bits_and_u64_nat _ _ hx (pow64 _ hj), ?_⟩
  have hb : (x &&& 2 ^ j).testBit j = x.testBit j := by simp [Nat.testBit_and]
  cases h : x.testBit j with
  | true =>
    rw [h] at hb
    have : x &&& 2 ^ j ≠ 0 := by intro e; rw [e] at hb; simp at hb
    simp; omega
  | false =>
    have : x &&& 2 ^ j = 0 := by
      apply Nat.eq_of_testBit_eq
      intro i
      rw [Nat.testBit_and, Nat.testBit_two_pow]
      by_cases e : j = i
      · subst e; simp [h]
      · simp [e]
    rw [this]; rfl

theorem has_at (k : Nat) (h : Mv w pv A n ws) (hk : k < n) : Calls Tryd.prog 18 #[pv, .int .i64 k] w fun e w' => e = .returned (.bool (hs ws k)) ∧ Grow w w' := by
  have hm := h.rep.most
  have hx : exB n k = true := by simp [exB]; omega
  obtain ⟨q, hq, hql, hqw, hq0, hq1⟩ := word_of h.rep hk
  obtain ⟨g, rfl, hc⟩ := h.cell q hql
  have H := hide fun W (c : Grow w W) => exists_any pv (some ⟨g, 0, none⟩) n ws W k (h.grow c)
  have H2 := hide fun W (c : Grow w W) => all_any pv (some ⟨g, 0, none⟩) n ws W (h.grow c)
  have H3 := hide fun W => bit_any k (by omega) W
  obtain ⟨y, hy, hy2⟩ := and_bit (ws.getD q 0) (k % 64) (h.rep.word _) (by omega)
  have HE := hide (show ((y : Int) != 0) = hs ws k by rw [hy2, ← hq]; rfl)
  rw [hx] at H
  clear h hx hy2 hq
  generalize ws.getD q 0 = x at *
  generalize 2 ^ (k % 64) = b at *
  go_enter Tryd.func18, Tryd.ntmps18
  go_wp2_with fail
  refine wp_region_grow (by kernel_rfl) (by kernel_rfl) ?_
  repeat (
    with_reducible refine wpQuiet_step ?_
    intro K hK
    first
      | ((with_reducible refine quiet_offT rfl ?_ (hK _ ?_)); focus (refine ⟨_, rfl, ?_⟩; with_reducible rfl))
      | ((with_reducible refine quiet_offF rfl ?_ (hK _ ?_)); focus (refine ⟨_, rfl, ?_⟩; with_reducible rfl))
      | ((with_reducible refine quiet_offN rfl ?_ (hK _ ?_)); focus (exact rfl))
      | ((first | with_reducible refine quiet_free rfl ?_ | ((with_reducible refine quiet_on rfl ?_ ?_); focus (refine ⟨_, rfl, ?_⟩; with_reducible rfl)))
         apply Exists.intro
         refine ⟨fun Wq hW => ?_, hK _ ?_⟩
         focus (have q0 := Grow.cell hW hc; go_simp; first | done | with_reducible rfl | (go_at_call 32; (first | with_reducible exact grown_call hW (H.out _ hW) | with_reducible exact grown_same hW (H.out _ hW))) | (go_at_call 33; (first | with_reducible exact grown_call hW (H2.out _ hW) | with_reducible exact grown_same hW (H2.out _ hW))) | (go_at_call 34; (first | with_reducible exact grown_call hW (H3.out _) | with_reducible exact grown_same hW (H3.out _)))))
    clear hK K
    simp only [Act.put, List.setIfInBounds_toArray, List.set_cons_zero, List.set_cons_succ])
  with_reducible refine wpQuiet_nil ?_
  intro w' c
  go_wp2
  go_ret
  exact ⟨ret_bool HE.out, c⟩

theorem has_any (i : Int) (h : Mv w pv A n ws) : Calls Tryd.prog 18 #[pv, .int .i64 i] w fun e w' => e = .returned (.bool (hasB n ws i)) ∧ Grow w w' := by
  cases hx : exB n i with
  | false => exact (has_no pv A n ws w i h hx).mono fun _ _ ⟨he, hg⟩ => ⟨by rw [he]; simp [hasB, hx], hg⟩
  | true =>
    obtain ⟨k, rfl, hk⟩ := exB_nat hx
    exact (has_at pv A n ws w k h hk).mono fun _ _ ⟨he, hg⟩ => ⟨by rw [he]; simp [hasB, hx], hg⟩

/-- A number brought into 0 to n. -/
def cl (n : Nat) (i : Int) : Nat := (min (max i 0) n).toNat

theorem hs_at (ws : List Nat) (q j : Nat) (hj : j < 64) : hs ws (64 * q + j) = (ws.getD q 0).testBit j := by
  unfold hs
  rw [show (64 * q + j) / 64 = q by omega, show (64 * q + j) % 64 = j by omega]
theorem cnt_word (ws : List Nat) (q r : Nat) (hr : r ≤ 64) : cnt (hs ws) (64 * q + r) = cnt (hs ws) (64 * q) + cnt (ws.getD q 0).testBit r := by
  rw [cnt_add]
  congr 1
  exact cnt_congr fun j hj => hs_at ws q j (by omega)
theorem cnt_low (x r : Nat) (hr : r ≤ 64) : cnt (x % 2 ^ r).testBit 64 = cnt x.testBit r := by
  rw [cnt_upto hr fun i h1 h2 => by rw [Nat.testBit_mod_two_pow]; simp; omega]
  exact cnt_congr fun i hi => by rw [Nat.testBit_mod_two_pow]; simp [hi]

theorem sum_cast {a b c : Nat} (h : c = a + b) : Value.int .i64 ((a : Int) + (b : Int)) = .int .i64 ((c : Nat) : Int) := by rw [h, Int.natCast_add]
theorem below_zero (i : Int) (h : Mv w pv A n ws) (h0 : i ≤ 0 ∨ n = 0) : Calls Tryd.prog 35 #[pv, .int .i64 i] w fun e w' => e = .returned (.int .i64 (cnt (hs ws) (cl n i))) ∧ Grow w w' := by
  have e : cl n i = 0 := by unfold cl; omega
  rw [e]
  clear e
  have H := hide h
  rcases (by omega : i < 0 ∨ i = 0 ∨ (0 < i ∧ n = 0)) with h1 | rfl | ⟨h1, rfl⟩
  · clear h0
    cases A with
    | none =>
      clear h
      go_enter Tryd.func35, Tryd.ntmps35
      go_wp2_with fail
      refine (len_any _ _ _ _ _ H.out).mono ?_
      rintro e w' ⟨rfl, rfl⟩
      go_wp2_with fail
      refine (all_any _ _ _ _ _ H.out).mono ?_
      rintro e w' ⟨rfl, rfl⟩
      go_wp2
      refine wp_loop_rounds 1 ?_
      rw [rounds_succ]
      go_wp2
      go_ret
      exact ⟨rfl, Chg.refl _ _⟩
    | some A =>
      clear h
      go_enter Tryd.func35, Tryd.ntmps35
      go_wp2_with fail
      refine (len_any _ _ _ _ _ H.out).mono ?_
      rintro e w' ⟨rfl, rfl⟩
      go_wp2_with fail
      refine (all_any _ _ _ _ _ H.out).mono ?_
      rintro e w' ⟨rfl, rfl⟩
      go_wp2
      refine wp_loop_rounds 1 ?_
      rw [rounds_succ]
      go_wp2
      go_ret
      exact ⟨rfl, Chg.refl _ _⟩
  · clear h0
    cases A with
    | none =>
      clear h
      go_enter Tryd.func35, Tryd.ntmps35
      go_wp2_with fail
      refine (len_any _ _ _ _ _ H.out).mono ?_
      rintro e w' ⟨rfl, rfl⟩
      go_wp2_with fail
      refine (all_any _ _ _ _ _ H.out).mono ?_
      rintro e w' ⟨rfl, rfl⟩
      go_wp2
      refine wp_loop_rounds 1 ?_
      rw [rounds_succ]
      go_wp2
      go_ret
      exact ⟨rfl, Chg.refl _ _⟩
    | some A =>
      clear h
      go_enter Tryd.func35, Tryd.ntmps35
      go_wp2_with fail
      refine (len_any _ _ _ _ _ H.out).mono ?_
      rintro e w' ⟨rfl, rfl⟩
      go_wp2_with fail
      refine (all_any _ _ _ _ _ H.out).mono ?_
      rintro e w' ⟨rfl, rfl⟩
      go_wp2
      refine wp_loop_rounds 1 ?_
      rw [rounds_succ]
      go_wp2
      go_ret
      exact ⟨rfl, Chg.refl _ _⟩
  · clear h0
    have h2 : 0 ≤ i := by omega
    cases A with
    | none =>
      clear h
      go_enter Tryd.func35, Tryd.ntmps35
      go_wp2_with fail
      refine (len_any _ _ _ _ _ H.out).mono ?_
      rintro e w' ⟨rfl, rfl⟩
      go_wp2_with fail
      refine (all_any _ _ _ _ _ H.out).mono ?_
      rintro e w' ⟨rfl, rfl⟩
      go_wp2
      refine wp_loop_rounds 1 ?_
      rw [rounds_succ]
      go_wp2
      go_ret
      exact ⟨rfl, Chg.refl _ _⟩
    | some A =>
      clear h
      go_enter Tryd.func35, Tryd.ntmps35
      go_wp2_with fail
      refine (len_any _ _ _ _ _ H.out).mono ?_
      rintro e w' ⟨rfl, rfl⟩
      go_wp2_with fail
      refine (all_any _ _ _ _ _ H.out).mono ?_
      rintro e w' ⟨rfl, rfl⟩
      go_wp2
      refine wp_loop_rounds 1 ?_
      rw [rounds_succ]
      go_wp2
      go_ret
      exact ⟨rfl, Chg.refl _ _⟩


theorem below_facts {n a : Nat} {ws : List Nat} (h : Rep n ws) (ha : a ≤ n) : ∃ q r : Nat, a = 64 * q + r ∧ r < 64 ∧ q ≤ ws.length ∧ (q : Int) ≤ (ws.length : Int) ∧ (0 < r → q < ws.length) ∧ IntKind.i64.wrap ((a : Int) / 64) = (q : Int) ∧ (a : Int) % 64 = (r : Int) ∧ (0 : Int) ≤ (q : Int) := by
  have hm := h.most
  have hl := h.len
  exact ⟨a / 64, a % 64, by omega, by omega, by omega, by omega, by omega, by rw [wrap_i64_id _ (by omega)]; omega, by omega, by omega⟩

set_option maxHeartbeats 1000000 in
theorem below_in (i : Nat) (h : Mv w pv A n ws) (h0 : 0 < i) (hi : i < n) : Calls Tryd.prog 35 #[pv, .int .i64 i] w fun e w' => e = .returned (.int .i64 (cnt (hs ws) i)) ∧ Grow w w' := by
  obtain ⟨q, r, hi', hr64, hqle, hq1, hqr, hqw, hrw, hq0⟩ := below_facts h.rep (a := i) (by omega)
  obtain ⟨g, rfl, _⟩ := h.cell 0 (by have := h.rep.len; omega)
  have hin : (i : Int) < n := by omega
  have hi0 : (0 : Int) ≤ (i : Int) := by omega
  have H := hide h
  have HI := hide hi'
  clear h hi'
  go_enter Tryd.func35, Tryd.ntmps35
  go_wp2_with fail
  refine (len_any _ _ n ws _ H.out).mono ?_
  rintro e w' ⟨rfl, rfl⟩
  go_wp2_with fail
  refine (all_any _ _ n ws _ H.out).mono ?_
  rintro e w' ⟨rfl, rfl⟩
  go_wp2
  go_loopw [24, 7] (fun i s wr => ∃ k : Nat, k ≤ q ∧ i = .int .i64 k ∧ s = .int .i64 (cnt (hs ws) (64 * k) : Nat) ∧ w = wr) (fun i _ _ => q - (intOf i).toNat)
  case atStart => exact ⟨0, Nat.zero_le _, rfl, rfl, rfl⟩
  case round =>
    obtain ⟨k, hk, rfl, rfl, rfl⟩ := hrel
    by_cases hlt : k < q
    · obtain ⟨g', e', hc⟩ := H.out.cell k (by omega)
      cases e'
      have hx := H.out.rep.word k
      have hsum := cnt_word ws k 64 (Nat.le_refl _)
      have hle := cnt_le (hs ws) (64 * k)
      have hle2 := cnt_le (ws.getD k 0).testBit 64
      have hk64 : k ≤ 64 := by have := H.out.lenle; omega
      generalize ws.getD k 0 = x at *
      obtain ⟨c1, hc1⟩ : ∃ c, c = cnt (hs ws) (64 * k) := ⟨_, rfl⟩
      obtain ⟨c2, hc2⟩ : ∃ c, c = cnt x.testBit 64 := ⟨_, rfl⟩
      rw [← hc1, ← hc2] at hsum
      rw [← hc1] at hle ⊢
      rw [← hc2] at hle2
      have ho := ones_any x hx w
      rw [← hc2] at ho
      have HO := hide ho
      have HS := hide hsum
      have hw : IntKind.i64.wrap ((c1 : Int) + (c2 : Int)) = ((c1 + c2 : Nat) : Int) := by rw [wrap_i64_id _ (by omega)]; omega
      clear ho hsum hc1 hc2 hle hle2 hx
      go_wp2_with fail
      refine HO.out.mono ?_
      rintro e w' ⟨rfl, rfl⟩
      go_wp2
      go_roundw
      case rel => exact ⟨k + 1, by omega, by go_num, sum_cast (by rw [show 64 * (k + 1) = 64 * k + 64 by omega, HS.out]), by first | rfl | trivial⟩
      case measure => simp [intOf]; omega
    · obtain rfl : k = q := by omega
      by_cases hr0 : r = 0
      · subst hr0
        have hr1 : decide ((0 : Int) < ((0 : Nat) : Int)) = false := by decide
        go_wp2
        go_ret
        exact ⟨ret_int (by rw [HI.out]; rfl), Chg.refl _ _⟩
      · have hr1 : (0 : Int) < (r : Int) := by omega
        have hql : k < ws.length := hqr (by omega)
        have hq1 : (k : Int) < (ws.length : Int) := by omega
        obtain ⟨g', e', hc⟩ := H.out.cell k hql
        cases e'
        have hx := H.out.rep.word k
        have hsum := cnt_word ws k r (by omega)
        have hlow := cnt_low (ws.getD k 0) r (by omega)
        have hle := cnt_le (hs ws) (64 * k)
        have hle2 := cnt_le (ws.getD k 0).testBit r
        have hk64 : k ≤ 64 := by have := H.out.lenle; omega
        have hand : ∃ y : Nat, y < 18446744073709551616 ∧ bits .and .u64 ((ws.getD k 0 : Nat) : Int) ((2 ^ r - 1 : Nat) : Int) = (y : Int) ∧ y = ws.getD k 0 % 2 ^ r := by
          have hp := pow64 r hr64
          refine ⟨_, ?_, (bits_and_u64_nat _ _ hx (by omega)).trans rfl, Nat.and_two_pow_sub_one_eq_mod _ _⟩
          exact Nat.lt_of_le_of_lt Nat.and_le_left hx
        obtain ⟨y, hy, hyb, hyx⟩ := hand
        rw [← hyx] at hlow
        have hp := pow64 r hr64
        have hp1 : 0 < 2 ^ r := Nat.two_pow_pos r
        have hbw : IntKind.u64.wrap (((2 ^ r : Nat) : Int) - 1) = ((2 ^ r - 1 : Nat) : Int) := by rw [wrap_u64_id _ (by omega) (by omega)]; omega
        have hbit : ∀ W : World, Calls Tryd.prog 34 #[.int .i64 r] W fun e w' => e = .returned (.int .u64 ((2 ^ r : Nat) : Int)) ∧ W = w' := fun W => by
          have := bit_any r (by omega) W
          rwa [Nat.mod_eq_of_lt hr64] at this
        clear hp hp1
        generalize ws.getD k 0 = x at *
        generalize 2 ^ r - 1 = b1 at *
        generalize 2 ^ r = b at *
        rw [← hlow] at hle2 hsum
        obtain ⟨c1, hc1⟩ : ∃ c, c = cnt (hs ws) (64 * k) := ⟨_, rfl⟩
        obtain ⟨c2, hc2⟩ : ∃ c, c = cnt y.testBit 64 := ⟨_, rfl⟩
        rw [← hc1, ← hc2] at hsum
        rw [← hc1] at hle ⊢
        rw [← hc2] at hle2
        have ho := fun W => ones_any y hy W
        rw [← hc2] at ho
        have HO := hide ho
        have HS := hide hsum
        have hw : IntKind.i64.wrap ((c1 : Int) + (c2 : Int)) = ((c1 + c2 : Nat) : Int) := by rw [wrap_i64_id _ (by omega)]; omega
        have HB := hide hbit
        have HA := hide fun W (c : Grow w W) => all_any pv (some ⟨g, 0, none⟩) n ws W (H.out.grow c)
        clear ho hsum hc1 hc2 hle hle2 hx hyx hlow hbit
        go_wp2_with fail
        refine wp_region_grow (by kernel_rfl) (by kernel_rfl) ?_
        repeat (
          with_reducible refine wpQuiet_step ?_
          intro K hK
          first
            | ((with_reducible refine quiet_offT rfl ?_ (hK _ ?_)); focus (refine ⟨_, rfl, ?_⟩; with_reducible rfl))
            | ((with_reducible refine quiet_offF rfl ?_ (hK _ ?_)); focus (refine ⟨_, rfl, ?_⟩; with_reducible rfl))
            | ((with_reducible refine quiet_offN rfl ?_ (hK _ ?_)); focus (exact rfl))
            | ((first | with_reducible refine quiet_free rfl ?_ | ((with_reducible refine quiet_on rfl ?_ ?_); focus (refine ⟨_, rfl, ?_⟩; with_reducible rfl)))
               apply Exists.intro
               refine ⟨fun Wq hW => ?_, hK _ ?_⟩
               focus (have q0 := Grow.cell hW hc; go_simp; first | done | with_reducible rfl | (go_at_call 33; (first | with_reducible exact grown_call hW (HA.out _ hW) | with_reducible exact grown_same hW (HA.out _ hW))) | (go_at_call 34; (first | with_reducible exact grown_call hW (HB.out _) | with_reducible exact grown_same hW (HB.out _))) | (go_at_call 38; (first | with_reducible exact grown_call hW (HO.out _) | with_reducible exact grown_same hW (HO.out _)))))
          clear hK K
          simp only [Act.put, List.setIfInBounds_toArray, List.set_cons_zero, List.set_cons_succ])
        with_reducible refine wpQuiet_nil ?_
        intro w' c
        go_wp2
        go_ret
        exact ⟨ret_int (by rw [HI.out, HS.out]; exact (Int.natCast_add _ _).symm), c⟩

set_option maxHeartbeats 1000000 in
theorem below_all (h : Mv w pv A n ws) (h0 : 0 < n) : Calls Tryd.prog 35 #[pv, .int .i64 n] w fun e w' => e = .returned (.int .i64 (cnt (hs ws) n)) ∧ Grow w w' := by
  have hi0 : (0 : Int) ≤ (n : Int) := by omega
  obtain ⟨q, r, hi', hr64, hqle, hq1, hqr, hqw, hrw, hq0⟩ := below_facts h.rep (a := n) (by omega)
  obtain ⟨g, rfl, _⟩ := h.cell 0 (by have := h.rep.len; omega)
  have H := hide h
  have HI := hide hi'
  clear h hi'
  go_enter Tryd.func35, Tryd.ntmps35
  go_wp2_with fail
  refine (len_any _ _ n ws _ H.out).mono ?_
  rintro e w' ⟨rfl, rfl⟩
  go_wp2_with fail
  refine (all_any _ _ n ws _ H.out).mono ?_
  rintro e w' ⟨rfl, rfl⟩
  go_wp2
  go_loopw [24, 7] (fun i s wr => ∃ k : Nat, k ≤ q ∧ i = .int .i64 k ∧ s = .int .i64 (cnt (hs ws) (64 * k) : Nat) ∧ w = wr) (fun i _ _ => q - (intOf i).toNat)
  case atStart => exact ⟨0, Nat.zero_le _, rfl, rfl, rfl⟩
  case round =>
    obtain ⟨k, hk, rfl, rfl, rfl⟩ := hrel
    by_cases hlt : k < q
    · obtain ⟨g', e', hc⟩ := H.out.cell k (by omega)
      cases e'
      have hx := H.out.rep.word k
      have hsum := cnt_word ws k 64 (Nat.le_refl _)
      have hle := cnt_le (hs ws) (64 * k)
      have hle2 := cnt_le (ws.getD k 0).testBit 64
      have hk64 : k ≤ 64 := by have := H.out.lenle; omega
      generalize ws.getD k 0 = x at *
      obtain ⟨c1, hc1⟩ : ∃ c, c = cnt (hs ws) (64 * k) := ⟨_, rfl⟩
      obtain ⟨c2, hc2⟩ : ∃ c, c = cnt x.testBit 64 := ⟨_, rfl⟩
      rw [← hc1, ← hc2] at hsum
      rw [← hc1] at hle ⊢
      rw [← hc2] at hle2
      have ho := ones_any x hx w
      rw [← hc2] at ho
      have HO := hide ho
      have HS := hide hsum
      have hw : IntKind.i64.wrap ((c1 : Int) + (c2 : Int)) = ((c1 + c2 : Nat) : Int) := by rw [wrap_i64_id _ (by omega)]; omega
      clear ho hsum hc1 hc2 hle hle2 hx
      go_wp2_with fail
      refine HO.out.mono ?_
      rintro e w' ⟨rfl, rfl⟩
      go_wp2
      go_roundw
      case rel => exact ⟨k + 1, by omega, by go_num, sum_cast (by rw [show 64 * (k + 1) = 64 * k + 64 by omega, HS.out]), by first | rfl | trivial⟩
      case measure => simp [intOf]; omega
    · obtain rfl : k = q := by omega
      by_cases hr0 : r = 0
      · subst hr0
        have hr1 : decide ((0 : Int) < ((0 : Nat) : Int)) = false := by decide
        go_wp2
        go_ret
        exact ⟨ret_int (by rw [HI.out]; rfl), Chg.refl _ _⟩
      · have hr1 : (0 : Int) < (r : Int) := by omega
        have hql : k < ws.length := hqr (by omega)
        have hq1 : (k : Int) < (ws.length : Int) := by omega
        obtain ⟨g', e', hc⟩ := H.out.cell k hql
        cases e'
        have hx := H.out.rep.word k
        have hsum := cnt_word ws k r (by omega)
        have hlow := cnt_low (ws.getD k 0) r (by omega)
        have hle := cnt_le (hs ws) (64 * k)
        have hle2 := cnt_le (ws.getD k 0).testBit r
        have hk64 : k ≤ 64 := by have := H.out.lenle; omega
        have hand : ∃ y : Nat, y < 18446744073709551616 ∧ bits .and .u64 ((ws.getD k 0 : Nat) : Int) ((2 ^ r - 1 : Nat) : Int) = (y : Int) ∧ y = ws.getD k 0 % 2 ^ r := by
          have hp := pow64 r hr64
          refine ⟨_, ?_, (bits_and_u64_nat _ _ hx (by omega)).trans rfl, Nat.and_two_pow_sub_one_eq_mod _ _⟩
          exact Nat.lt_of_le_of_lt Nat.and_le_left hx
        obtain ⟨y, hy, hyb, hyx⟩ := hand
        rw [← hyx] at hlow
        have hp := pow64 r hr64
        have hp1 : 0 < 2 ^ r := Nat.two_pow_pos r
        have hbw : IntKind.u64.wrap (((2 ^ r : Nat) : Int) - 1) = ((2 ^ r - 1 : Nat) : Int) := by rw [wrap_u64_id _ (by omega) (by omega)]; omega
        have hbit : ∀ W : World, Calls Tryd.prog 34 #[.int .i64 r] W fun e w' => e = .returned (.int .u64 ((2 ^ r : Nat) : Int)) ∧ W = w' := fun W => by
          have := bit_any r (by omega) W
          rwa [Nat.mod_eq_of_lt hr64] at this
        clear hp hp1
        generalize ws.getD k 0 = x at *
        generalize 2 ^ r - 1 = b1 at *
        generalize 2 ^ r = b at *
        rw [← hlow] at hle2 hsum
        obtain ⟨c1, hc1⟩ : ∃ c, c = cnt (hs ws) (64 * k) := ⟨_, rfl⟩
        obtain ⟨c2, hc2⟩ : ∃ c, c = cnt y.testBit 64 := ⟨_, rfl⟩
        rw [← hc1, ← hc2] at hsum
        rw [← hc1] at hle ⊢
        rw [← hc2] at hle2
        have ho := fun W => ones_any y hy W
        rw [← hc2] at ho
        have HO := hide ho
        have HS := hide hsum
        have hw : IntKind.i64.wrap ((c1 : Int) + (c2 : Int)) = ((c1 + c2 : Nat) : Int) := by rw [wrap_i64_id _ (by omega)]; omega
        have HB := hide hbit
        have HA := hide fun W (c : Grow w W) => all_any pv (some ⟨g, 0, none⟩) n ws W (H.out.grow c)
        clear ho hsum hc1 hc2 hle hle2 hx hyx hlow hbit
        go_wp2_with fail
        refine wp_region_grow (by kernel_rfl) (by kernel_rfl) ?_
        repeat (
          with_reducible refine wpQuiet_step ?_
          intro K hK
          first
            | ((with_reducible refine quiet_offT rfl ?_ (hK _ ?_)); focus (refine ⟨_, rfl, ?_⟩; with_reducible rfl))
            | ((with_reducible refine quiet_offF rfl ?_ (hK _ ?_)); focus (refine ⟨_, rfl, ?_⟩; with_reducible rfl))
            | ((with_reducible refine quiet_offN rfl ?_ (hK _ ?_)); focus (exact rfl))
            | ((first | with_reducible refine quiet_free rfl ?_ | ((with_reducible refine quiet_on rfl ?_ ?_); focus (refine ⟨_, rfl, ?_⟩; with_reducible rfl)))
               apply Exists.intro
               refine ⟨fun Wq hW => ?_, hK _ ?_⟩
               focus (have q0 := Grow.cell hW hc; go_simp; first | done | with_reducible rfl | (go_at_call 33; (first | with_reducible exact grown_call hW (HA.out _ hW) | with_reducible exact grown_same hW (HA.out _ hW))) | (go_at_call 34; (first | with_reducible exact grown_call hW (HB.out _) | with_reducible exact grown_same hW (HB.out _))) | (go_at_call 38; (first | with_reducible exact grown_call hW (HO.out _) | with_reducible exact grown_same hW (HO.out _)))))
          clear hK K
          simp only [Act.put, List.setIfInBounds_toArray, List.set_cons_zero, List.set_cons_succ])
        with_reducible refine wpQuiet_nil ?_
        intro w' c
        go_wp2
        go_ret
        exact ⟨ret_int (by rw [HI.out, HS.out]; exact (Int.natCast_add _ _).symm), c⟩

set_option maxHeartbeats 1000000 in
theorem below_out (i : Int) (h : Mv w pv A n ws) (h0 : 0 < n) (hi : n < i) : Calls Tryd.prog 35 #[pv, .int .i64 i] w fun e w' => e = .returned (.int .i64 (cnt (hs ws) n)) ∧ Grow w w' := by
  have hi0 : (0 : Int) ≤ i := by omega
  obtain ⟨q, r, hi', hr64, hqle, hq1, hqr, hqw, hrw, hq0⟩ := below_facts h.rep (a := n) (by omega)
  obtain ⟨g, rfl, _⟩ := h.cell 0 (by have := h.rep.len; omega)
  have H := hide h
  have HI := hide hi'
  clear h hi'
  go_enter Tryd.func35, Tryd.ntmps35
  go_wp2_with fail
  refine (len_any _ _ n ws _ H.out).mono ?_
  rintro e w' ⟨rfl, rfl⟩
  go_wp2_with fail
  refine (all_any _ _ n ws _ H.out).mono ?_
  rintro e w' ⟨rfl, rfl⟩
  go_wp2
  go_loopw [24, 7] (fun i s wr => ∃ k : Nat, k ≤ q ∧ i = .int .i64 k ∧ s = .int .i64 (cnt (hs ws) (64 * k) : Nat) ∧ w = wr) (fun i _ _ => q - (intOf i).toNat)
  case atStart => exact ⟨0, Nat.zero_le _, rfl, rfl, rfl⟩
  case round =>
    obtain ⟨k, hk, rfl, rfl, rfl⟩ := hrel
    by_cases hlt : k < q
    · obtain ⟨g', e', hc⟩ := H.out.cell k (by omega)
      cases e'
      have hx := H.out.rep.word k
      have hsum := cnt_word ws k 64 (Nat.le_refl _)
      have hle := cnt_le (hs ws) (64 * k)
      have hle2 := cnt_le (ws.getD k 0).testBit 64
      have hk64 : k ≤ 64 := by have := H.out.lenle; omega
      generalize ws.getD k 0 = x at *
      obtain ⟨c1, hc1⟩ : ∃ c, c = cnt (hs ws) (64 * k) := ⟨_, rfl⟩
      obtain ⟨c2, hc2⟩ : ∃ c, c = cnt x.testBit 64 := ⟨_, rfl⟩
      rw [← hc1, ← hc2] at hsum
      rw [← hc1] at hle ⊢
      rw [← hc2] at hle2
      have ho := ones_any x hx w
      rw [← hc2] at ho
      have HO := hide ho
      have HS := hide hsum
      have hw : IntKind.i64.wrap ((c1 : Int) + (c2 : Int)) = ((c1 + c2 : Nat) : Int) := by rw [wrap_i64_id _ (by omega)]; omega
      clear ho hsum hc1 hc2 hle hle2 hx
      go_wp2_with fail
      refine HO.out.mono ?_
      rintro e w' ⟨rfl, rfl⟩
      go_wp2
      go_roundw
      case rel => exact ⟨k + 1, by omega, by go_num, sum_cast (by rw [show 64 * (k + 1) = 64 * k + 64 by omega, HS.out]), by first | rfl | trivial⟩
      case measure => simp [intOf]; omega
    · obtain rfl : k = q := by omega
      by_cases hr0 : r = 0
      · subst hr0
        have hr1 : decide ((0 : Int) < ((0 : Nat) : Int)) = false := by decide
        go_wp2
        go_ret
        exact ⟨ret_int (by rw [HI.out]; rfl), Chg.refl _ _⟩
      · have hr1 : (0 : Int) < (r : Int) := by omega
        have hql : k < ws.length := hqr (by omega)
        have hq1 : (k : Int) < (ws.length : Int) := by omega
        obtain ⟨g', e', hc⟩ := H.out.cell k hql
        cases e'
        have hx := H.out.rep.word k
        have hsum := cnt_word ws k r (by omega)
        have hlow := cnt_low (ws.getD k 0) r (by omega)
        have hle := cnt_le (hs ws) (64 * k)
        have hle2 := cnt_le (ws.getD k 0).testBit r
        have hk64 : k ≤ 64 := by have := H.out.lenle; omega
        have hand : ∃ y : Nat, y < 18446744073709551616 ∧ bits .and .u64 ((ws.getD k 0 : Nat) : Int) ((2 ^ r - 1 : Nat) : Int) = (y : Int) ∧ y = ws.getD k 0 % 2 ^ r := by
          have hp := pow64 r hr64
          refine ⟨_, ?_, (bits_and_u64_nat _ _ hx (by omega)).trans rfl, Nat.and_two_pow_sub_one_eq_mod _ _⟩
          exact Nat.lt_of_le_of_lt Nat.and_le_left hx
        obtain ⟨y, hy, hyb, hyx⟩ := hand
        rw [← hyx] at hlow
        have hp := pow64 r hr64
        have hp1 : 0 < 2 ^ r := Nat.two_pow_pos r
        have hbw : IntKind.u64.wrap (((2 ^ r : Nat) : Int) - 1) = ((2 ^ r - 1 : Nat) : Int) := by rw [wrap_u64_id _ (by omega) (by omega)]; omega
        have hbit : ∀ W : World, Calls Tryd.prog 34 #[.int .i64 r] W fun e w' => e = .returned (.int .u64 ((2 ^ r : Nat) : Int)) ∧ W = w' := fun W => by
          have := bit_any r (by omega) W
          rwa [Nat.mod_eq_of_lt hr64] at this
        clear hp hp1
        generalize ws.getD k 0 = x at *
        generalize 2 ^ r - 1 = b1 at *
        generalize 2 ^ r = b at *
        rw [← hlow] at hle2 hsum
        obtain ⟨c1, hc1⟩ : ∃ c, c = cnt (hs ws) (64 * k) := ⟨_, rfl⟩
        obtain ⟨c2, hc2⟩ : ∃ c, c = cnt y.testBit 64 := ⟨_, rfl⟩
        rw [← hc1, ← hc2] at hsum
        rw [← hc1] at hle ⊢
        rw [← hc2] at hle2
        have ho := fun W => ones_any y hy W
        rw [← hc2] at ho
        have HO := hide ho
        have HS := hide hsum
        have hw : IntKind.i64.wrap ((c1 : Int) + (c2 : Int)) = ((c1 + c2 : Nat) : Int) := by rw [wrap_i64_id _ (by omega)]; omega
        have HB := hide hbit
        have HA := hide fun W (c : Grow w W) => all_any pv (some ⟨g, 0, none⟩) n ws W (H.out.grow c)
        clear ho hsum hc1 hc2 hle hle2 hx hyx hlow hbit
        go_wp2_with fail
        refine wp_region_grow (by kernel_rfl) (by kernel_rfl) ?_
        repeat (
          with_reducible refine wpQuiet_step ?_
          intro K hK
          first
            | ((with_reducible refine quiet_offT rfl ?_ (hK _ ?_)); focus (refine ⟨_, rfl, ?_⟩; with_reducible rfl))
            | ((with_reducible refine quiet_offF rfl ?_ (hK _ ?_)); focus (refine ⟨_, rfl, ?_⟩; with_reducible rfl))
            | ((with_reducible refine quiet_offN rfl ?_ (hK _ ?_)); focus (exact rfl))
            | ((first | with_reducible refine quiet_free rfl ?_ | ((with_reducible refine quiet_on rfl ?_ ?_); focus (refine ⟨_, rfl, ?_⟩; with_reducible rfl)))
               apply Exists.intro
               refine ⟨fun Wq hW => ?_, hK _ ?_⟩
               focus (have q0 := Grow.cell hW hc; go_simp; first | done | with_reducible rfl | (go_at_call 33; (first | with_reducible exact grown_call hW (HA.out _ hW) | with_reducible exact grown_same hW (HA.out _ hW))) | (go_at_call 34; (first | with_reducible exact grown_call hW (HB.out _) | with_reducible exact grown_same hW (HB.out _))) | (go_at_call 38; (first | with_reducible exact grown_call hW (HO.out _) | with_reducible exact grown_same hW (HO.out _)))))
          clear hK K
          simp only [Act.put, List.setIfInBounds_toArray, List.set_cons_zero, List.set_cons_succ])
        with_reducible refine wpQuiet_nil ?_
        intro w' c
        go_wp2
        go_ret
        exact ⟨ret_int (by rw [HI.out, HS.out]; exact (Int.natCast_add _ _).symm), c⟩

theorem below_any (i : Int) (h : Mv w pv A n ws) : Calls Tryd.prog 35 #[pv, .int .i64 i] w fun e w' => e = .returned (.int .i64 (cnt (hs ws) (cl n i))) ∧ Grow w w' := by
  by_cases h0 : i ≤ 0 ∨ n = 0
  · exact below_zero pv A n ws w i h h0
  · by_cases h1 : n < i
    · rw [show cl n i = n by unfold cl; omega]
      exact below_out pv A n ws w i h (by omega) h1
    · obtain ⟨a, rfl⟩ := Int.eq_ofNat_of_zero_le (show 0 ≤ i by omega)
      rw [show cl n (a : Int) = a by unfold cl; omega]
      by_cases h2 : a = n
      · subst h2
        exact below_all pv A a ws w h (by omega)
      · exact below_in pv A n ws w a h (by omega) (by omega)

theorem count_any (h : Mv w pv A n ws) : Calls Tryd.prog 19 #[pv] w fun e w' => e = .returned (.int .i64 (cnt (hs ws) n)) ∧ Grow w w' := by
  have hb := below_any pv A n ws w n h
  rw [show cl n (n : Int) = n by unfold cl; omega] at hb
  have HB := hide hb
  have H := hide h
  clear h hb
  go_enter Tryd.func19, Tryd.ntmps19
  go_wp2_with fail
  refine (len_any _ _ n ws _ H.out).mono ?_
  rintro e w' ⟨rfl, rfl⟩
  go_wp2_with fail
  refine HB.out.mono ?_
  rintro e w' ⟨rfl, c⟩
  go_wp2
  go_ret
  exact ⟨rfl, c⟩

/-- The answer of Between. -/
def btw (S : Nat → Bool) (n : Nat) (a b : Int) : Nat := cnt S (cl n b) - cnt S (cl n a)

end
end Go.Proofs.YtaddomgjjemglaaDoor.L3

/- What each call of package bits that only reads answers, of a map whose words are known (a nil one among them). Conditions: the numbers given fit their kinds; a map has at most 4096 places. -/
import Derived.Test.YtbigdgabjjpffaaDoorL3Leaf
import Derived.StillTailTactics
import Derived.ScopeJumps
import Derived.Laws.ShiftsVarLaws
namespace Go.Proofs.YtbigdgabjjpffaaDoor.L3
open Go.ChangeShapes Go.WideShapes Go.ChangeAt Go.RowKit
set_option linter.unusedVariables false

abbrev ptr (p : Nat) : Value := .pointer (some ⟨p, 0, none⟩)
/-- The words as cells. -/
def u64s (ws : List Nat) : List Value := ws.map fun x => .int .u64 (x : Nat)
theorem u64s_length (ws : List Nat) : (u64s ws).length = ws.length := by simp [u64s]
theorem u64s_get (ws : List Nat) (k : Nat) (h : k < ws.length) : (u64s ws)[k]? = some (.int .u64 (ws.getD k 0 : Nat)) := by
  simp [u64s, h]
theorem u64s_set (ws : List Nat) (k x : Nat) : (u64s ws).set k (.int .u64 (x : Nat)) = u64s (ws.set k x) := by simp [u64s, List.map_set]

/-- Is a place set? -/
def hs (ws : List Nat) (i : Nat) : Bool := (ws.getD (i / 64) 0).testBit (i % 64)
/-- So many words for n places, none set beyond them. -/
structure Rep (n : Nat) (ws : List Nat) : Prop where
  most : n ≤ 4096
  len : ws.length = (n + 63) / 64
  word : ∀ k, ws.getD k 0 < 18446744073709551616
  tail : ∀ i, hs ws i = true → i < n

/-- The value pv leads to a map of n places with these words, which lie in a row at A; nil leads to none. -/
structure Mv (w : World) (pv : Value) (A : Option Addr) (n : Nat) (ws : List Nat) : Prop where
  rep : Rep n ws
  head : (pv = .pointer none ∧ A = none ∧ n = 0 ∧ ws = []) ∨ ∃ b, pv = ptr b ∧ w.cell? ⟨b, 0, none⟩ = some (.int .i64 n) ∧ w.cell? ⟨b, 1, none⟩ = some (.slice A ws.length ws.length)
  cell : ∀ k, k < ws.length → ∃ g, A = some ⟨g, 0, none⟩ ∧ w.cell? ⟨g, k, none⟩ = some (.int .u64 (ws.getD k 0 : Nat))
theorem Mv.grow {w w' : World} {pv : Value} {A : Option Addr} {n : Nat} {ws : List Nat} (h : Mv w pv A n ws) (c : Grow w w') : Mv w' pv A n ws :=
  ⟨h.rep, h.head.imp id fun ⟨b, e, c0, c1⟩ => ⟨b, e, c.cell c0, c.cell c1⟩, fun k hk => by obtain ⟨g, e, hc⟩ := h.cell k hk; exact ⟨g, e, c.cell hc⟩⟩
theorem Mv.lenle {w : World} {pv : Value} {A : Option Addr} {n : Nat} {ws : List Nat} (h : Mv w pv A n ws) : ws.length ≤ 64 := by have := h.rep.most; have := h.rep.len; omega

section
variable (pv : Value) (A : Option Addr) (n : Nat) (ws : List Nat) (w : World)

theorem len_any (h : Mv w pv A n ws) : Calls Tryd.prog 36 #[pv] w fun e w' => e = .returned (.int .i64 n) ∧ w = w' := by
  rcases h.head with ⟨rfl, rfl, rfl, rfl⟩ | ⟨b, rfl, c0, c1⟩
  · clear h
    go_enter Tryd.func36, Tryd.ntmps36
    go_wp2
    go_ret
    exact ⟨rfl, rfl⟩
  · clear h
    go_enter Tryd.func36, Tryd.ntmps36
    go_wp2
    go_ret
    exact ⟨rfl, rfl⟩

theorem all_any (h : Mv w pv A n ws) : Calls Tryd.prog 33 #[pv] w fun e w' => e = .returned (.slice A ws.length ws.length) ∧ w = w' := by
  rcases h.head with ⟨rfl, rfl, rfl, rfl⟩ | ⟨b, rfl, c0, c1⟩
  · clear h
    go_enter Tryd.func33, Tryd.ntmps33
    go_wp2
    go_ret
    exact ⟨rfl, rfl⟩
  · clear h
    go_enter Tryd.func33, Tryd.ntmps33
    go_wp2
    go_ret
    exact ⟨rfl, rfl⟩

/-- Is a place there? -/
def exB (n : Nat) (i : Int) : Bool := decide (0 ≤ i ∧ i < n)
theorem exB_nat {n : Nat} {i : Int} (h : exB n i = true) : ∃ a : Nat, i = a ∧ a < n := by
  simp [exB] at h
  obtain ⟨a, rfl⟩ := Int.eq_ofNat_of_zero_le h.1
  exact ⟨a, rfl, by omega⟩

theorem exists_any (i : Int) (h : Mv w pv A n ws) : Calls Tryd.prog 32 #[pv, .int .i64 i] w fun e w' => e = .returned (.bool (exB n i)) ∧ w = w' := by
  have H := hide h
  clear h
  by_cases ha : 0 ≤ i
  · go_enter Tryd.func32, Tryd.ntmps32
    go_wp2_with fail
    refine (len_any _ A n ws _ H.out).mono ?_
    rintro e w' ⟨rfl, rfl⟩
    go_wp2
    go_ret
    exact ⟨ret_bool (by simp [exB, ha]), rfl⟩
  · have e : exB n i = false := by simp [exB]; omega
    have E := hide e
    clear e
    have ha' : decide (0 ≤ i) = false := by simpa using ha
    go_enter Tryd.func32, Tryd.ntmps32
    go_wp2
    go_ret
    exact ⟨ret_bool E.out.symm, rfl⟩

/-- The answer of Has. -/
def hasB (n : Nat) (ws : List Nat) (i : Int) : Bool := exB n i && hs ws i.toNat

theorem has_no (i : Int) (h : Mv w pv A n ws) (hx : exB n i = false) : Calls Tryd.prog 27 #[pv, .int .i64 i] w fun e w' => e = .returned (.bool false) ∧ Grow w w' := by
  have H := hide fun W (c : Grow w W) => exists_any pv A n ws W i (h.grow c)
  rw [hx] at H
  clear h hx
  go_enter Tryd.func27, Tryd.ntmps27
  go_wp2_with fail
  refine wp_region_grow (by kernel_rfl) (by kernel_rfl) ?_
  repeat (
    with_reducible refine wpQuiet_step ?_
    intro K hK
    first
      | ((with_reducible refine quiet_offT rfl ?_ (hK _ ?_)); focus (refine ⟨_, rfl, ?_⟩; with_reducible rfl))
      | ((with_reducible refine quiet_offF rfl ?_ (hK _ ?_)); focus (refine ⟨_, rfl, ?_⟩; with_reducible rfl))
      | ((with_reducible refine quiet_offN rfl ?_ (hK _ ?_)); focus (exact rfl))
      | ((first | with_reducible refine quiet_free rfl ?_ | ((with_reducible refine quiet_on rfl ?_ ?_); focus (refine ⟨_, rfl, ?_⟩; with_reducible rfl)))
         apply Exists.intro
         refine ⟨fun Wq hW => ?_, hK _ ?_⟩
         focus (go_simp; first | done | with_reducible rfl | (go_at_call 32; (first | with_reducible exact grown_call hW (H.out _ hW) | with_reducible exact grown_same hW (H.out _ hW)))))
    clear hK K
    simp only [Act.put, List.setIfInBounds_toArray, List.set_cons_zero, List.set_cons_succ])
  with_reducible refine wpQuiet_nil ?_
  intro w' c
  go_wp2
  go_ret
  exact ⟨rfl, c⟩

/-- A place's word: what the walk writes for it. -/
theorem word_of {n k : Nat} {ws : List Nat} (h : Rep n ws) (hk : k < n) : ∃ q : Nat, k / 64 = q ∧ q < ws.length ∧ IntKind.i64.wrap ((k : Int) / 64) = (q : Int) ∧ (0 : Int) ≤ (q : Int) ∧ (q : Int) < (ws.length : Int) := by
  have hm := h.most
  have hl := h.len
  exact ⟨k / 64, rfl, by omega, by rw [wrap_i64_id _ (by omega)]; omega, by omega, by omega⟩
theorem and_bit (x j : Nat) (hx : x < 18446744073709551616) (hj : j < 64) : ∃ y : Nat, bits .and .u64 ((x : Nat) : Int) ((2 ^ j : Nat) : Int) = y ∧ ((y : Int) != 0) = x.testBit j := by
  refine ⟨_, bits_and_u64_nat _ _ hx (pow64 _ hj), ?_⟩
  have hb : (x &&& 2 ^ j).testBit j = x.testBit j := by simp [Nat.testBit_and]
  cases h : x.testBit j with
  | true =>
    rw [h] at hb
    have : x &&& 2 ^ j ≠ 0 := by intro e; rw [e] at hb; simp at hb
    simp; omega
  | false =>
    have : x &&& 2 ^ j = 0 := by
      apply Nat.eq_of_testBit_eq
      intro i
      rw [Nat.testBit_and, Nat.testBit_two_pow]
      by_cases e : j = i
      · subst e; simp [h]
      · simp [e]
    rw [this]; rfl

theorem has_at (k : Nat) (h : Mv w pv A n ws) (hk : k < n) : Calls Tryd.prog 27 #[pv, .int .i64 k] w fun e w' => e = .returned (.bool (hs ws k)) ∧ Grow w w' := by
  have hm := h.rep.most
  have hx : exB n k = true := by simp [exB]; omega
  obtain ⟨q, hq, hql, hqw, hq0, hq1⟩ := word_of h.rep hk
  obtain ⟨g, rfl, hc⟩ := h.cell q hql
  have H := hide fun W (c : Grow w W) => exists_any pv (some ⟨g, 0, none⟩) n ws W k (h.grow c)
  have H2 := hide fun W (c : Grow w W) => all_any pv (some ⟨g, 0, none⟩) n ws W (h.grow c)
  have H3 := hide fun W => bit_any k (by omega) W
  obtain ⟨y, hy, hy2⟩ := and_bit (ws.getD q 0) (k % 64) (h.rep.word _) (by omega)
  have HE := hide (show ((y : Int) != 0) = hs ws k by rw [hy2, ← hq]; rfl)
  rw [hx] at H
  clear h hx hy2 hq
  generalize ws.getD q 0 = x at *
  generalize 2 ^ (k % 64) = b at *
  go_enter Tryd.func27, Tryd.ntmps27
  go_wp2_with fail
  refine wp_region_grow (by kernel_rfl) (by kernel_rfl) ?_
  repeat (
    with_reducible refine wpQuiet_step ?_
    intro K hK
    first
      | ((with_reducible refine quiet_offT rfl ?_ (hK _ ?_)); focus (refine ⟨_, rfl, ?_⟩; with_reducible rfl))
      | ((with_reducible refine quiet_offF rfl ?_ (hK _ ?_)); focus (refine ⟨_, rfl, ?_⟩; with_reducible rfl))
      | ((with_reducible refine quiet_offN rfl ?_ (hK _ ?_)); focus (exact rfl))
      | ((first | with_reducible refine quiet_free rfl ?_ | ((with_reducible refine quiet_on rfl ?_ ?_); focus (refine ⟨_, rfl, ?_⟩; with_reducible rfl)))
         apply Exists.intro
         refine ⟨fun Wq hW => ?_, hK _ ?_⟩
         focus (have q0 := Grow.cell hW hc; go_simp; first | done | with_reducible rfl | (go_at_call 32; (first | with_reducible exact grown_call hW (H.out _ hW) | with_reducible exact grown_same hW (H.out _ hW))) | (go_at_call 33; (first | with_reducible exact grown_call hW (H2.out _ hW) | with_reducible exact grown_same hW (H2.out _ hW))) | (go_at_call 34; (first | with_reducible exact grown_call hW (H3.out _) | with_reducible exact grown_same hW (H3.out _)))))
    clear hK K
    simp only [Act.put, List.setIfInBounds_toArray, List.set_cons_zero, List.set_cons_succ])
  with_reducible refine wpQuiet_nil ?_
  intro w' c
  go_wp2
  go_ret
  exact ⟨ret_bool HE.out, c⟩

theorem has_any (i : Int) (h : Mv w pv A n ws) : Calls Tryd.prog 27 #[pv, .int .i64 i] w fun e w' => e = .returned (.bool (hasB n ws i)) ∧ Grow w w' := by
  cases hx : exB n i with
  | false => exact (has_no pv A n ws w i h hx).mono fun _ _ ⟨he, hg⟩ => ⟨by rw [he]; simp [hasB, hx], hg⟩
  | true =>
    obtain ⟨k, rfl, hk⟩ := exB_nat hx
    exact (has_at pv A n ws w k h hk).mono fun _ _ ⟨he, hg⟩ => ⟨by rw [he]; simp [hasB, hx], hg⟩

/-- A number brought into 0 to n. -/
def cl (n : Nat) (i : Int) : Nat := (min (max i 0) n).toNat

theorem hs_at (ws : List Nat) (q j : Nat) (hj : j < 64) : hs ws (64 * q + j) = (ws.getD q 0).testBit j := by
  unfold hs
  rw [show (64 * q + j) / 64 = q by omega, show (64 * q + j) % 64 = j by omega]
theorem cnt_word (ws : List Nat) (q r : Nat) (hr : r ≤ 64) : cnt (hs ws) (64 * q + r) = cnt (hs ws) (64 * q) + cnt (ws.getD q 0).testBit r := by
  rw [cnt_add]
  congr 1
  exact cnt_congr fun j hj => hs_at ws q j (by omega)
theorem cnt_low (x r : Nat) (hr : r ≤ 64) : cnt (x % 2 ^ r).testBit 64 = cnt x.testBit r := by
  rw [cnt_upto hr fun i h1 h2 => by rw [Nat.testBit_mod_two_pow]; simp; omega]
  exact cnt_congr fun i hi => by rw [Nat.testBit_mod_two_pow]; simp [hi]

theorem sum_cast {a b c : Nat} (h : c = a + b) : Value.int .i64 ((a : Int) + (b : Int)) = .int .i64 ((c : Nat) : Int) := by rw [h, Int.natCast_add]
theorem below_facts {n a : Nat} {ws : List Nat} (h : Rep n ws) (ha : a ≤ n) : ∃ q r : Nat, a = 64 * q + r ∧ r < 64 ∧ q ≤ ws.length ∧ (q : Int) ≤ (ws.length : Int) ∧ (0 < r → q < ws.length) ∧ IntKind.i64.wrap ((a : Int) / 64) = (q : Int) ∧ (a : Int) % 64 = (r : Int) ∧ (0 : Int) ≤ (q : Int) := by
  have hm := h.most
  have hl := h.len
  exact ⟨a / 64, a % 64, by omega, by omega, by omega, by omega, by omega, by rw [wrap_i64_id _ (by omega)]; omega, by omega, by omega⟩

/-- The answer of Between. -/
def btw (S : Nat → Bool) (n : Nat) (a b : Int) : Nat := cnt S (cl n b) - cnt S (cl n a)

end
end Go.Proofs.YtbigdgabjjpffaaDoor.L3

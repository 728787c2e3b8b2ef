/- What the calls of package policy, and of package gleaningref11, answer: they make nothing but draws of an order. Conditions: none. -/
import Derived.Test.YthikaebibodpiaaKit
import Derived.Test.YthikaebibodpiaaGrow
import Derived.Handy
namespace Go.Proofs.Ythikaebibodpiaa.L11
open Go.ChangeShapes Go.WideShapes Go.ChangeAt Go.RowKit
set_option linter.unusedVariables false

/-- The nearest tick. -/
def tk (n : Int) : Int := if n < 0 then 0 else if 1099511627776 < n then 1099511627776 else n
def ad (a b : Int) : Int := tk (tk a + tk b)
def mu (a b : Int) : Int := tk (tk a * tk b)
def si (a b : Int) : Int := tk (tk a - tk b)
def ke (n l r f : Int) : Bool := decide (si n l ≤ mu r f)
theorem tk_in (n : Int) : 0 ≤ tk n ∧ tk n ≤ 1099511627776 := by unfold tk; split <;> (try split) <;> omega
theorem tk_id {n : Int} (h : 0 ≤ n) (h2 : n ≤ 1099511627776) : tk n = n := by unfold tk; rw [if_neg (by omega), if_neg (by omega)]
theorem tk_tk (n : Int) : tk (tk n) = tk n := tk_id (tk_in n).1 (tk_in n).2
theorem tk_mono {m n : Int} (h : m ≤ n) : tk m ≤ tk n := by unfold tk; split <;> (try split) <;> (try split) <;> (try split) <;> omega
theorem mul0 {x y : Int} (hx : 0 ≤ x) (hy : 0 ≤ y) : 0 ≤ x * y := Int.mul_nonneg hx hy
theorem mul_big {x y : Int} (hx : 0 < x) (h : 1099511627776 / x < y) : 1099511627776 < x * y := by
  rw [Int.mul_comm]; exact (Int.ediv_lt_iff_lt_mul hx).1 h
theorem mul_fits {x y n : Int} (hx : 0 < x) (h : y ≤ n / x) : x * y ≤ n := by
  rw [Int.mul_comm]; exact (Int.le_ediv_iff_mul_le hx).1 h
/-- Does a product of two ticks fit? -/
def fi (x y n : Int) : Bool := decide (x * y ≤ n)
theorem fi_tk (x y : Int) (hx : 0 ≤ x) (hy : 0 ≤ y) : tk (x * y) = if fi x y 1099511627776 then x * y else 1099511627776 := by
  have := mul0 hx hy
  unfold fi tk
  rw [if_neg (by omega)]
  by_cases h : 1099511627776 < x * y
  · rw [if_pos h, if_neg (by simpa using h)]
  · rw [if_neg h, if_pos (by simpa using h)]

section
theorem tick_any (n : Int) (w : World) : Calls Try.prog 32 #[.int .i64 n] w fun e w' => e = .returned (.int .i64 (tk n)) ∧ w = w' := by
  obtain ⟨m, hm⟩ : ∃ m : Int, (if n < 0 then 0 else n) = m := ⟨_, rfl⟩
  obtain ⟨t, ht⟩ : ∃ t, tk n = t := ⟨_, rfl⟩
  have hmx : ∀ ts t W, (Builtin.max_ ts t #[.int .i64 n, .int .i64 0]).run Try.prog W = .ok (.int .i64 m) W := fun ts t W => by
    rw [run_max_int2]; congr 2
  have hmn : ∀ ts ty W, (Builtin.min_ ts ty #[.int .i64 m, .int .i64 1099511627776]).run Try.prog W = .ok (.int .i64 t) W := fun ts ty W => by
    rw [run_min_int2]; congr 2; rw [← ht, ← hm]; unfold tk; (repeat' split) <;> omega
  rw [ht]
  clear hm ht
  go_enter Try.func32, Try.ntmps32
  go_wp2
  go_ret
  exact ⟨rfl, rfl⟩
theorem held_any (n : Int) (w : World) : Calls Try.prog 22 #[.int .i64 n] w fun e w' => e = .returned (.int .i64 (tk n)) ∧ w = w' := by
  obtain ⟨m, hm⟩ : ∃ m : Int, (if 1099511627776 < n then 1099511627776 else n) = m := ⟨_, rfl⟩
  obtain ⟨t, ht⟩ : ∃ t, tk n = t := ⟨_, rfl⟩
  have hmx : ∀ ts t W, (Builtin.min_ ts t #[.int .i64 n, .int .i64 1099511627776]).run Try.prog W = .ok (.int .i64 m) W := fun ts t W => by
    rw [run_min_int2]; congr 2
  have hmn : ∀ ts ty W, (Builtin.max_ ts ty #[.int .i64 0, .int .i64 m]).run Try.prog W = .ok (.int .i64 t) W := fun ts ty W => by
    rw [run_max_int2]; congr 2; rw [← ht, ← hm]; unfold tk; (repeat' split) <;> omega
  rw [ht]
  clear hm ht
  go_enter Try.func22, Try.ntmps22
  go_wp2
  go_ret
  exact ⟨rfl, rfl⟩
theorem add_any (a b : Int) (w : World) : Calls Try.prog 13 #[.int .i64 a, .int .i64 b] w fun e w' => e = .returned (.int .i64 (ad a b)) ∧ w = w' := by
  obtain ⟨x, hx⟩ : ∃ x, tk a = x := ⟨_, rfl⟩
  obtain ⟨y, hy⟩ : ∃ y, tk b = y := ⟨_, rfl⟩
  have h1 := tk_in a
  have h2 := tk_in b
  have H1 := hide fun W => tick_any a W
  have H2 := hide fun W => tick_any b W
  rw [hx] at H1 h1
  rw [hy] at H2 h2
  have H3 := hide fun W => tick_any (x + y) W
  have hw : IntKind.i64.wrap (x + y) = x + y := IntWalk.i64_in _ (by omega)
  obtain ⟨z, hz⟩ : ∃ z, tk (x + y) = z := ⟨_, rfl⟩
  rw [hz] at H3
  rw [show ad a b = z by unfold ad; rw [hx, hy, hz]]
  clear hx hy h1 h2 hz
  go_enter Try.func13, Try.ntmps13
  go_wp2_with (go_at_call 32; (first | with_reducible refine (H1.out _).mono ?_ | with_reducible refine (H2.out _).mono ?_ | with_reducible refine (H3.out _).mono ?_); rintro e w' ⟨rfl, rfl⟩)
  go_ret
  exact ⟨rfl, rfl⟩
theorem radd_any (a b : Int) (w : World) : Calls Try.prog 14 #[.int .i64 a, .int .i64 b] w fun e w' => e = .returned (.int .i64 (ad a b)) ∧ w = w' := by
  obtain ⟨x, hx⟩ : ∃ x, tk a = x := ⟨_, rfl⟩
  obtain ⟨y, hy⟩ : ∃ y, tk b = y := ⟨_, rfl⟩
  have h1 := tk_in a
  have h2 := tk_in b
  have H1 := hide fun W => held_any a W
  have H2 := hide fun W => held_any b W
  rw [hx] at H1 h1
  rw [hy] at H2 h2
  have hw : IntKind.i64.wrap (x + y) = x + y := IntWalk.i64_in _ (by omega)
  obtain ⟨z, hz⟩ : ∃ z, tk (x + y) = z := ⟨_, rfl⟩
  have hmn : ∀ ts ty W, (Builtin.min_ ts ty #[.int .i64 1099511627776, .int .i64 (x + y)]).run Try.prog W = .ok (.int .i64 z) W := fun ts ty W => by
    rw [run_min_int2]; congr 2; rw [← hz]; unfold tk; (repeat' split) <;> omega
  rw [show ad a b = z by unfold ad; rw [hx, hy, hz]]
  clear hx hy h1 h2 hz
  go_enter Try.func14, Try.ntmps14
  go_wp2_with (go_at_call 22; (first | with_reducible refine (H1.out _).mono ?_ | with_reducible refine (H2.out _).mono ?_); rintro e w' ⟨rfl, rfl⟩)
  go_ret
  exact ⟨rfl, rfl⟩
theorem since_any (a b : Int) (w : World) : Calls Try.prog 18 #[.int .i64 a, .int .i64 b] w fun e w' => e = .returned (.int .i64 (si a b)) ∧ w = w' := by
  obtain ⟨x, hx⟩ : ∃ x, tk a = x := ⟨_, rfl⟩
  obtain ⟨y, hy⟩ : ∃ y, tk b = y := ⟨_, rfl⟩
  have h1 := tk_in a
  have h2 := tk_in b
  have H1 := hide fun W => tick_any a W
  have H2 := hide fun W => tick_any b W
  rw [hx] at H1 h1
  rw [hy] at H2 h2
  have H3 := hide fun W => tick_any (x - y) W
  have hw : IntKind.i64.wrap (x - y) = x - y := IntWalk.i64_in _ (by omega)
  obtain ⟨z, hz⟩ : ∃ z, tk (x - y) = z := ⟨_, rfl⟩
  rw [hz] at H3
  rw [show si a b = z by unfold si; rw [hx, hy, hz]]
  clear hx hy h1 h2 hz
  go_enter Try.func18, Try.ntmps18
  go_wp2_with (go_at_call 32; (first | with_reducible refine (H1.out _).mono ?_ | with_reducible refine (H2.out _).mono ?_ | with_reducible refine (H3.out _).mono ?_); rintro e w' ⟨rfl, rfl⟩)
  go_ret
  exact ⟨rfl, rfl⟩
theorem rsince_any (a b : Int) (w : World) : Calls Try.prog 19 #[.int .i64 a, .int .i64 b] w fun e w' => e = .returned (.int .i64 (si a b)) ∧ w = w' := by
  obtain ⟨x, hx⟩ : ∃ x, tk a = x := ⟨_, rfl⟩
  obtain ⟨y, hy⟩ : ∃ y, tk b = y := ⟨_, rfl⟩
  have h1 := tk_in a
  have h2 := tk_in b
  have H1 := hide fun W => held_any a W
  have H2 := hide fun W => held_any b W
  rw [hx] at H1 h1
  rw [hy] at H2 h2
  have hw : IntKind.i64.wrap (x - y) = x - y := IntWalk.i64_in _ (by omega)
  obtain ⟨z, hz⟩ : ∃ z, tk (x - y) = z := ⟨_, rfl⟩
  have hmn : ∀ ts ty W, (Builtin.max_ ts ty #[.int .i64 0, .int .i64 (x - y)]).run Try.prog W = .ok (.int .i64 z) W := fun ts ty W => by
    rw [run_max_int2]; congr 2; rw [← hz]; unfold tk; (repeat' split) <;> omega
  rw [show si a b = z by unfold si; rw [hx, hy, hz]]
  clear hx hy h1 h2 hz
  go_enter Try.func19, Try.ntmps19
  go_wp2_with (go_at_call 22; (first | with_reducible refine (H1.out _).mono ?_ | with_reducible refine (H2.out _).mono ?_); rintro e w' ⟨rfl, rfl⟩)
  go_ret
  exact ⟨rfl, rfl⟩
/-- A quotient of ticks. -/
theorem quo_in {n x : Int} (hn : 0 ≤ n) (h2 : n ≤ 1099511627776) (hx : 0 < x) : IntKind.i64.wrap (n / x) = n / x := by
  have h0 := Int.ediv_nonneg hn (Int.le_of_lt hx)
  have h1 := Int.ediv_le_self x hn
  exact IntWalk.i64_in _ (by omega)
theorem tdiv_of {n x : Int} (hn : 0 ≤ n) : n.tdiv x = n / x := Int.tdiv_eq_ediv_of_nonneg hn
theorem mul_any (a b : Int) (w : World) : Calls Try.prog 15 #[.int .i64 a, .int .i64 b] w fun e w' => e = .returned (.int .i64 (mu a b)) ∧ w = w' := by
  obtain ⟨x, hx⟩ : ∃ x, tk a = x := ⟨_, rfl⟩
  obtain ⟨y, hy⟩ : ∃ y, tk b = y := ⟨_, rfl⟩
  have h1 := tk_in a
  have h2 := tk_in b
  have H1 := hide fun W => tick_any a W
  have H2 := hide fun W => tick_any b W
  rw [hx] at H1 h1
  rw [hy] at H2 h2
  by_cases hx0 : 0 < x
  · have hq := quo_in (n := 1099511627776) (by omega) (by omega) hx0
    by_cases hf : 1099511627776 / x < y
    · rw [show mu a b = 1099511627776 by unfold mu; rw [hx, hy]; have := mul_big hx0 hf; unfold tk; rw [if_neg (by omega), if_pos this]]
      obtain ⟨d, hd⟩ : ∃ d, 1099511627776 / x = d := ⟨_, rfl⟩
      have hne : (x == 0) = false := by simp; omega
      have hz : ¬ x = 0 := by omega
      rw [hd] at hq hf
      have hg1 : decide (0 < x) = true := decide_eq_true hx0
      have hg2 : decide (d < y) = true := decide_eq_true hf
      have ht : (1099511627776 : Int).tdiv x = d := by rw [tdiv_of (by omega), hd]
      clear hx hy h1 h2
      go_enter Try.func15, Try.ntmps15
      go_wp2_with (go_at_call 32; (first | with_reducible refine (H1.out _).mono ?_ | with_reducible refine (H2.out _).mono ?_); rintro e w' ⟨rfl, rfl⟩)
      go_ret
      exact ⟨rfl, rfl⟩
    · have hle : x * y ≤ 1099511627776 := mul_fits hx0 (by omega)
      have h0 := mul0 h1.1 h2.1
      rw [show mu a b = x * y by unfold mu; rw [hx, hy, tk_id h0 hle]]
      have HW := hide (wrap64_id (x * y) (by omega))
      obtain ⟨d, hd⟩ : ∃ d, 1099511627776 / x = d := ⟨_, rfl⟩
      have hne : (x == 0) = false := by simp; omega
      have hz : ¬ x = 0 := by omega
      rw [hd] at hq hf
      have hg1 : decide (0 < x) = true := decide_eq_true hx0
      have hg2 : decide (d < y) = false := decide_eq_false hf
      have ht : (1099511627776 : Int).tdiv x = d := by rw [tdiv_of (by omega), hd]
      clear hx hy h1 h2 hle h0
      go_enter Try.func15, Try.ntmps15
      go_wp2_with (go_at_call 32; (first | with_reducible refine (H1.out _).mono ?_ | with_reducible refine (H2.out _).mono ?_); rintro e w' ⟨rfl, rfl⟩)
      go_ret
      exact ⟨(ret_int HW.out), rfl⟩
  · obtain rfl : x = 0 := by omega
    rw [show mu a b = 0 by unfold mu; rw [hx, Int.zero_mul]; rfl]
    clear hx hy h1 h2 hx0
    go_enter Try.func15, Try.ntmps15
    go_wp2_with (go_at_call 32; (first | with_reducible refine (H1.out _).mono ?_ | with_reducible refine (H2.out _).mono ?_); rintro e w' ⟨rfl, rfl⟩)
    go_ret
    exact ⟨rfl, rfl⟩
theorem most_any (a b : Int) (w : World) : Calls Try.prog 17 #[.int .i64 a, .int .i64 b] w fun e w' => e = .returned (.int .i64 (mu a b)) ∧ w = w' := by
  go_enter Try.func17, Try.ntmps17
  go_wp2_with (go_at_call 15; refine (mul_any _ _ _).mono ?_; rintro e w' ⟨rfl, rfl⟩)
  go_ret
  exact ⟨rfl, rfl⟩
theorem keeps_any (n l r f : Int) (w : World) : Calls Try.prog 20 #[.int .i64 n, .int .i64 l, .int .i64 r, .int .i64 f] w fun e w' => e = .returned (.bool (ke n l r f)) ∧ w = w' := by
  have H1 := hide fun W => since_any n l W
  have H2 := hide fun W => most_any r f W
  unfold ke
  generalize si n l = x at *
  generalize mu r f = y at *
  go_enter Try.func20, Try.ntmps20
  go_wp2_with (first | (go_at_call 18; refine (H1.out _).mono ?_; rintro e w' ⟨rfl, rfl⟩) | (go_at_call 17; refine (H2.out _).mono ?_; rintro e w' ⟨rfl, rfl⟩))
  go_ret
  exact ⟨rfl, rfl⟩
theorem fits_any (x y n : Int) (hx : 0 ≤ x) (hy : 0 ≤ y) (hn : 0 ≤ n) (hn2 : n ≤ 1099511627776) (w : World) : Calls Try.prog 33 #[.int .i64 x, .int .i64 y, .int .i64 n] w fun e w' => e = .returned (.bool (fi x y n)) ∧ w = w' := by
  by_cases h1 : x = 0
  · subst h1
    rw [show fi 0 y n = true by unfold fi; rw [Int.zero_mul]; simpa using hn]
    clear hx hy hn hn2
    go_enter Try.func33, Try.ntmps33
    go_wp2
    go_ret
    exact ⟨rfl, rfl⟩
  · have e1 : (x == 0) = false := by simpa using h1
    by_cases h2 : y = 0
    · subst h2
      rw [show fi x 0 n = true by unfold fi; rw [Int.mul_zero]; simpa using hn]
      clear hx hy hn hn2
      go_enter Try.func33, Try.ntmps33
      go_wp2
      go_ret
      exact ⟨rfl, rfl⟩
    · have e2 : (y == 0) = false := by simpa using h2
      have hx0 : 0 < x := by omega
      have hq := quo_in hn hn2 hx0
      obtain ⟨d, hd⟩ : ∃ d, n / x = d := ⟨_, rfl⟩
      have ht : n.tdiv x = d := by rw [tdiv_of hn, hd]
      have he : fi x y n = decide (y ≤ d) := by
        unfold fi
        rw [← hd]
        apply decide_eq_decide.2
        rw [Int.mul_comm]
        exact (Int.le_ediv_iff_mul_le hx0).symm
      rw [he]
      rw [hd] at hq
      clear he hx hy hn2
      go_enter Try.func33, Try.ntmps33
      go_wp2
      go_ret
      exact ⟨rfl, rfl⟩
theorem rmul_any (a b : Int) (w : World) : Calls Try.prog 16 #[.int .i64 a, .int .i64 b] w fun e w' => e = .returned (.int .i64 (mu a b)) ∧ w = w' := by
  obtain ⟨x, hx⟩ : ∃ x, tk a = x := ⟨_, rfl⟩
  obtain ⟨y, hy⟩ : ∃ y, tk b = y := ⟨_, rfl⟩
  have h1 := tk_in a
  have h2 := tk_in b
  have H1 := hide fun W => held_any a W
  have H2 := hide fun W => held_any b W
  rw [hx] at H1 h1
  rw [hy] at H2 h2
  have H3 := hide fun W => fits_any x y 1099511627776 h1.1 h2.1 (by omega) (by omega) W
  have hm : mu a b = if fi x y 1099511627776 then x * y else 1099511627776 := by unfold mu; rw [hx, hy, fi_tk x y h1.1 h2.1]
  rw [hm]
  have h0 := mul0 h1.1 h2.1
  have hfi : fi x y 1099511627776 = true → x * y ≤ 1099511627776 := by unfold fi; simp
  cases hb : fi x y 1099511627776 with
  | false =>
    rw [hb] at H3
    rw [if_neg (by simp)]
    clear hx hy h1 h2 hm h0 hfi hb
    go_enter Try.func16, Try.ntmps16
    go_wp2_with (first | (go_at_call 22; (first | with_reducible refine (H1.out _).mono ?_ | with_reducible refine (H2.out _).mono ?_); rintro e w' ⟨rfl, rfl⟩) | (go_at_call 33; refine (H3.out _).mono ?_; rintro e w' ⟨rfl, rfl⟩))
    go_ret
    exact ⟨rfl, rfl⟩
  | true =>
    rw [hb] at H3
    have hle := hfi hb
    rw [if_pos rfl]
    have HW := hide (wrap64_id (x * y) (by omega))
    clear hx hy h1 h2 hm h0 hfi hb hle
    go_enter Try.func16, Try.ntmps16
    go_wp2_with (first | (go_at_call 22; (first | with_reducible refine (H1.out _).mono ?_ | with_reducible refine (H2.out _).mono ?_); rintro e w' ⟨rfl, rfl⟩) | (go_at_call 33; refine (H3.out _).mono ?_; rintro e w' ⟨rfl, rfl⟩))
    go_ret
    exact ⟨ret_int HW.out, rfl⟩
theorem si_in (a b : Int) : 0 ≤ si a b ∧ si a b ≤ 1099511627776 := tk_in _
theorem mu_in (a b : Int) : 0 ≤ mu a b ∧ mu a b ≤ 1099511627776 := tk_in _
theorem ad_in (a b : Int) : 0 ≤ ad a b ∧ ad a b ≤ 1099511627776 := tk_in _
theorem ad_comm (a b : Int) : ad a b = ad b a := by unfold ad; rw [Int.add_comm]
theorem mu_comm (a b : Int) : mu a b = mu b a := by unfold mu; rw [Int.mul_comm]
theorem ad_assoc (a b c : Int) : ad (ad a b) c = ad a (ad b c) := by
  unfold ad
  rw [tk_tk, tk_tk]
  have h1 := tk_in a
  have h2 := tk_in b
  have h3 := tk_in c
  generalize tk a = x at *
  generalize tk b = y at *
  generalize tk c = z at *
  unfold tk
  (repeat' split) <;> omega
theorem ad_mono (a : Int) {b c : Int} (h : b ≤ c) : ad a b ≤ ad a c := tk_mono (by have := tk_mono h; omega)
theorem mu_mono (a : Int) {b c : Int} (h : b ≤ c) : mu a b ≤ mu a c := tk_mono (Int.mul_le_mul_of_nonneg_left (tk_mono h) (tk_in a).1)
theorem si_anti (a : Int) {b c : Int} (h : b ≤ c) : si a c ≤ si a b := tk_mono (by have := tk_mono h; omega)
theorem si_mono {a b : Int} (c : Int) (h : a ≤ b) : si a c ≤ si b c := tk_mono (by have := tk_mono h; omega)
theorem si_zero {a b : Int} (h : a ≤ b) : si a b = 0 := by
  have := tk_mono h
  unfold si
  obtain ⟨d, hd⟩ : ∃ d, tk a - tk b = d := ⟨_, rfl⟩
  rw [hd]
  unfold tk
  (repeat' split) <;> omega
theorem ke_mono {n m l r q f g : Int} (h1 : m ≤ n) (h2 : r ≤ q) (h3 : f ≤ g) (h : ke n l r f = true) : ke m l q g = true := by
  unfold ke at h ⊢
  have k1 := si_mono l h1
  have k2 := mu_mono r h3
  have k3 := mu_mono g h2
  rw [mu_comm g r, mu_comm g q] at k3
  have := of_decide_eq_true h
  exact decide_eq_true (by omega)
theorem ke_zero {n l r f : Int} (h : si n l = 0) : ke n l r f = true := by unfold ke; rw [h]; have := mu_in r f; simpa using this.1
theorem ke_pos {n l r f : Int} (h : si n l ≠ 0) : ke n l r f = !fi (tk r) (tk f) (si n l - 1) := by
  have h1 := si_in n l
  unfold ke fi mu
  generalize si n l = s at *
  have h0 := mul0 (tk_in r).1 (tk_in f).1
  generalize tk r * tk f = p at *
  unfold tk
  by_cases hs : s ≤ p
  · have : ¬ p ≤ s - 1 := by omega
    simp only [this, decide_false, Bool.not_false, decide_eq_true_eq]
    (repeat' split) <;> omega
  · have : p ≤ s - 1 := by omega
    simp only [this, decide_true, Bool.not_true, decide_eq_false_iff_not]
    (repeat' split) <;> omega
theorem rkeeps_any (n l r f : Int) (w : World) : Calls Try.prog 21 #[.int .i64 n, .int .i64 l, .int .i64 r, .int .i64 f] w fun e w' => e = .returned (.bool (ke n l r f)) ∧ w = w' := by
  have H1 := hide fun W => rsince_any n l W
  have h1 := si_in n l
  by_cases h : si n l = 0
  · rw [h] at H1
    rw [ke_zero h]
    clear h h1
    go_enter Try.func21, Try.ntmps21
    go_wp2_with (go_at_call 19; refine (H1.out _).mono ?_; rintro e w' ⟨rfl, rfl⟩)
    go_ret
    exact ⟨rfl, rfl⟩
  · rw [ke_pos h]
    have H2 := hide fun W => held_any r W
    have H3 := hide fun W => held_any f W
    have H4 := hide fun W => fits_any (tk r) (tk f) (si n l - 1) (tk_in r).1 (tk_in f).1 (by omega) (by omega) W
    generalize fi (tk r) (tk f) (si n l - 1) = b at *
    generalize tk r = x at *
    generalize tk f = y at *
    generalize si n l = s at *
    have hs : (s == 0) = false := by simpa using h
    have hw : IntKind.i64.wrap (s - 1) = s - 1 := IntWalk.i64_in _ (by omega)
    clear h h1
    go_enter Try.func21, Try.ntmps21
    go_wp2_with (first | (go_at_call 19; refine (H1.out _).mono ?_; rintro e w' ⟨rfl, rfl⟩) | (go_at_call 22; (first | with_reducible refine (H2.out _).mono ?_ | with_reducible refine (H3.out _).mono ?_); rintro e w' ⟨rfl, rfl⟩) | (go_at_call 33; refine (H4.out _).mono ?_; rintro e w' ⟨rfl, rfl⟩))
    go_ret
    exact ⟨rfl, rfl⟩
theorem awake_any (w : World) : Calls Try.prog 12 #[] w fun e w' => e = .returned (.bool true) ∧ w = w' := by
  have k1 : ke 10 3 1 7 = true := by decide +kernel
  have k2 : ke 11 3 1 7 = false := by decide +kernel
  have H1 := hide fun W => keeps_any 10 3 1 7 W
  have H2 := hide fun W => keeps_any 11 3 1 7 W
  have H3 := hide fun W => add_any 3 4 W
  have H4 := hide fun W => mul_any 3 4 W
  rw [k1] at H1
  rw [k2] at H2
  rw [show ad 3 4 = 7 by decide +kernel] at H3
  rw [show mu 3 4 = 12 by decide +kernel] at H4
  clear k1 k2
  go_enter Try.func12, Try.ntmps12
  go_wp2_with (first | (go_at_call 20; (first | with_reducible refine (H1.out _).mono ?_ | with_reducible refine (H2.out _).mono ?_); rintro e w' ⟨rfl, rfl⟩) | (go_at_call 13; refine (H3.out _).mono ?_; rintro e w' ⟨rfl, rfl⟩) | (go_at_call 15; refine (H4.out _).mono ?_; rintro e w' ⟨rfl, rfl⟩))
  go_ret
  exact ⟨rfl, rfl⟩
end
end Go.Proofs.Ythikaebibodpiaa.L11

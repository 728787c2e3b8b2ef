/- What Shape, Words and Holds of a table answer; they change nothing but make new memory. Conditions: the table's classes can be; there are at most 100. -/
import Derived.Test.YtjofdamobnemcaaL5Of
import Derived.Test.YtjofdamobnemcaaL5Ans
namespace Go.Proofs.Ytjofdamobnemcaa.L5
open Go.ChangeShapes Go.WideShapes Go.ChangeAt Go.RowKit
set_option linter.unusedVariables false

section
variable {w : World} {base : Nat} {p : Option Addr} {v : Value} {cs : List Cl} {n l : Int}
set_option maxHeartbeats 1000000 in
theorem shape_none (h : Tb w base p v cs) (hn : clAt cs n = none) :
    Calls Try.prog 31 #[.pointer p, .int .i64 n, .int .i64 l] w fun e w' => e = .returned (.tuple #[.int .i64 0, .int .i64 0, .int .i64 4]) ∧ Grow w w' := by
  have H := hide h
  have HN := hide (clAt_none hn)
  clear h hn
  go_enter Try.func31, Try.ntmps31
  go_wp2_with fail
  refine (of_out H.out HN.out).mono ?_
  rintro e w1 ⟨rfl, c1⟩
  go_wp2
  go_returns
  exact ⟨rfl, c1.alloc _⟩
set_option maxHeartbeats 1000000 in
theorem shape_arg {c : Cl} (h : Tb w base p v cs) (hl : cs.length ≤ 100) (hn : clAt cs n = some c) (ha : l < 0 ∨ (0 < l ∧ c.k ≠ 2)) :
    Calls Try.prog 31 #[.pointer p, .int .i64 n, .int .i64 l] w fun e w' => e = .returned (.tuple #[.int .i64 0, .int .i64 0, .int .i64 1]) ∧ Grow w w' := by
  by_cases h0 : l < 0
  · clear ha
    obtain ⟨k, hk, hkl, hc⟩ := clAt_some hn
    have H := hide h
    have HC := hide hc
    have HK := hide hk
    obtain ⟨K, R, D, f⟩ := c
    clear h hn hc hk
    try dsimp only at *
    go_enter Try.func31, Try.ntmps31
    go_wp2_with fail
    refine (of_in H.out hl HC.out HK.out).mono ?_
    rintro e w1 ⟨rfl, c1⟩
    go_wp2
    go_returns
    exact ⟨rfl, c1.alloc _⟩
  · have h0' : decide (l < 0) = false := by simpa using h0
    have h1 : 0 < l ∧ c.k ≠ 2 := by omega
    obtain ⟨h1, h2⟩ := h1
    have h2' : (c.k == 2) = false := by simpa using h2
    clear ha
    obtain ⟨k, hk, hkl, hc⟩ := clAt_some hn
    have H := hide h
    have HC := hide hc
    have HK := hide hk
    obtain ⟨K, R, D, f⟩ := c
    clear h hn hc hk
    try dsimp only at *
    go_enter Try.func31, Try.ntmps31
    go_wp2_with fail
    refine (of_in H.out hl HC.out HK.out).mono ?_
    rintro e w1 ⟨rfl, c1⟩
    go_wp2
    go_returns
    exact ⟨rfl, c1.alloc _⟩
set_option maxHeartbeats 1000000 in
theorem shape_large {c : Cl} (h : Tb w base p v cs) (hl : cs.length ≤ 100) (hn : clAt cs n = some c) (h2 : c.k = 2) (h3 : 30 < l) :
    Calls Try.prog 31 #[.pointer p, .int .i64 n, .int .i64 l] w fun e w' => e = .returned (.tuple #[.int .i64 0, .int .i64 0, .int .i64 8]) ∧ Grow w w' := by
  have h0' : decide (l < 0) = false := by simp; omega
  have h1 : 0 < l := by omega
  obtain ⟨k, hk, hkl, hc⟩ := clAt_some hn
  have H := hide h
  have HC := hide hc
  have HK := hide hk
  obtain ⟨K, R, D, f⟩ := c
  clear h hn hc hk
  try dsimp only at *
  go_enter Try.func31, Try.ntmps31
  go_wp2_with fail
  refine (of_in H.out hl HC.out HK.out).mono ?_
  rintro e w1 ⟨rfl, c1⟩
  subst h2
  go_wp2
  go_returns
  exact ⟨rfl, c1.alloc _⟩
set_option maxHeartbeats 1000000 in
theorem shape_ok0 {k : Nat} {K R D : Int} {f : Bool} (h : Tb w base p v cs) (hl : cs.length ≤ 100) (hc : cs[k]? = some ⟨K, R, D, f⟩) (wr : IntKind.i64.wrap R = R) :
    Calls Try.prog 31 #[.pointer p, .int .i64 (k + 1), .int .i64 0] w fun e w' => e = .returned (.tuple #[.int .i64 R, .int .i64 D, .int .i64 0]) ∧ Grow w w' := by
  have H := hide h
  have HC := hide hc
  clear h hc
  go_enter Try.func31, Try.ntmps31
  go_wp2_with fail
  refine (of_in H.out hl HC.out rfl).mono ?_
  rintro e w1 ⟨rfl, c1⟩
  have hx := Blk.new w1 54 [.int .i64 K, .int .i64 R, .int .i64 D, .bool f]
  replace c1 := c1.alloc (.cells [.int .i64 K, .int .i64 R, .int .i64 D, .bool f].toArray 54)
  obtain ⟨x0, x1, x2, x3⟩ := hx.cell4
  go_wp2_with fail
  refine wp_region_grow (by kernel_rfl) (by kernel_rfl) ?_
  repeat (
    with_reducible refine wpQuiet_step ?_
    intro K hK
    first
      | ((with_reducible refine quiet_offT rfl ?_ (hK _ ?_)); focus (refine ⟨_, rfl, ?_⟩; with_reducible rfl))
      | ((with_reducible refine quiet_offF rfl ?_ (hK _ ?_)); focus (refine ⟨_, rfl, ?_⟩; with_reducible rfl))
      | ((with_reducible refine quiet_offN rfl ?_ (hK _ ?_)); focus (exact rfl))
      | ((first | with_reducible refine quiet_free rfl ?_ | ((with_reducible refine quiet_on rfl ?_ ?_); focus (refine ⟨_, rfl, ?_⟩; with_reducible rfl)))
         apply Exists.intro
         refine ⟨fun Wq hW => ?_, hK _ ?_⟩
         focus (have q0 := Grow.cell hW x0; have q1 := Grow.cell hW x1; have q2 := Grow.cell hW x2; have q3 := Grow.cell hW x3; go_simp; first | done | with_reducible rfl))
    clear hK K
    simp only [Act.put, List.setIfInBounds_toArray, List.set_cons_zero, List.set_cons_succ])
  with_reducible refine wpQuiet_nil ?_
  intro w2 c2
  go_wp2
  go_returns
  exact ⟨rfl, c1.trans c2⟩
set_option maxHeartbeats 1000000 in
theorem shape_ok2 {k : Nat} {f : Bool} (h : Tb w base p v cs) (hl : cs.length ≤ 100) (hc : cs[k]? = some ⟨2, 0, 0, f⟩) (h0 : 0 < l) (h1 : l ≤ 30) :
    Calls Try.prog 31 #[.pointer p, .int .i64 (k + 1), .int .i64 l] w fun e w' => e = .returned (.tuple #[.int .i64 l, .int .i64 0, .int .i64 0]) ∧ Grow w w' := by
  have h0' : decide (l < 0) = false := by simp; omega
  have h1' : decide (30 < l) = false := by simp; omega
  have wr : IntKind.i64.wrap l = l := IntWalk.i64_in _ (by omega)
  have H := hide h
  have HC := hide hc
  clear h hc
  go_enter Try.func31, Try.ntmps31
  go_wp2_with fail
  refine (of_in H.out hl HC.out rfl).mono ?_
  rintro e w1 ⟨rfl, c1⟩
  have hx := Blk.new w1 54 [.int .i64 2, .int .i64 0, .int .i64 0, .bool f]
  replace c1 := c1.alloc (.cells [.int .i64 2, .int .i64 0, .int .i64 0, .bool f].toArray 54)
  obtain ⟨x0, x1, x2, x3⟩ := hx.cell4
  go_wp2_with fail
  refine wp_region_grow (by kernel_rfl) (by kernel_rfl) ?_
  repeat (
    with_reducible refine wpQuiet_step ?_
    intro K hK
    first
      | ((with_reducible refine quiet_offT rfl ?_ (hK _ ?_)); focus (refine ⟨_, rfl, ?_⟩; with_reducible rfl))
      | ((with_reducible refine quiet_offF rfl ?_ (hK _ ?_)); focus (refine ⟨_, rfl, ?_⟩; with_reducible rfl))
      | ((with_reducible refine quiet_offN rfl ?_ (hK _ ?_)); focus (exact rfl))
      | ((first | with_reducible refine quiet_free rfl ?_ | ((with_reducible refine quiet_on rfl ?_ ?_); focus (refine ⟨_, rfl, ?_⟩; with_reducible rfl)))
         apply Exists.intro
         refine ⟨fun Wq hW => ?_, hK _ ?_⟩
         focus (have q0 := Grow.cell hW x0; have q1 := Grow.cell hW x1; have q2 := Grow.cell hW x2; have q3 := Grow.cell hW x3; go_simp; first | done | with_reducible rfl))
    clear hK K
    simp only [Act.put, List.setIfInBounds_toArray, List.set_cons_zero, List.set_cons_succ])
  with_reducible refine wpQuiet_nil ?_
  intro w2 c2
  go_wp2
  go_returns
  exact ⟨rfl, c1.trans c2⟩
theorem shape_ok {c : Cl} (h : Tb w base p v cs) (hl : cs.length ≤ 100) (hn : clAt cs n = some c) (hr : rtB c.k c.r c.d c.f = true) (h0 : 0 ≤ l) (h1 : l ≤ 30) (h2 : l = 0 ∨ c.k = 2) :
    Calls Try.prog 31 #[.pointer p, .int .i64 n, .int .i64 l] w fun e w' => e = .returned (.tuple #[.int .i64 (c.r + l), .int .i64 c.d, .int .i64 0]) ∧ Grow w w' := by
  have hb := rt_bd hr
  obtain ⟨k, rfl, hkl, hc⟩ := clAt_some hn
  obtain ⟨K, R, D, f⟩ := c
  dsimp only at hb h2 ⊢
  by_cases hz : l = 0
  · subst hz
    rw [Int.add_zero]
    exact shape_ok0 h hl hc (IntWalk.i64_in _ (by omega))
  · obtain rfl : K = 2 := by omega
    obtain ⟨rfl, rfl⟩ := hb.2.2.2.2.2.1 rfl
    rw [Int.zero_add]
    exact shape_ok2 h hl hc (by omega) h1
theorem shape_any (h : Tb w base p v cs) (hl : cs.length ≤ 100) (hall : cs.all Cl.rt = true) (l : Int) (n : Int) :
    Calls Try.prog 31 #[.pointer p, .int .i64 n, .int .i64 l] w fun e w' => e = .returned (.tuple #[.int .i64 (shR (clAt cs n) l), .int .i64 (shD (clAt cs n) l), .int .i64 (shX (clAt cs n) l)]) ∧ Grow w w' := by
  cases ho : clAt cs n with
  | none => exact shape_none h ho
  | some c =>
    by_cases h1 : l < 0 ∨ (0 < l ∧ c.k ≠ 2)
    · have e : shX (some c) l = 1 := by simp only [shX]; rw [if_pos h1]
      have := shape_arg (l := l) h hl ho h1
      simpa only [shR, shD, e, show ¬ ((1 : Int) = 0) by decide, if_false] using this
    · by_cases h2 : 30 < l
      · have e : shX (some c) l = 8 := by simp only [shX]; rw [if_neg h1, if_pos h2]
        have := shape_large (l := l) h hl ho (by omega) h2
        simpa only [shR, shD, e, show ¬ ((8 : Int) = 0) by decide, if_false] using this
      · have e : shX (some c) l = 0 := by simp only [shX]; rw [if_neg h1, if_neg h2]
        have := shape_ok (l := l) h hl ho (clAt_rt hall ho) (by omega) (by omega) (by omega)
        simpa only [shR, shD, e, if_true] using this
set_option maxHeartbeats 1000000 in
theorem words_any (h : Tb w base p v cs) (hl : cs.length ≤ 100) (hall : cs.all Cl.rt = true) (l : Int) (n : Int) :
    Calls Try.prog 33 #[.pointer p, .int .i64 n, .int .i64 l] w fun e w' => e = .returned (.tuple #[.int .i64 (woV (clAt cs n) l), .int .i64 (shX (clAt cs n) l)]) ∧ Grow w w' := by
  have hs := fun w h => shape_any (w := w) (base := base) (p := p) (v := v) h hl hall l n
  have hb := sh_bd (o := clAt cs n) (fun c hc => clAt_rt hall hc) l
  have HW := hide (show woV (clAt cs n) l = if shX (clAt cs n) l = 0 then 2 + shR (clAt cs n) l + shD (clAt cs n) l else 0 from rfl)
  generalize woV (clAt cs n) l = V at *
  generalize shX (clAt cs n) l = X at *
  generalize shR (clAt cs n) l = R at *
  generalize shD (clAt cs n) l = D at *
  have H := hide h
  have HS := hide hs
  clear h hs
  by_cases hX : X = 0
  · subst hX
    have HV := hide (show V = 2 + R + D by rw [HW.out]; rfl)
    clear HW
    go_enter Try.func33, Try.ntmps33
    go_wp2_with fail
    refine (HS.out _ H.out).mono ?_
    rintro e w1 ⟨rfl, c1⟩
    go_wp2
    go_returns
    exact ⟨by rw [HV.out]; rfl, c1⟩
  · have HV := hide (show V = 0 by rw [HW.out, if_neg hX])
    have hX' : (X == 0) = false := by simpa using hX
    clear HW
    go_enter Try.func33, Try.ntmps33
    go_wp2_with fail
    refine (HS.out _ H.out).mono ?_
    rintro e w1 ⟨rfl, c1⟩
    go_wp2
    go_returns
    exact ⟨by rw [HV.out]; rfl, c1⟩
set_option maxHeartbeats 1000000 in
theorem holds_none (h : Tb w base p v cs) (hn : clAt cs n = none) :
    Calls Try.prog 55 #[.pointer p, .int .i64 n, .int .i64 l] w fun e w' => e = .returned (.bool false) ∧ Grow w w' := by
  have H := hide h
  have HN := hide (clAt_none hn)
  clear h hn
  go_enter Try.func55, Try.ntmps55
  go_wp2_with fail
  refine (of_out H.out HN.out).mono ?_
  rintro e w1 ⟨rfl, c1⟩
  go_wp2
  go_ret
  exact ⟨rfl, c1.alloc _⟩
set_option maxHeartbeats 1000000 in
theorem holds_some {c : Cl} (h : Tb w base p v cs) (hl : cs.length ≤ 100) (hn : clAt cs n = some c) :
    Calls Try.prog 55 #[.pointer p, .int .i64 n, .int .i64 l] w fun e w' => e = .returned (.bool (hoB (some c) l)) ∧ Grow w w' := by
  by_cases h0 : l < 0
  · have HE := hide (show hoB (some c) l = false by simp [hoB]; omega)
    obtain ⟨k, hk, hkl, hc⟩ := clAt_some hn
    have H := hide h
    have HC := hide hc
    have HK := hide hk
    obtain ⟨K, R, D, f⟩ := c
    clear h hn hc hk
    try dsimp only at *
    go_enter Try.func55, Try.ntmps55
    go_wp2_with fail
    refine (of_in H.out hl HC.out HK.out).mono ?_
    rintro e w1 ⟨rfl, c1⟩
    go_wp2
    go_ret
    exact ⟨ret_bool HE.out.symm, c1.alloc _⟩
  · have h0' : decide (l < 0) = false := by simpa using h0
    by_cases h1 : 0 < l
    · have HE := hide (show hoB (some c) l = true by simp [hoB]; omega)
      obtain ⟨k, hk, hkl, hc⟩ := clAt_some hn
      have H := hide h
      have HC := hide hc
      have HK := hide hk
      obtain ⟨K, R, D, f⟩ := c
      clear h hn hc hk
      try dsimp only at *
      go_enter Try.func55, Try.ntmps55
      go_wp2_with fail
      refine (of_in H.out hl HC.out HK.out).mono ?_
      rintro e w1 ⟨rfl, c1⟩
      go_wp2
      go_ret
      exact ⟨ret_bool HE.out.symm, c1.alloc _⟩
    · obtain rfl : l = 0 := by omega
      clear h0 h0' h1
      have HE := hide (show hoB (some c) 0 = !isRf c.k by simp [hoB])
      cases hi : isRf c.k
      · skip
        rw [hi] at HE
        have HI := hide hi
        clear hi
        obtain ⟨k, hk, hkl, hc⟩ := clAt_some hn
        have H := hide h
        have HC := hide hc
        have HK := hide hk
        obtain ⟨K, R, D, f⟩ := c
        clear h hn hc hk
        try dsimp only at *
        go_enter Try.func55, Try.ntmps55
        go_wp2_with fail
        refine (of_in H.out hl HC.out HK.out).mono ?_
        rintro e w1 ⟨rfl, c1⟩
        have hx := Blk.new w1 54 [.int .i64 K, .int .i64 R, .int .i64 D, .bool f]
        replace c1 := c1.alloc (.cells [.int .i64 K, .int .i64 R, .int .i64 D, .bool f].toArray 54)
        obtain ⟨x0, x1, x2, x3⟩ := hx.cell4
        go_wp2_with fail
        refine (isref_is _ _ _ _ HI.out).mono ?_
        rintro e w2 ⟨rfl, c2⟩
        go_wp2
        go_ret
        exact ⟨ret_bool HE.out.symm, c1.trans c2⟩
      · skip
        rw [hi] at HE
        have HI := hide hi
        clear hi
        obtain ⟨k, hk, hkl, hc⟩ := clAt_some hn
        have H := hide h
        have HC := hide hc
        have HK := hide hk
        obtain ⟨K, R, D, f⟩ := c
        clear h hn hc hk
        try dsimp only at *
        go_enter Try.func55, Try.ntmps55
        go_wp2_with fail
        refine (of_in H.out hl HC.out HK.out).mono ?_
        rintro e w1 ⟨rfl, c1⟩
        have hx := Blk.new w1 54 [.int .i64 K, .int .i64 R, .int .i64 D, .bool f]
        replace c1 := c1.alloc (.cells [.int .i64 K, .int .i64 R, .int .i64 D, .bool f].toArray 54)
        obtain ⟨x0, x1, x2, x3⟩ := hx.cell4
        go_wp2_with fail
        refine (isref_is _ _ _ _ HI.out).mono ?_
        rintro e w2 ⟨rfl, c2⟩
        go_wp2
        go_ret
        exact ⟨ret_bool HE.out.symm, c1.trans c2⟩
theorem holds_any (h : Tb w base p v cs) (hl : cs.length ≤ 100) (l : Int) (n : Int) :
    Calls Try.prog 55 #[.pointer p, .int .i64 n, .int .i64 l] w fun e w' => e = .returned (.bool (hoB (clAt cs n) l)) ∧ Grow w w' := by
  cases ho : clAt cs n with
  | none => exact holds_none h ho
  | some c => exact holds_some h hl ho
end
end Go.Proofs.Ytjofdamobnemcaa.L5

/- What New, Shape and Holds of package gleaningref05 answer; they change nothing but make new memory. Conditions: at most 100 classes, that can be where Shape and Holds are asked. -/
import Derived.Test.YtjofdamobnemcaaL5Rr
import Derived.Test.YtjofdamobnemcaaL5Ans
namespace Go.Proofs.Ytjofdamobnemcaa.L5
open Go.ChangeShapes Go.WideShapes Go.ChangeAt Go.RowKit
set_option linter.unusedVariables false

set_option maxHeartbeats 2000000 in
set_option maxRecDepth 100000 in
theorem rnew_any (a : Option Addr) (len cap : Nat) (cs : List Cl) (w : World) (h : IsCls w a len cap cs) (hl : len ≤ 100) :
    Calls Try.prog 14 #[.slice a len cap] w fun e w' => e = .returned (.int .i64 (newX cs)) ∧ Grow w w' := by
  have H := hide h
  have HL := hide h.len
  clear h
  go_enter Try.func14, Try.ntmps14
  go_wp2
  go_loopw [6] (fun i wr => ∃ k : Nat, k ≤ len ∧ i = .int .i64 k ∧ (∀ i, i < k → ∀ c, cs[i]? = some c → c.rt = true) ∧ Grow w wr) (fun i _ => len - (intOf i).toNat)
  case atStart => exact ⟨0, Nat.zero_le _, rfl, fun i hi => absurd hi (by omega), Chg.refl _ _⟩
  case round =>
    obtain ⟨k, hk, rfl, hall, cc⟩ := hrel
    by_cases hlt : k < len
    · obtain ⟨b, off, c, rfl, hc, ⟨e0, e1, e2, e3⟩, hM⟩ := (H.out.chg cc (fun i hi => id)).at_ hlt
      obtain ⟨K, R, D, f⟩ := c
      have HA := hide hall
      clear hall
      dsimp only at e0 e1 e2 e3 hM
      cases hr : rtB K R D f
      · have HX := hide (newX_no hc hr)
        have HR := hide hr
        clear hr hc
        go_wp2_with fail
        clear e0 e1 e2 e3
        refine (rright_is _ HR.out).mono ?_
        rintro e w1 ⟨rfl, c1⟩
        go_wp2
        go_ret
        exact ⟨by rw [HX.out]; rfl, cc.trans c1⟩
      · have HX := hide (show ∀ i, i < k + 1 → ∀ c, cs[i]? = some c → c.rt = true by
          intro i hi c hci
          rcases Nat.lt_or_ge i k with h | h
          · exact HA.out i h c hci
          · obtain rfl : i = k := by omega
            rw [hc] at hci
            injection hci with hci
            subst hci
            exact hr)
        have HR := hide hr
        clear hr hc
        go_wp2_with fail
        clear e0 e1 e2 e3
        refine (rright_is _ HR.out).mono ?_
        rintro e w1 ⟨rfl, c1⟩
        go_wp2
        go_roundw
        case rel => exact ⟨k + 1, by omega, by go_num, HX.out, cc.trans c1⟩
        case measure => simp [intOf]; omega
    · obtain rfl : k = len := by omega
      have HA := hide (all_of (by rw [HL.out]; exact hall))
      clear hall
      by_cases h64 : k < 64
      · have h64' : decide ((k : Int) ≥ 64) = false := by simp; omega
        have HX := hide (show newX cs = 0 by simp [newX, HA.out, HL.out, h64])
        go_wp2
        go_ret
        exact ⟨by rw [HX.out]; rfl, cc⟩
      · have h64' : decide ((k : Int) ≥ 64) = true := by simp; omega
        have HX := hide (show newX cs = 3 by simp [newX, HA.out, HL.out, h64])
        go_wp2
        go_ret
        exact ⟨by rw [HX.out]; rfl, cc⟩

section
variable {w : World} {a : Option Addr} {len cap : Nat} {cs : List Cl} {n l : Int}
set_option maxHeartbeats 1000000 in
theorem rshape_none (h : IsCls w a len cap cs) (hn : clAt cs n = none) :
    Calls Try.prog 34 #[.slice a len cap, .int .i64 n, .int .i64 l] w fun e w' => e = .returned (.tuple #[.int .i64 0, .int .i64 0, .int .i64 4]) ∧ Grow w w' := by
  have hn' := clAt_none hn
  rw [h.len] at hn'
  clear h hn
  by_cases h1 : n < 1
  · clear hn'
    go_enter Try.func34, Try.ntmps34
    go_wp2
    go_returns
    exact ⟨rfl, Chg.refl _ _⟩
  · have h1' : decide (n < 1) = false := by simpa using h1
    have h2 : (len : Int) < n := by omega
    clear hn'
    go_enter Try.func34, Try.ntmps34
    go_wp2
    go_returns
    exact ⟨rfl, Chg.refl _ _⟩
set_option maxHeartbeats 1000000 in
theorem rshape_arg {k : Nat} {K R D : Int} {f : Bool} (h : IsCls w a len cap cs) (hc : cs[k]? = some ⟨K, R, D, f⟩) (ha : l < 0 ∨ (0 < l ∧ K ≠ 2)) :
    Calls Try.prog 34 #[.slice a len cap, .int .i64 (k + 1), .int .i64 l] w fun e w' => e = .returned (.tuple #[.int .i64 0, .int .i64 0, .int .i64 1]) ∧ Grow w w' := by
  by_cases h0 : l < 0
  · clear ha
    have hlen := h.len
    have hk : k < len := by have := (List.getElem?_eq_some_iff.1 hc).1; omega
    have q1 : decide ((k : Int) + 1 < 1) = false := by simp; omega
    have q2 : decide ((len : Int) < (k : Int) + 1) = false := by simp; omega
    have hlm := h.2.2.1
    unfold maxLen at hlm
    have hlc := h.2.1
    obtain ⟨b, off, c, rfl, hc', ⟨e0, e1, e2, e3⟩, -⟩ := h.at_ hk
    rw [hc] at hc'
    injection hc' with hc'
    subst hc'
    dsimp only at e0 e1 e2 e3
    clear h hc hlen
    go_enter Try.func34, Try.ntmps34
    go_wp2
    go_returns
    exact ⟨rfl, Grow.box _ _⟩
  · have h0' : decide (l < 0) = false := by simpa using h0
    have h1 : 0 < l ∧ K ≠ 2 := by omega
    obtain ⟨h1, h2⟩ := h1
    have h2' : (K == 2) = false := by simpa using h2
    have h3 : (l != 0) = true := by simp; omega
    have h4 : (K != 2) = true := by simpa using h2
    clear ha h2' h2
    have hlen := h.len
    have hk : k < len := by have := (List.getElem?_eq_some_iff.1 hc).1; omega
    have q1 : decide ((k : Int) + 1 < 1) = false := by simp; omega
    have q2 : decide ((len : Int) < (k : Int) + 1) = false := by simp; omega
    have hlm := h.2.2.1
    unfold maxLen at hlm
    have hlc := h.2.1
    obtain ⟨b, off, c, rfl, hc', ⟨e0, e1, e2, e3⟩, -⟩ := h.at_ hk
    rw [hc] at hc'
    injection hc' with hc'
    subst hc'
    dsimp only at e0 e1 e2 e3
    clear h hc hlen
    go_enter Try.func34, Try.ntmps34
    go_wp2
    go_returns
    exact ⟨rfl, Grow.box _ _⟩
set_option maxHeartbeats 1000000 in
theorem rshape_large {k : Nat} {R D : Int} {f : Bool} (h : IsCls w a len cap cs) (hc : cs[k]? = some ⟨2, R, D, f⟩) (h3 : 30 < l) :
    Calls Try.prog 34 #[.slice a len cap, .int .i64 (k + 1), .int .i64 l] w fun e w' => e = .returned (.tuple #[.int .i64 0, .int .i64 0, .int .i64 8]) ∧ Grow w w' := by
  have h0' : decide (l < 0) = false := by simp; omega
  have h1 : (l == 0) = false := by simp; omega
  have hlen := h.len
  have hk : k < len := by have := (List.getElem?_eq_some_iff.1 hc).1; omega
  have q1 : decide ((k : Int) + 1 < 1) = false := by simp; omega
  have q2 : decide ((len : Int) < (k : Int) + 1) = false := by simp; omega
  have hlm := h.2.2.1
  unfold maxLen at hlm
  have hlc := h.2.1
  obtain ⟨b, off, c, rfl, hc', ⟨e0, e1, e2, e3⟩, -⟩ := h.at_ hk
  rw [hc] at hc'
  injection hc' with hc'
  subst hc'
  dsimp only at e0 e1 e2 e3
  clear h hc hlen
  go_enter Try.func34, Try.ntmps34
  go_wp2
  go_returns
  exact ⟨rfl, Grow.box _ _⟩
set_option maxHeartbeats 1000000 in
theorem rshape_ok0 {k : Nat} {K R D : Int} {f : Bool} (h : IsCls w a len cap cs) (hc : cs[k]? = some ⟨K, R, D, f⟩) (wr : IntKind.i64.wrap R = R) :
    Calls Try.prog 34 #[.slice a len cap, .int .i64 (k + 1), .int .i64 0] w fun e w' => e = .returned (.tuple #[.int .i64 R, .int .i64 D, .int .i64 0]) ∧ Grow w w' := by
  have hlen := h.len
  have hk : k < len := by have := (List.getElem?_eq_some_iff.1 hc).1; omega
  have q1 : decide ((k : Int) + 1 < 1) = false := by simp; omega
  have q2 : decide ((len : Int) < (k : Int) + 1) = false := by simp; omega
  have hlm := h.2.2.1
  unfold maxLen at hlm
  have hlc := h.2.1
  obtain ⟨b, off, c, rfl, hc', ⟨e0, e1, e2, e3⟩, -⟩ := h.at_ hk
  rw [hc] at hc'
  injection hc' with hc'
  subst hc'
  dsimp only at e0 e1 e2 e3
  clear h hc hlen
  go_enter Try.func34, Try.ntmps34
  have hx := Blk.new w 54 [.int .i64 K, .int .i64 R, .int .i64 D, .bool f]
  have c1 := Grow.box w (.cells [.int .i64 K, .int .i64 R, .int .i64 D, .bool f].toArray 54)
  obtain ⟨x0, x1, x2, x3⟩ := hx.cell4
  go_wp2_with fail
  refine wp_region_grow (by kernel_rfl) (by kernel_rfl) ?_
  repeat (
    with_reducible refine wpQuiet_step ?_
    intro K hK
    first
      | ((with_reducible refine quiet_offT rfl ?_ (hK _ ?_)); focus (refine ⟨_, rfl, ?_⟩; with_reducible rfl))
      | ((with_reducible refine quiet_offF rfl ?_ (hK _ ?_)); focus (refine ⟨_, rfl, ?_⟩; with_reducible rfl))
      | ((with_reducible refine quiet_offN rfl ?_ (hK _ ?_)); focus (exact rfl))
      | ((first | with_reducible refine quiet_free rfl ?_ | ((with_reducible refine quiet_on rfl ?_ ?_); focus (refine ⟨_, rfl, ?_⟩; with_reducible rfl)))
         apply Exists.intro
         refine ⟨fun Wq hW => ?_, hK _ ?_⟩
         focus (have q0 := Grow.cell hW x0; have q1 := Grow.cell hW x1; have q2 := Grow.cell hW x2; have q3 := Grow.cell hW x3; go_simp; first | done | with_reducible rfl))
    clear hK K
    simp only [Act.put, List.setIfInBounds_toArray, List.set_cons_zero, List.set_cons_succ])
  with_reducible refine wpQuiet_nil ?_
  intro w2 c2
  go_wp2
  go_returns
  exact ⟨rfl, c1.trans c2⟩
set_option maxHeartbeats 1000000 in
theorem rshape_ok2 {k : Nat} {f : Bool} (h : IsCls w a len cap cs) (hc : cs[k]? = some ⟨2, 0, 0, f⟩) (h0 : 0 < l) (h1 : l ≤ 30) :
    Calls Try.prog 34 #[.slice a len cap, .int .i64 (k + 1), .int .i64 l] w fun e w' => e = .returned (.tuple #[.int .i64 l, .int .i64 0, .int .i64 0]) ∧ Grow w w' := by
  have h0' : decide (l < 0) = false := by simp; omega
  have h1' : decide (30 < l) = false := by simp; omega
  have h2' : (l == 0) = false := by simp; omega
  have wr : IntKind.i64.wrap l = l := IntWalk.i64_in _ (by omega)
  have hlen := h.len
  have hk : k < len := by have := (List.getElem?_eq_some_iff.1 hc).1; omega
  have q1 : decide ((k : Int) + 1 < 1) = false := by simp; omega
  have q2 : decide ((len : Int) < (k : Int) + 1) = false := by simp; omega
  have hlm := h.2.2.1
  unfold maxLen at hlm
  have hlc := h.2.1
  obtain ⟨b, off, c, rfl, hc', ⟨e0, e1, e2, e3⟩, -⟩ := h.at_ hk
  rw [hc] at hc'
  injection hc' with hc'
  subst hc'
  dsimp only at e0 e1 e2 e3
  clear h hc hlen
  go_enter Try.func34, Try.ntmps34
  have hx := Blk.new w 54 [.int .i64 2, .int .i64 0, .int .i64 0, .bool f]
  have c1 := Grow.box w (.cells [.int .i64 2, .int .i64 0, .int .i64 0, .bool f].toArray 54)
  obtain ⟨x0, x1, x2, x3⟩ := hx.cell4
  go_wp2_with fail
  refine wp_region_grow (by kernel_rfl) (by kernel_rfl) ?_
  repeat (
    with_reducible refine wpQuiet_step ?_
    intro K hK
    first
      | ((with_reducible refine quiet_offT rfl ?_ (hK _ ?_)); focus (refine ⟨_, rfl, ?_⟩; with_reducible rfl))
      | ((with_reducible refine quiet_offF rfl ?_ (hK _ ?_)); focus (refine ⟨_, rfl, ?_⟩; with_reducible rfl))
      | ((with_reducible refine quiet_offN rfl ?_ (hK _ ?_)); focus (exact rfl))
      | ((first | with_reducible refine quiet_free rfl ?_ | ((with_reducible refine quiet_on rfl ?_ ?_); focus (refine ⟨_, rfl, ?_⟩; with_reducible rfl)))
         apply Exists.intro
         refine ⟨fun Wq hW => ?_, hK _ ?_⟩
         focus (have q0 := Grow.cell hW x0; have q1 := Grow.cell hW x1; have q2 := Grow.cell hW x2; have q3 := Grow.cell hW x3; go_simp; first | done | with_reducible rfl))
    clear hK K
    simp only [Act.put, List.setIfInBounds_toArray, List.set_cons_zero, List.set_cons_succ])
  with_reducible refine wpQuiet_nil ?_
  intro w2 c2
  go_wp2
  go_returns
  exact ⟨rfl, c1.trans c2⟩
theorem rshape_any (h : IsCls w a len cap cs) (hall : cs.all Cl.rt = true) (l : Int) (n : Int) :
    Calls Try.prog 34 #[.slice a len cap, .int .i64 n, .int .i64 l] w fun e w' => e = .returned (.tuple #[.int .i64 (shR (clAt cs n) l), .int .i64 (shD (clAt cs n) l), .int .i64 (shX (clAt cs n) l)]) ∧ Grow w w' := by
  cases ho : clAt cs n with
  | none => exact rshape_none h ho
  | some c =>
    have hb := rt_bd (clAt_rt hall ho)
    obtain ⟨k, rfl, hkl, hc⟩ := clAt_some ho
    obtain ⟨K, R, D, f⟩ := c
    dsimp only at hb
    by_cases h1 : l < 0 ∨ (0 < l ∧ K ≠ 2)
    · have e : shX (some ⟨K, R, D, f⟩) l = 1 := by simp only [shX]; rw [if_pos h1]
      have := rshape_arg (l := l) h hc h1
      simpa only [shR, shD, e, show ¬ ((1 : Int) = 0) by decide, if_false] using this
    · by_cases h2 : 30 < l
      · have e : shX (some ⟨K, R, D, f⟩) l = 8 := by simp only [shX]; rw [if_neg h1, if_pos h2]
        obtain rfl : K = 2 := by omega
        have := rshape_large (l := l) h hc h2
        simpa only [shR, shD, e, show ¬ ((8 : Int) = 0) by decide, if_false] using this
      · have e : shX (some ⟨K, R, D, f⟩) l = 0 := by simp only [shX]; rw [if_neg h1, if_neg h2]
        simp only [shR, shD, e, if_true]
        by_cases hz : l = 0
        · subst hz
          rw [Int.add_zero]
          exact rshape_ok0 h hc (IntWalk.i64_in _ (by omega))
        · obtain rfl : K = 2 := by omega
          obtain ⟨rfl, rfl⟩ := hb.2.2.2.2.2.1 rfl
          rw [Int.zero_add]
          exact rshape_ok2 h hc (by omega) (by omega)
end
end Go.Proofs.Ytjofdamobnemcaa.L5

/- For all classes, numbers and lengths ClassTells answers true: they are a table, or not, as the document says, and any class in it, any length, and any reference, tell what it says. Conditions: none. -/
import Derived.Test.YthgijkikaboegaaAwake
import Derived.Test.YthgijkikaboegaaRef
import Derived.ShutString
namespace Go.Proofs.Ythgijkikaboegaa.classTells
open Go.ChangeShapes Go.WideShapes Go.ChangeAt Go.RowKit
set_option linter.unusedVariables false

theorem rshape_is {w : World} {a : Option Addr} {len cap : Nat} {cs : List Cl} {n l R D X : Int} (h : IsCls w a len cap cs) (hall : cs.all Cl.rt = true) (hR : shR (clAt cs n) l = R) (hD : shD (clAt cs n) l = D) (hX : shX (clAt cs n) l = X) :
    Calls Try.prog 16 #[.slice a len cap, .int .i64 n, .int .i64 l] w fun e w' => e = .returned (.tuple #[.int .i64 R, .int .i64 D, .int .i64 X]) ∧ Grow w w' := by
  have h' := rshape_any h hall l n
  rwa [hR, hD, hX] at h'
theorem shape_is {w : World} {base : Nat} {p : Option Addr} {v : Value} {cs : List Cl} {n l R D X : Int} (h : Tb w base p v cs) (hl : cs.length ≤ 100) (hall : cs.all Cl.rt = true) (hR : shR (clAt cs n) l = R) (hD : shD (clAt cs n) l = D) (hX : shX (clAt cs n) l = X) :
    Calls Try.prog 15 #[.pointer p, .int .i64 n, .int .i64 l] w fun e w' => e = .returned (.tuple #[.int .i64 R, .int .i64 D, .int .i64 X]) ∧ Grow w w' := by
  have h' := shape_any h hl hall l n
  rwa [hR, hD, hX] at h'
theorem rholds_is {w : World} {a : Option Addr} {len cap : Nat} {cs : List Cl} {n l : Int} {b : Bool} (h : IsCls w a len cap cs) (hall : cs.all Cl.rt = true) (hb : hoB (clAt cs n) l = b) :
    Calls Try.prog 19 #[.slice a len cap, .int .i64 n, .int .i64 l] w fun e w' => e = .returned (.bool b) ∧ w = w' := by
  have h' := rholds_any h hall l n
  rwa [hb] at h'

theorem len_is {w : World} {base : Nat} {p : Option Addr} {v : Value} {cs : List Cl} {k : Nat} (h : Tb w base p v cs) (hk : cs.length = k) :
    Calls Try.prog 14 #[.pointer p] w fun e w' => e = .returned (.int .i64 k) ∧ w = w' := by
  have h' := len_any h
  rwa [hk] at h'
set_option maxHeartbeats 1000000 in
set_option maxRecDepth 100000 in
theorem walk_long (a : Option Addr) (len cap : Nat) (n l f : Int) (w : World) (hl : 100 < len) :
    Calls Try.prog 3 #[.slice a len cap, .int .i64 n, .int .i64 l, .int .i64 f] w fun e w' => e = .returned (.bool true) ∧ Below w.heap.size w w' := by
  go_enter Try.func3, Try.ntmps3
  go_wp2_with fail
  refine (awake_any _).mono ?_
  rintro e wa ⟨rfl, ca⟩
  go_wp2_with fail
  refine (awake_any _).mono ?_
  rintro e wb ⟨rfl, cb⟩
  go_wp2
  go_ret
  exact ⟨rfl, (ca.trans cb).below (fun _ _ h => h) (Nat.le_refl _)⟩
set_option maxHeartbeats 4000000 in
set_option maxRecDepth 100000 in
theorem walk_no (a : Option Addr) (len cap : Nat) (cs : List Cl) (n l fd : Int) (w : World) (h : IsCls w a len cap cs) (hl : len ≤ 100) (hX : newX cs ≠ 0) :
    Calls Try.prog 3 #[.slice a len cap, .int .i64 n, .int .i64 l, .int .i64 fd] w fun e w' => e = .returned (.bool true) ∧ Below w.heap.size w w' := by
  obtain ⟨X, hX'⟩ : ∃ X, newX cs = X := ⟨_, rfl⟩
  rw [hX'] at hX
  have HX := hide hX'
  have H0 := hide hX
  have hx' : (X != 0) = true := by simpa using hX
  have hx'' : (X == 0) = false := by simpa using hX
  clear hX hX'
  have H := hide h
  have HL := hide h.len
  have hl' : decide ((len : Int) > 100) = false := by simp; omega
  clear h
  go_enter Try.func3, Try.ntmps3
  go_wp2_with fail
  refine (awake_any _).mono ?_
  rintro e wa ⟨rfl, ca⟩
  go_wp2
  clear hl'
  go_loopw [34] (fun i wr => ∃ k : Nat, k ≤ len ∧ i = .int .i64 k ∧ Grow w wr) (fun i _ => len - (intOf i).toNat)
  case atStart => exact ⟨0, Nat.zero_le _, rfl, ca⟩
  case round =>
    clear ca
    obtain ⟨k, hk, rfl, cc⟩ := hrel
    by_cases hlt : k < len
    · obtain ⟨b, off, c, rfl, hc, ⟨e0, e1, e2, e3⟩, hM⟩ := (H.out.chg cc (fun i hi => id)).at_ hlt
      obtain ⟨K, R, D, f⟩ := c
      dsimp only at e0 e1 e2 e3 hM
      clear hc
      cases hr : rtB K R D f
      · have HR := hide hr
        clear hr
        go_wp2_with fail
        refine wp_region_grow (by kernel_rfl) (by kernel_rfl) ?_
        repeat (
          with_reducible refine wpQuiet_step ?_
          intro K hK
          first
            | ((with_reducible refine quiet_offT rfl ?_ (hK _ ?_)); focus (refine ⟨_, rfl, ?_⟩; with_reducible rfl))
            | ((with_reducible refine quiet_offF rfl ?_ (hK _ ?_)); focus (refine ⟨_, rfl, ?_⟩; with_reducible rfl))
            | ((with_reducible refine quiet_offN rfl ?_ (hK _ ?_)); focus (exact rfl))
            | ((first | with_reducible refine quiet_free rfl ?_ | ((with_reducible refine quiet_on rfl ?_ ?_); focus (refine ⟨_, rfl, ?_⟩; with_reducible rfl)))
               apply Exists.intro
               refine ⟨fun W hW => ?_, hK _ ?_⟩
               focus (have q0 := Grow.cell hW e0; have q1 := Grow.cell hW e1; have q2 := Grow.cell hW e2; have q3 := Grow.cell hW e3; go_simp; first | done | with_reducible rfl | (go_at_call 9; (first | with_reducible exact grown_call hW (right_is _ hM HR.out) | with_reducible exact grown_same hW (right_is _ hM HR.out))) | (go_at_call 10; (first | with_reducible exact grown_call hW (rright_is _ HR.out) | with_reducible exact grown_same hW (rright_is _ HR.out)))))
          clear hK K
          simp only [Act.put, List.setIfInBounds_toArray, List.set_cons_zero, List.set_cons_succ])
        with_reducible refine wpQuiet_nil ?_
        intro w1 c1
        clear e0 e1 e2 e3
        go_wp2
        go_roundw
        case rel => exact ⟨k + 1, by omega, by go_num, cc.trans c1⟩
        case measure => simp [intOf]; omega
      · have HR := hide hr
        clear hr
        go_wp2_with fail
        refine wp_region_grow (by kernel_rfl) (by kernel_rfl) ?_
        repeat (
          with_reducible refine wpQuiet_step ?_
          intro K hK
          first
            | ((with_reducible refine quiet_offT rfl ?_ (hK _ ?_)); focus (refine ⟨_, rfl, ?_⟩; with_reducible rfl))
            | ((with_reducible refine quiet_offF rfl ?_ (hK _ ?_)); focus (refine ⟨_, rfl, ?_⟩; with_reducible rfl))
            | ((with_reducible refine quiet_offN rfl ?_ (hK _ ?_)); focus (exact rfl))
            | ((first | with_reducible refine quiet_free rfl ?_ | ((with_reducible refine quiet_on rfl ?_ ?_); focus (refine ⟨_, rfl, ?_⟩; with_reducible rfl)))
               apply Exists.intro
               refine ⟨fun W hW => ?_, hK _ ?_⟩
               focus (have q0 := Grow.cell hW e0; have q1 := Grow.cell hW e1; have q2 := Grow.cell hW e2; have q3 := Grow.cell hW e3; go_simp; first | done | with_reducible rfl | (go_at_call 9; (first | with_reducible exact grown_call hW (right_is _ hM HR.out) | with_reducible exact grown_same hW (right_is _ hM HR.out))) | (go_at_call 10; (first | with_reducible exact grown_call hW (rright_is _ HR.out) | with_reducible exact grown_same hW (rright_is _ HR.out)))))
          clear hK K
          simp only [Act.put, List.setIfInBounds_toArray, List.set_cons_zero, List.set_cons_succ])
        with_reducible refine wpQuiet_nil ?_
        intro w1 c1
        clear e0 e1 e2 e3
        go_wp2
        go_roundw
        case rel => exact ⟨k + 1, by omega, by go_num, cc.trans c1⟩
        case measure => simp [intOf]; omega
    · obtain rfl : k = len := by omega
      go_wp2_with fail
      refine (new_no _ (H.out.chg cc (fun _ _ => id)) hl HX.out H0.out).mono ?_
      rintro e w1 ⟨rfl, c1⟩
      replace cc := cc.trans c1
      clear c1
      go_wp2_with fail
      refine (rnew_any _ _ _ _ _ (H.out.chg cc (fun _ _ => id)) hl).mono ?_
      rw [HX.out]
      rintro e w2 ⟨rfl, c2⟩
      replace cc := cc.trans c2
      go_wp2
      go_ret
      exact ⟨rfl, cc.below (fun _ _ h => h) (Nat.le_refl _)⟩
set_option maxHeartbeats 4000000 in
set_option maxRecDepth 100000 in
theorem walk_there (a : Option Addr) (len cap : Nat) (cs : List Cl) (m : Nat) (K R D : Int) (f : Bool) (l fd R' D' : Int) (B : Bool) (w : World) (h : IsCls w a len cap cs) (hl : len ≤ 100) (hX : newX cs = 0) (hkl : m < len) (hc : cs[m]? = some ⟨K, R, D, f⟩)
    (hE : shX (clAt cs ((m : Int) + 1)) l = 0) (hR : shR (clAt cs ((m : Int) + 1)) l = R') (hD : shD (clAt cs ((m : Int) + 1)) l = D') (hB : hoB (clAt cs ((m : Int) + 1)) fd = B) (b1 : 0 ≤ R') (b2 : R' ≤ 30) (b3 : 0 ≤ D') (b4 : D' ≤ 30) :
    Calls Try.prog 3 #[.slice a len cap, .int .i64 (m + 1), .int .i64 l, .int .i64 fd] w fun e w' => e = .returned (.bool true) ∧ Below w.heap.size w w' := by
  have HX := hide hX
  have HC := hide hc
  have HA := hide (new_zero hX).1
  have HE := hide hE
  have HR := hide hR
  have HD := hide hD
  have HB := hide hB
  have HV := hide (show woV (clAt cs ((m : Int) + 1)) l = 2 + R' + D' by unfold woV; rw [hE, if_pos rfl, hR, hD])
  have KR := hide (show ∀ W : World, (Op.equalIn 10000 26 (.agg #[.int .i64 K, .int .i64 R, .int .i64 D, .bool f]) (.agg #[.int .i64 K, .int .i64 R, .int .i64 D, .bool f])).run Try.prog W = .ok true W from fun W => by
    rw [sameC, decide_eq_true ⟨rfl, rfl, rfl, rfl⟩])
  clear hX hc hE hR hD hB
  have H := hide h
  have HL := hide h.len
  have hl' : decide ((len : Int) > 100) = false := by simp; omega
  clear h
  go_enter Try.func3, Try.ntmps3
  go_wp2_with fail
  refine (awake_any _).mono ?_
  rintro e wa ⟨rfl, ca⟩
  go_wp2
  clear hl'
  go_loopw [34] (fun i wr => ∃ k : Nat, k ≤ len ∧ i = .int .i64 k ∧ Grow w wr) (fun i _ => len - (intOf i).toNat)
  case atStart => exact ⟨0, Nat.zero_le _, rfl, ca⟩
  case round =>
    clear ca
    obtain ⟨k, hk, rfl, cc⟩ := hrel
    by_cases hlt : k < len
    · obtain ⟨b, off, c, rfl, hc, ⟨e0, e1, e2, e3⟩, hM⟩ := (H.out.chg cc (fun i hi => id)).at_ hlt
      obtain ⟨K, R, D, f⟩ := c
      dsimp only at e0 e1 e2 e3 hM
      clear hc
      cases hr : rtB K R D f
      · have HR := hide hr
        clear hr
        go_wp2_with fail
        refine wp_region_grow (by kernel_rfl) (by kernel_rfl) ?_
        repeat (
          with_reducible refine wpQuiet_step ?_
          intro K hK
          first
            | ((with_reducible refine quiet_offT rfl ?_ (hK _ ?_)); focus (refine ⟨_, rfl, ?_⟩; with_reducible rfl))
            | ((with_reducible refine quiet_offF rfl ?_ (hK _ ?_)); focus (refine ⟨_, rfl, ?_⟩; with_reducible rfl))
            | ((with_reducible refine quiet_offN rfl ?_ (hK _ ?_)); focus (exact rfl))
            | ((first | with_reducible refine quiet_free rfl ?_ | ((with_reducible refine quiet_on rfl ?_ ?_); focus (refine ⟨_, rfl, ?_⟩; with_reducible rfl)))
               apply Exists.intro
               refine ⟨fun W hW => ?_, hK _ ?_⟩
               focus (have q0 := Grow.cell hW e0; have q1 := Grow.cell hW e1; have q2 := Grow.cell hW e2; have q3 := Grow.cell hW e3; go_simp; first | done | with_reducible rfl | (go_at_call 9; (first | with_reducible exact grown_call hW (right_is _ hM HR.out) | with_reducible exact grown_same hW (right_is _ hM HR.out))) | (go_at_call 10; (first | with_reducible exact grown_call hW (rright_is _ HR.out) | with_reducible exact grown_same hW (rright_is _ HR.out)))))
          clear hK K
          simp only [Act.put, List.setIfInBounds_toArray, List.set_cons_zero, List.set_cons_succ])
        with_reducible refine wpQuiet_nil ?_
        intro w1 c1
        clear e0 e1 e2 e3
        go_wp2
        go_roundw
        case rel => exact ⟨k + 1, by omega, by go_num, cc.trans c1⟩
        case measure => simp [intOf]; omega
      · have HR := hide hr
        clear hr
        go_wp2_with fail
        refine wp_region_grow (by kernel_rfl) (by kernel_rfl) ?_
        repeat (
          with_reducible refine wpQuiet_step ?_
          intro K hK
          first
            | ((with_reducible refine quiet_offT rfl ?_ (hK _ ?_)); focus (refine ⟨_, rfl, ?_⟩; with_reducible rfl))
            | ((with_reducible refine quiet_offF rfl ?_ (hK _ ?_)); focus (refine ⟨_, rfl, ?_⟩; with_reducible rfl))
            | ((with_reducible refine quiet_offN rfl ?_ (hK _ ?_)); focus (exact rfl))
            | ((first | with_reducible refine quiet_free rfl ?_ | ((with_reducible refine quiet_on rfl ?_ ?_); focus (refine ⟨_, rfl, ?_⟩; with_reducible rfl)))
               apply Exists.intro
               refine ⟨fun W hW => ?_, hK _ ?_⟩
               focus (have q0 := Grow.cell hW e0; have q1 := Grow.cell hW e1; have q2 := Grow.cell hW e2; have q3 := Grow.cell hW e3; go_simp; first | done | with_reducible rfl | (go_at_call 9; (first | with_reducible exact grown_call hW (right_is _ hM HR.out) | with_reducible exact grown_same hW (right_is _ hM HR.out))) | (go_at_call 10; (first | with_reducible exact grown_call hW (rright_is _ HR.out) | with_reducible exact grown_same hW (rright_is _ HR.out)))))
          clear hK K
          simp only [Act.put, List.setIfInBounds_toArray, List.set_cons_zero, List.set_cons_succ])
        with_reducible refine wpQuiet_nil ?_
        intro w1 c1
        clear e0 e1 e2 e3
        go_wp2
        go_roundw
        case rel => exact ⟨k + 1, by omega, by go_num, cc.trans c1⟩
        case measure => simp [intOf]; omega
    · obtain rfl : k = len := by omega
      go_wp2_with fail
      have HLL := hide (show cs.length ≤ 100 by rw [HL.out]; exact hl)
      refine (new_yes _ (H.out.chg cc (fun _ _ => id)) hl HX.out).mono ?_
      rintro e w1 ⟨g, v, rfl, ht, c1⟩
      replace cc := cc.trans c1
      have HT := hide ht
      clear c1 ht
      go_wp2_with fail
      refine (rnew_any _ _ _ _ _ (H.out.chg cc (fun _ _ => id)) hl).mono ?_
      rw [HX.out]
      rintro e w2 ⟨rfl, c2⟩
      replace cc := cc.trans c2
      replace HT := hide (HT.out.grow c2)
      clear c2
      go_wp2_with fail
      refine (of_in HT.out HLL.out HC.out rfl).mono ?_
      rintro e w3 ⟨rfl, c3⟩
      replace cc := cc.trans c3
      replace HT := hide (HT.out.grow c3)
      clear c3
      have hx := Blk.new w3 26 [.int .i64 K, .int .i64 R, .int .i64 D, .bool f]
      replace cc := cc.alloc (.cells [.int .i64 K, .int .i64 R, .int .i64 D, .bool f].toArray 26)
      replace HT := hide (HT.out.grow (Grow.box w3 (.cells [.int .i64 K, .int .i64 R, .int .i64 D, .bool f].toArray 26)))
      obtain ⟨x0, x1, x2, x3⟩ := hx.cell4
      obtain ⟨b, off, c, rfl, hc', ⟨e0, e1, e2, e3⟩, -⟩ := (H.out.chg cc (fun i hi => id)).at_ hkl
      rw [HC.out] at hc'
      injection hc' with hc'
      subst hc'
      dsimp only at e0 e1 e2 e3
      clear hx
      have d1 : decide ((m : Int) + 1 ≥ 1) = true := by simp; omega
      have d2 : decide ((m : Int) + 1 ≤ (k : Int)) = true := by simp; omega
      go_wp2_with fail
      have d3 : IntKind.i64.wrap (m : Int) = m := IntWalk.i64_in _ (by omega)
      have kR := KR.out
      clear d1 d2
      refine wp_region_grow (by kernel_rfl) (by kernel_rfl) ?_
      repeat (
        with_reducible refine wpQuiet_step ?_
        intro K hK
        first
          | ((with_reducible refine quiet_offT rfl ?_ (hK _ ?_)); focus (refine ⟨_, rfl, ?_⟩; with_reducible rfl))
          | ((with_reducible refine quiet_offF rfl ?_ (hK _ ?_)); focus (refine ⟨_, rfl, ?_⟩; with_reducible rfl))
          | ((with_reducible refine quiet_offN rfl ?_ (hK _ ?_)); focus (exact rfl))
          | ((first | with_reducible refine quiet_free rfl ?_ | ((with_reducible refine quiet_on rfl ?_ ?_); focus (refine ⟨_, rfl, ?_⟩; with_reducible rfl)))
             apply Exists.intro
             refine ⟨fun W hW => ?_, hK _ ?_⟩
             focus (have q0 := Grow.cell hW x0; have q1 := Grow.cell hW x1; have q2 := Grow.cell hW x2; have q3 := Grow.cell hW x3; have q4 := Grow.cell hW e0; have q5 := Grow.cell hW e1; have q6 := Grow.cell hW e2; have q7 := Grow.cell hW e3; go_simp; first | done | with_reducible rfl | (go_at_call 14; (first | with_reducible exact grown_call hW (len_is (HT.out.grow hW) HL.out) | with_reducible exact grown_same hW (len_is (HT.out.grow hW) HL.out)))))
        clear hK K
        simp only [Act.put, List.setIfInBounds_toArray, List.set_cons_zero, List.set_cons_succ])
      with_reducible refine wpQuiet_nil ?_
      clear e0 e1 e2 e3 d3
      intro w5 c5
      clear x0 x1 x2 x3 kR
      replace cc := cc.trans c5
      replace HT := hide (HT.out.grow c5)
      clear c5
      go_wp2_with fail
      refine (shape_is HT.out HLL.out HA.out HR.out HD.out HE.out).mono ?_
      rintro e w6 ⟨rfl, c6⟩
      replace cc := cc.trans c6
      replace HT := hide (HT.out.grow c6)
      clear c6
      go_wp2_with fail
      refine (rshape_is (H.out.chg cc (fun _ _ => id)) HA.out HR.out HD.out HE.out).mono ?_
      rintro e w7 ⟨rfl, c7⟩
      replace cc := cc.trans c7
      replace HT := hide (HT.out.grow c7)
      clear c7
      go_wp2_with fail
      refine (words_is HT.out HLL.out HA.out HV.out HE.out).mono ?_
      rintro e w8 ⟨rfl, c8⟩
      replace cc := cc.trans c8
      replace HT := hide (HT.out.grow c8)
      clear c8
      go_wp2_with fail
      refine (holds_is HT.out HLL.out HB.out).mono ?_
      rintro e w9 ⟨rfl, c9⟩
      replace cc := cc.trans c9
      clear c9
      go_wp2_with fail
      refine (rholds_is (H.out.chg cc (fun _ _ => id)) HA.out HB.out).mono ?_
      rintro e w' ⟨rfl, rfl⟩
      go_wp2
      go_ret
      exact ⟨rfl, cc.below (fun _ _ h => h) (Nat.le_refl _)⟩
set_option maxHeartbeats 4000000 in
set_option maxRecDepth 100000 in
theorem walk_err (a : Option Addr) (len cap : Nat) (cs : List Cl) (m : Nat) (K R D : Int) (f : Bool) (l fd X : Int) (B : Bool) (w : World) (h : IsCls w a len cap cs) (hl : len ≤ 100) (hX : newX cs = 0) (hkl : m < len) (hc : cs[m]? = some ⟨K, R, D, f⟩)
    (hE : shX (clAt cs ((m : Int) + 1)) l = X) (h0 : X ≠ 0) (hB : hoB (clAt cs ((m : Int) + 1)) fd = B) :
    Calls Try.prog 3 #[.slice a len cap, .int .i64 (m + 1), .int .i64 l, .int .i64 fd] w fun e w' => e = .returned (.bool true) ∧ Below w.heap.size w w' := by
  have HX := hide hX
  have HC := hide hc
  have HA := hide (new_zero hX).1
  have HE := hide hE
  have HR := hide (show shR (clAt cs ((m : Int) + 1)) l = 0 by rw [clAt_at hc] at hE ⊢; simp only [shR]; rw [hE, if_neg h0])
  have HD := hide (show shD (clAt cs ((m : Int) + 1)) l = 0 by rw [clAt_at hc] at hE ⊢; simp only [shD]; rw [hE, if_neg h0])
  have HB := hide hB
  have HV := hide (show woV (clAt cs ((m : Int) + 1)) l = 0 by unfold woV; rw [hE, if_neg h0])
  have KR := hide (show ∀ W : World, (Op.equalIn 10000 26 (.agg #[.int .i64 K, .int .i64 R, .int .i64 D, .bool f]) (.agg #[.int .i64 K, .int .i64 R, .int .i64 D, .bool f])).run Try.prog W = .ok true W from fun W => by
    rw [sameC, decide_eq_true ⟨rfl, rfl, rfl, rfl⟩])
  have hx' : (X == 0) = false := by simpa using h0
  clear hX hc hE hB h0
  have H := hide h
  have HL := hide h.len
  have hl' : decide ((len : Int) > 100) = false := by simp; omega
  clear h
  go_enter Try.func3, Try.ntmps3
  go_wp2_with fail
  refine (awake_any _).mono ?_
  rintro e wa ⟨rfl, ca⟩
  go_wp2
  clear hl'
  go_loopw [34] (fun i wr => ∃ k : Nat, k ≤ len ∧ i = .int .i64 k ∧ Grow w wr) (fun i _ => len - (intOf i).toNat)
  case atStart => exact ⟨0, Nat.zero_le _, rfl, ca⟩
  case round =>
    clear ca
    obtain ⟨k, hk, rfl, cc⟩ := hrel
    by_cases hlt : k < len
    · obtain ⟨b, off, c, rfl, hc, ⟨e0, e1, e2, e3⟩, hM⟩ := (H.out.chg cc (fun i hi => id)).at_ hlt
      obtain ⟨K, R, D, f⟩ := c
      dsimp only at e0 e1 e2 e3 hM
      clear hc
      cases hr : rtB K R D f
      · have HR := hide hr
        clear hr
        go_wp2_with fail
        refine wp_region_grow (by kernel_rfl) (by kernel_rfl) ?_
        repeat (
          with_reducible refine wpQuiet_step ?_
          intro K hK
          first
            | ((with_reducible refine quiet_offT rfl ?_ (hK _ ?_)); focus (refine ⟨_, rfl, ?_⟩; with_reducible rfl))
            | ((with_reducible refine quiet_offF rfl ?_ (hK _ ?_)); focus (refine ⟨_, rfl, ?_⟩; with_reducible rfl))
            | ((with_reducible refine quiet_offN rfl ?_ (hK _ ?_)); focus (exact rfl))
            | ((first | with_reducible refine quiet_free rfl ?_ | ((with_reducible refine quiet_on rfl ?_ ?_); focus (refine ⟨_, rfl, ?_⟩; with_reducible rfl)))
               apply Exists.intro
               refine ⟨fun W hW => ?_, hK _ ?_⟩
               focus (have q0 := Grow.cell hW e0; have q1 := Grow.cell hW e1; have q2 := Grow.cell hW e2; have q3 := Grow.cell hW e3; go_simp; first | done | with_reducible rfl | (go_at_call 9; (first | with_reducible exact grown_call hW (right_is _ hM HR.out) | with_reducible exact grown_same hW (right_is _ hM HR.out))) | (go_at_call 10; (first | with_reducible exact grown_call hW (rright_is _ HR.out) | with_reducible exact grown_same hW (rright_is _ HR.out)))))
          clear hK K
          simp only [Act.put, List.setIfInBounds_toArray, List.set_cons_zero, List.set_cons_succ])
        with_reducible refine wpQuiet_nil ?_
        intro w1 c1
        clear e0 e1 e2 e3
        go_wp2
        go_roundw
        case rel => exact ⟨k + 1, by omega, by go_num, cc.trans c1⟩
        case measure => simp [intOf]; omega
      · have HR := hide hr
        clear hr
        go_wp2_with fail
        refine wp_region_grow (by kernel_rfl) (by kernel_rfl) ?_
        repeat (
          with_reducible refine wpQuiet_step ?_
          intro K hK
          first
            | ((with_reducible refine quiet_offT rfl ?_ (hK _ ?_)); focus (refine ⟨_, rfl, ?_⟩; with_reducible rfl))
            | ((with_reducible refine quiet_offF rfl ?_ (hK _ ?_)); focus (refine ⟨_, rfl, ?_⟩; with_reducible rfl))
            | ((with_reducible refine quiet_offN rfl ?_ (hK _ ?_)); focus (exact rfl))
            | ((first | with_reducible refine quiet_free rfl ?_ | ((with_reducible refine quiet_on rfl ?_ ?_); focus (refine ⟨_, rfl, ?_⟩; with_reducible rfl)))
               apply Exists.intro
               refine ⟨fun W hW => ?_, hK _ ?_⟩
               focus (have q0 := Grow.cell hW e0; have q1 := Grow.cell hW e1; have q2 := Grow.cell hW e2; have q3 := Grow.cell hW e3; go_simp; first | done | with_reducible rfl | (go_at_call 9; (first | with_reducible exact grown_call hW (right_is _ hM HR.out) | with_reducible exact grown_same hW (right_is _ hM HR.out))) | (go_at_call 10; (first | with_reducible exact grown_call hW (rright_is _ HR.out) | with_reducible exact grown_same hW (rright_is _ HR.out)))))
          clear hK K
          simp only [Act.put, List.setIfInBounds_toArray, List.set_cons_zero, List.set_cons_succ])
        with_reducible refine wpQuiet_nil ?_
        intro w1 c1
        clear e0 e1 e2 e3
        go_wp2
        go_roundw
        case rel => exact ⟨k + 1, by omega, by go_num, cc.trans c1⟩
        case measure => simp [intOf]; omega
    · obtain rfl : k = len := by omega
      go_wp2_with fail
      have HLL := hide (show cs.length ≤ 100 by rw [HL.out]; exact hl)
      refine (new_yes _ (H.out.chg cc (fun _ _ => id)) hl HX.out).mono ?_
      rintro e w1 ⟨g, v, rfl, ht, c1⟩
      replace cc := cc.trans c1
      have HT := hide ht
      clear c1 ht
      go_wp2_with fail
      refine (rnew_any _ _ _ _ _ (H.out.chg cc (fun _ _ => id)) hl).mono ?_
      rw [HX.out]
      rintro e w2 ⟨rfl, c2⟩
      replace cc := cc.trans c2
      replace HT := hide (HT.out.grow c2)
      clear c2
      go_wp2_with fail
      refine (of_in HT.out HLL.out HC.out rfl).mono ?_
      rintro e w3 ⟨rfl, c3⟩
      replace cc := cc.trans c3
      replace HT := hide (HT.out.grow c3)
      clear c3
      have hx := Blk.new w3 26 [.int .i64 K, .int .i64 R, .int .i64 D, .bool f]
      replace cc := cc.alloc (.cells [.int .i64 K, .int .i64 R, .int .i64 D, .bool f].toArray 26)
      replace HT := hide (HT.out.grow (Grow.box w3 (.cells [.int .i64 K, .int .i64 R, .int .i64 D, .bool f].toArray 26)))
      obtain ⟨x0, x1, x2, x3⟩ := hx.cell4
      obtain ⟨b, off, c, rfl, hc', ⟨e0, e1, e2, e3⟩, -⟩ := (H.out.chg cc (fun i hi => id)).at_ hkl
      rw [HC.out] at hc'
      injection hc' with hc'
      subst hc'
      dsimp only at e0 e1 e2 e3
      clear hx
      have d1 : decide ((m : Int) + 1 ≥ 1) = true := by simp; omega
      have d2 : decide ((m : Int) + 1 ≤ (k : Int)) = true := by simp; omega
      go_wp2_with fail
      have d3 : IntKind.i64.wrap (m : Int) = m := IntWalk.i64_in _ (by omega)
      have kR := KR.out
      clear d1 d2
      refine wp_region_grow (by kernel_rfl) (by kernel_rfl) ?_
      repeat (
        with_reducible refine wpQuiet_step ?_
        intro K hK
        first
          | ((with_reducible refine quiet_offT rfl ?_ (hK _ ?_)); focus (refine ⟨_, rfl, ?_⟩; with_reducible rfl))
          | ((with_reducible refine quiet_offF rfl ?_ (hK _ ?_)); focus (refine ⟨_, rfl, ?_⟩; with_reducible rfl))
          | ((with_reducible refine quiet_offN rfl ?_ (hK _ ?_)); focus (exact rfl))
          | ((first | with_reducible refine quiet_free rfl ?_ | ((with_reducible refine quiet_on rfl ?_ ?_); focus (refine ⟨_, rfl, ?_⟩; with_reducible rfl)))
             apply Exists.intro
             refine ⟨fun W hW => ?_, hK _ ?_⟩
             focus (have q0 := Grow.cell hW x0; have q1 := Grow.cell hW x1; have q2 := Grow.cell hW x2; have q3 := Grow.cell hW x3; have q4 := Grow.cell hW e0; have q5 := Grow.cell hW e1; have q6 := Grow.cell hW e2; have q7 := Grow.cell hW e3; go_simp; first | done | with_reducible rfl | (go_at_call 14; (first | with_reducible exact grown_call hW (len_is (HT.out.grow hW) HL.out) | with_reducible exact grown_same hW (len_is (HT.out.grow hW) HL.out)))))
        clear hK K
        simp only [Act.put, List.setIfInBounds_toArray, List.set_cons_zero, List.set_cons_succ])
      with_reducible refine wpQuiet_nil ?_
      clear e0 e1 e2 e3 d3
      intro w5 c5
      clear x0 x1 x2 x3 kR
      replace cc := cc.trans c5
      replace HT := hide (HT.out.grow c5)
      clear c5
      go_wp2_with fail
      refine (shape_is HT.out HLL.out HA.out HR.out HD.out HE.out).mono ?_
      rintro e w6 ⟨rfl, c6⟩
      replace cc := cc.trans c6
      replace HT := hide (HT.out.grow c6)
      clear c6
      go_wp2_with fail
      refine (rshape_is (H.out.chg cc (fun _ _ => id)) HA.out HR.out HD.out HE.out).mono ?_
      rintro e w7 ⟨rfl, c7⟩
      replace cc := cc.trans c7
      replace HT := hide (HT.out.grow c7)
      clear c7
      go_wp2_with fail
      refine (words_is HT.out HLL.out HA.out HV.out HE.out).mono ?_
      rintro e w8 ⟨rfl, c8⟩
      replace cc := cc.trans c8
      replace HT := hide (HT.out.grow c8)
      clear c8
      go_wp2_with fail
      refine (holds_is HT.out HLL.out HB.out).mono ?_
      rintro e w9 ⟨rfl, c9⟩
      replace cc := cc.trans c9
      clear c9
      go_wp2_with fail
      refine (rholds_is (H.out.chg cc (fun _ _ => id)) HA.out HB.out).mono ?_
      rintro e w' ⟨rfl, rfl⟩
      go_wp2
      go_ret
      exact ⟨rfl, cc.below (fun _ _ h => h) (Nat.le_refl _)⟩
set_option maxHeartbeats 4000000 in
set_option maxRecDepth 100000 in
theorem walk_low (a : Option Addr) (len cap : Nat) (cs : List Cl) (n l fd : Int) (w : World) (h : IsCls w a len cap cs) (hl : len ≤ 100) (hX : newX cs = 0) (hn : n < 1) :
    Calls Try.prog 3 #[.slice a len cap, .int .i64 n, .int .i64 l, .int .i64 fd] w fun e w' => e = .returned (.bool true) ∧ Below w.heap.size w w' := by
  have HX := hide hX
  have HA := hide (new_zero hX).1
  have ho : clAt cs n = none := clAt_out (by rw [h.len]; omega)
  have HE := hide (show shX (clAt cs n) l = 4 by rw [ho]; rfl)
  have HR := hide (show shR (clAt cs n) l = 0 by rw [ho]; rfl)
  have HD := hide (show shD (clAt cs n) l = 0 by rw [ho]; rfl)
  have HV := hide (show woV (clAt cs n) l = 0 by rw [ho]; rfl)
  have HB := hide (show hoB (clAt cs n) fd = false by rw [ho]; rfl)
  have KR := hide (show ∀ W : World, (Op.equalIn 10000 26 (.agg #[.int .i64 0, .int .i64 0, .int .i64 0, .bool false]) (.agg #[.int .i64 0, .int .i64 0, .int .i64 0, .bool false])).run Try.prog W = .ok true W from fun W => by
    rw [sameC, decide_eq_true ⟨rfl, rfl, rfl, rfl⟩])
  clear hX ho
  have H := hide h
  have HL := hide h.len
  have hl' : decide ((len : Int) > 100) = false := by simp; omega
  clear h
  go_enter Try.func3, Try.ntmps3
  go_wp2_with fail
  refine (awake_any _).mono ?_
  rintro e wa ⟨rfl, ca⟩
  go_wp2
  clear hl'
  go_loopw [34] (fun i wr => ∃ k : Nat, k ≤ len ∧ i = .int .i64 k ∧ Grow w wr) (fun i _ => len - (intOf i).toNat)
  case atStart => exact ⟨0, Nat.zero_le _, rfl, ca⟩
  case round =>
    clear ca
    obtain ⟨k, hk, rfl, cc⟩ := hrel
    by_cases hlt : k < len
    · obtain ⟨b, off, c, rfl, hc, ⟨e0, e1, e2, e3⟩, hM⟩ := (H.out.chg cc (fun i hi => id)).at_ hlt
      obtain ⟨K, R, D, f⟩ := c
      dsimp only at e0 e1 e2 e3 hM
      clear hc
      cases hr : rtB K R D f
      · have HR := hide hr
        clear hr
        go_wp2_with fail
        refine wp_region_grow (by kernel_rfl) (by kernel_rfl) ?_
        repeat (
          with_reducible refine wpQuiet_step ?_
          intro K hK
          first
            | ((with_reducible refine quiet_offT rfl ?_ (hK _ ?_)); focus (refine ⟨_, rfl, ?_⟩; with_reducible rfl))
            | ((with_reducible refine quiet_offF rfl ?_ (hK _ ?_)); focus (refine ⟨_, rfl, ?_⟩; with_reducible rfl))
            | ((with_reducible refine quiet_offN rfl ?_ (hK _ ?_)); focus (exact rfl))
            | ((first | with_reducible refine quiet_free rfl ?_ | ((with_reducible refine quiet_on rfl ?_ ?_); focus (refine ⟨_, rfl, ?_⟩; with_reducible rfl)))
               apply Exists.intro
               refine ⟨fun W hW => ?_, hK _ ?_⟩
               focus (have q0 := Grow.cell hW e0; have q1 := Grow.cell hW e1; have q2 := Grow.cell hW e2; have q3 := Grow.cell hW e3; go_simp; first | done | with_reducible rfl | (go_at_call 9; (first | with_reducible exact grown_call hW (right_is _ hM HR.out) | with_reducible exact grown_same hW (right_is _ hM HR.out))) | (go_at_call 10; (first | with_reducible exact grown_call hW (rright_is _ HR.out) | with_reducible exact grown_same hW (rright_is _ HR.out)))))
          clear hK K
          simp only [Act.put, List.setIfInBounds_toArray, List.set_cons_zero, List.set_cons_succ])
        with_reducible refine wpQuiet_nil ?_
        intro w1 c1
        clear e0 e1 e2 e3
        go_wp2
        go_roundw
        case rel => exact ⟨k + 1, by omega, by go_num, cc.trans c1⟩
        case measure => simp [intOf]; omega
      · have HR := hide hr
        clear hr
        go_wp2_with fail
        refine wp_region_grow (by kernel_rfl) (by kernel_rfl) ?_
        repeat (
          with_reducible refine wpQuiet_step ?_
          intro K hK
          first
            | ((with_reducible refine quiet_offT rfl ?_ (hK _ ?_)); focus (refine ⟨_, rfl, ?_⟩; with_reducible rfl))
            | ((with_reducible refine quiet_offF rfl ?_ (hK _ ?_)); focus (refine ⟨_, rfl, ?_⟩; with_reducible rfl))
            | ((with_reducible refine quiet_offN rfl ?_ (hK _ ?_)); focus (exact rfl))
            | ((first | with_reducible refine quiet_free rfl ?_ | ((with_reducible refine quiet_on rfl ?_ ?_); focus (refine ⟨_, rfl, ?_⟩; with_reducible rfl)))
               apply Exists.intro
               refine ⟨fun W hW => ?_, hK _ ?_⟩
               focus (have q0 := Grow.cell hW e0; have q1 := Grow.cell hW e1; have q2 := Grow.cell hW e2; have q3 := Grow.cell hW e3; go_simp; first | done | with_reducible rfl | (go_at_call 9; (first | with_reducible exact grown_call hW (right_is _ hM HR.out) | with_reducible exact grown_same hW (right_is _ hM HR.out))) | (go_at_call 10; (first | with_reducible exact grown_call hW (rright_is _ HR.out) | with_reducible exact grown_same hW (rright_is _ HR.out)))))
          clear hK K
          simp only [Act.put, List.setIfInBounds_toArray, List.set_cons_zero, List.set_cons_succ])
        with_reducible refine wpQuiet_nil ?_
        intro w1 c1
        clear e0 e1 e2 e3
        go_wp2
        go_roundw
        case rel => exact ⟨k + 1, by omega, by go_num, cc.trans c1⟩
        case measure => simp [intOf]; omega
    · obtain rfl : k = len := by omega
      go_wp2_with fail
      have HLL := hide (show cs.length ≤ 100 by rw [HL.out]; exact hl)
      refine (new_yes _ (H.out.chg cc (fun _ _ => id)) hl HX.out).mono ?_
      rintro e w1 ⟨g, v, rfl, ht, c1⟩
      replace cc := cc.trans c1
      have HT := hide ht
      clear c1 ht
      go_wp2_with fail
      refine (rnew_any _ _ _ _ _ (H.out.chg cc (fun _ _ => id)) hl).mono ?_
      rw [HX.out]
      rintro e w2 ⟨rfl, c2⟩
      replace cc := cc.trans c2
      replace HT := hide (HT.out.grow c2)
      clear c2
      go_wp2_with fail
      refine (of_out HT.out (show n < 1 ∨ (cs.length : Int) < n by rw [HL.out]; omega)).mono ?_
      rintro e w3 ⟨rfl, c3⟩
      replace cc := cc.trans c3
      replace HT := hide (HT.out.grow c3)
      clear c3
      have hx := Blk.new w3 26 [.int .i64 0, .int .i64 0, .int .i64 0, .bool false]
      replace cc := cc.alloc (.cells [.int .i64 0, .int .i64 0, .int .i64 0, .bool false].toArray 26)
      replace HT := hide (HT.out.grow (Grow.box w3 (.cells [.int .i64 0, .int .i64 0, .int .i64 0, .bool false].toArray 26)))
      obtain ⟨x0, x1, x2, x3⟩ := hx.cell4
      clear hx
      have d1 : decide (n ≥ 1) = false := by simp; omega
      have d2 : decide (n ≤ (k : Int)) = true := by simp; omega
      go_wp2_with fail
      have kR := KR.out
      clear d1 d2
      refine wp_region_grow (by kernel_rfl) (by kernel_rfl) ?_
      repeat (
        with_reducible refine wpQuiet_step ?_
        intro K hK
        first
          | ((with_reducible refine quiet_offT rfl ?_ (hK _ ?_)); focus (refine ⟨_, rfl, ?_⟩; with_reducible rfl))
          | ((with_reducible refine quiet_offF rfl ?_ (hK _ ?_)); focus (refine ⟨_, rfl, ?_⟩; with_reducible rfl))
          | ((with_reducible refine quiet_offN rfl ?_ (hK _ ?_)); focus (exact rfl))
          | ((first | with_reducible refine quiet_free rfl ?_ | ((with_reducible refine quiet_on rfl ?_ ?_); focus (refine ⟨_, rfl, ?_⟩; with_reducible rfl)))
             apply Exists.intro
             refine ⟨fun W hW => ?_, hK _ ?_⟩
             focus (have q0 := Grow.cell hW x0; have q1 := Grow.cell hW x1; have q2 := Grow.cell hW x2; have q3 := Grow.cell hW x3; go_simp; first | done | with_reducible rfl | (go_at_call 14; (first | with_reducible exact grown_call hW (len_is (HT.out.grow hW) HL.out) | with_reducible exact grown_same hW (len_is (HT.out.grow hW) HL.out)))))
        clear hK K
        simp only [Act.put, List.setIfInBounds_toArray, List.set_cons_zero, List.set_cons_succ])
      with_reducible refine wpQuiet_nil ?_
      intro w5 c5
      clear x0 x1 x2 x3 kR
      replace cc := cc.trans c5
      replace HT := hide (HT.out.grow c5)
      clear c5
      go_wp2_with fail
      refine (shape_is HT.out HLL.out HA.out HR.out HD.out HE.out).mono ?_
      rintro e w6 ⟨rfl, c6⟩
      replace cc := cc.trans c6
      replace HT := hide (HT.out.grow c6)
      clear c6
      go_wp2_with fail
      refine (rshape_is (H.out.chg cc (fun _ _ => id)) HA.out HR.out HD.out HE.out).mono ?_
      rintro e w7 ⟨rfl, c7⟩
      replace cc := cc.trans c7
      replace HT := hide (HT.out.grow c7)
      clear c7
      go_wp2_with fail
      refine (words_is HT.out HLL.out HA.out HV.out HE.out).mono ?_
      rintro e w8 ⟨rfl, c8⟩
      replace cc := cc.trans c8
      replace HT := hide (HT.out.grow c8)
      clear c8
      go_wp2_with fail
      refine (holds_is HT.out HLL.out HB.out).mono ?_
      rintro e w9 ⟨rfl, c9⟩
      replace cc := cc.trans c9
      clear c9
      go_wp2_with fail
      refine (rholds_is (H.out.chg cc (fun _ _ => id)) HA.out HB.out).mono ?_
      rintro e w' ⟨rfl, rfl⟩
      go_wp2
      go_ret
      exact ⟨rfl, cc.below (fun _ _ h => h) (Nat.le_refl _)⟩
set_option maxHeartbeats 4000000 in
set_option maxRecDepth 100000 in
theorem walk_high (a : Option Addr) (len cap : Nat) (cs : List Cl) (n l fd : Int) (w : World) (h : IsCls w a len cap cs) (hl : len ≤ 100) (hX : newX cs = 0) (hn : (len : Int) < n) :
    Calls Try.prog 3 #[.slice a len cap, .int .i64 n, .int .i64 l, .int .i64 fd] w fun e w' => e = .returned (.bool true) ∧ Below w.heap.size w w' := by
  have HX := hide hX
  have HA := hide (new_zero hX).1
  have ho : clAt cs n = none := clAt_out (by rw [h.len]; omega)
  have HE := hide (show shX (clAt cs n) l = 4 by rw [ho]; rfl)
  have HR := hide (show shR (clAt cs n) l = 0 by rw [ho]; rfl)
  have HD := hide (show shD (clAt cs n) l = 0 by rw [ho]; rfl)
  have HV := hide (show woV (clAt cs n) l = 0 by rw [ho]; rfl)
  have HB := hide (show hoB (clAt cs n) fd = false by rw [ho]; rfl)
  have KR := hide (show ∀ W : World, (Op.equalIn 10000 26 (.agg #[.int .i64 0, .int .i64 0, .int .i64 0, .bool false]) (.agg #[.int .i64 0, .int .i64 0, .int .i64 0, .bool false])).run Try.prog W = .ok true W from fun W => by
    rw [sameC, decide_eq_true ⟨rfl, rfl, rfl, rfl⟩])
  clear hX ho
  have H := hide h
  have HL := hide h.len
  have hl' : decide ((len : Int) > 100) = false := by simp; omega
  clear h
  go_enter Try.func3, Try.ntmps3
  go_wp2_with fail
  refine (awake_any _).mono ?_
  rintro e wa ⟨rfl, ca⟩
  go_wp2
  clear hl'
  go_loopw [34] (fun i wr => ∃ k : Nat, k ≤ len ∧ i = .int .i64 k ∧ Grow w wr) (fun i _ => len - (intOf i).toNat)
  case atStart => exact ⟨0, Nat.zero_le _, rfl, ca⟩
  case round =>
    clear ca
    obtain ⟨k, hk, rfl, cc⟩ := hrel
    by_cases hlt : k < len
    · obtain ⟨b, off, c, rfl, hc, ⟨e0, e1, e2, e3⟩, hM⟩ := (H.out.chg cc (fun i hi => id)).at_ hlt
      obtain ⟨K, R, D, f⟩ := c
      dsimp only at e0 e1 e2 e3 hM
      clear hc
      cases hr : rtB K R D f
      · have HR := hide hr
        clear hr
        go_wp2_with fail
        refine wp_region_grow (by kernel_rfl) (by kernel_rfl) ?_
        repeat (
          with_reducible refine wpQuiet_step ?_
          intro K hK
          first
            | ((with_reducible refine quiet_offT rfl ?_ (hK _ ?_)); focus (refine ⟨_, rfl, ?_⟩; with_reducible rfl))
            | ((with_reducible refine quiet_offF rfl ?_ (hK _ ?_)); focus (refine ⟨_, rfl, ?_⟩; with_reducible rfl))
            | ((with_reducible refine quiet_offN rfl ?_ (hK _ ?_)); focus (exact rfl))
            | ((first | with_reducible refine quiet_free rfl ?_ | ((with_reducible refine quiet_on rfl ?_ ?_); focus (refine ⟨_, rfl, ?_⟩; with_reducible rfl)))
               apply Exists.intro
               refine ⟨fun W hW => ?_, hK _ ?_⟩
               focus (have q0 := Grow.cell hW e0; have q1 := Grow.cell hW e1; have q2 := Grow.cell hW e2; have q3 := Grow.cell hW e3; go_simp; first | done | with_reducible rfl | (go_at_call 9; (first | with_reducible exact grown_call hW (right_is _ hM HR.out) | with_reducible exact grown_same hW (right_is _ hM HR.out))) | (go_at_call 10; (first | with_reducible exact grown_call hW (rright_is _ HR.out) | with_reducible exact grown_same hW (rright_is _ HR.out)))))
          clear hK K
          simp only [Act.put, List.setIfInBounds_toArray, List.set_cons_zero, List.set_cons_succ])
        with_reducible refine wpQuiet_nil ?_
        intro w1 c1
        clear e0 e1 e2 e3
        go_wp2
        go_roundw
        case rel => exact ⟨k + 1, by omega, by go_num, cc.trans c1⟩
        case measure => simp [intOf]; omega
      · have HR := hide hr
        clear hr
        go_wp2_with fail
        refine wp_region_grow (by kernel_rfl) (by kernel_rfl) ?_
        repeat (
          with_reducible refine wpQuiet_step ?_
          intro K hK
          first
            | ((with_reducible refine quiet_offT rfl ?_ (hK _ ?_)); focus (refine ⟨_, rfl, ?_⟩; with_reducible rfl))
            | ((with_reducible refine quiet_offF rfl ?_ (hK _ ?_)); focus (refine ⟨_, rfl, ?_⟩; with_reducible rfl))
            | ((with_reducible refine quiet_offN rfl ?_ (hK _ ?_)); focus (exact rfl))
            | ((first | with_reducible refine quiet_free rfl ?_ | ((with_reducible refine quiet_on rfl ?_ ?_); focus (refine ⟨_, rfl, ?_⟩; with_reducible rfl)))
               apply Exists.intro
               refine ⟨fun W hW => ?_, hK _ ?_⟩
               focus (have q0 := Grow.cell hW e0; have q1 := Grow.cell hW e1; have q2 := Grow.cell hW e2; have q3 := Grow.cell hW e3; go_simp; first | done | with_reducible rfl | (go_at_call 9; (first | with_reducible exact grown_call hW (right_is _ hM HR.out) | with_reducible exact grown_same hW (right_is _ hM HR.out))) | (go_at_call 10; (first | with_reducible exact grown_call hW (rright_is _ HR.out) | with_reducible exact grown_same hW (rright_is _ HR.out)))))
          clear hK K
          simp only [Act.put, List.setIfInBounds_toArray, List.set_cons_zero, List.set_cons_succ])
        with_reducible refine wpQuiet_nil ?_
        intro w1 c1
        clear e0 e1 e2 e3
        go_wp2
        go_roundw
        case rel => exact ⟨k + 1, by omega, by go_num, cc.trans c1⟩
        case measure => simp [intOf]; omega
    · obtain rfl : k = len := by omega
      go_wp2_with fail
      have HLL := hide (show cs.length ≤ 100 by rw [HL.out]; exact hl)
      refine (new_yes _ (H.out.chg cc (fun _ _ => id)) hl HX.out).mono ?_
      rintro e w1 ⟨g, v, rfl, ht, c1⟩
      replace cc := cc.trans c1
      have HT := hide ht
      clear c1 ht
      go_wp2_with fail
      refine (rnew_any _ _ _ _ _ (H.out.chg cc (fun _ _ => id)) hl).mono ?_
      rw [HX.out]
      rintro e w2 ⟨rfl, c2⟩
      replace cc := cc.trans c2
      replace HT := hide (HT.out.grow c2)
      clear c2
      go_wp2_with fail
      refine (of_out HT.out (show n < 1 ∨ (cs.length : Int) < n by rw [HL.out]; omega)).mono ?_
      rintro e w3 ⟨rfl, c3⟩
      replace cc := cc.trans c3
      replace HT := hide (HT.out.grow c3)
      clear c3
      have hx := Blk.new w3 26 [.int .i64 0, .int .i64 0, .int .i64 0, .bool false]
      replace cc := cc.alloc (.cells [.int .i64 0, .int .i64 0, .int .i64 0, .bool false].toArray 26)
      replace HT := hide (HT.out.grow (Grow.box w3 (.cells [.int .i64 0, .int .i64 0, .int .i64 0, .bool false].toArray 26)))
      obtain ⟨x0, x1, x2, x3⟩ := hx.cell4
      clear hx
      have d1 : decide (n ≥ 1) = true := by simp; omega
      have d2 : decide (n ≤ (k : Int)) = false := by simp; omega
      go_wp2_with fail
      have kR := KR.out
      clear d1 d2
      refine wp_region_grow (by kernel_rfl) (by kernel_rfl) ?_
      repeat (
        with_reducible refine wpQuiet_step ?_
        intro K hK
        first
          | ((with_reducible refine quiet_offT rfl ?_ (hK _ ?_)); focus (refine ⟨_, rfl, ?_⟩; with_reducible rfl))
          | ((with_reducible refine quiet_offF rfl ?_ (hK _ ?_)); focus (refine ⟨_, rfl, ?_⟩; with_reducible rfl))
          | ((with_reducible refine quiet_offN rfl ?_ (hK _ ?_)); focus (exact rfl))
          | ((first | with_reducible refine quiet_free rfl ?_ | ((with_reducible refine quiet_on rfl ?_ ?_); focus (refine ⟨_, rfl, ?_⟩; with_reducible rfl)))
             apply Exists.intro
             refine ⟨fun W hW => ?_, hK _ ?_⟩
             focus (have q0 := Grow.cell hW x0; have q1 := Grow.cell hW x1; have q2 := Grow.cell hW x2; have q3 := Grow.cell hW x3; go_simp; first | done | with_reducible rfl | (go_at_call 14; (first | with_reducible exact grown_call hW (len_is (HT.out.grow hW) HL.out) | with_reducible exact grown_same hW (len_is (HT.out.grow hW) HL.out)))))
        clear hK K
        simp only [Act.put, List.setIfInBounds_toArray, List.set_cons_zero, List.set_cons_succ])
      with_reducible refine wpQuiet_nil ?_
      intro w5 c5
      clear x0 x1 x2 x3 kR
      replace cc := cc.trans c5
      replace HT := hide (HT.out.grow c5)
      clear c5
      go_wp2_with fail
      refine (shape_is HT.out HLL.out HA.out HR.out HD.out HE.out).mono ?_
      rintro e w6 ⟨rfl, c6⟩
      replace cc := cc.trans c6
      replace HT := hide (HT.out.grow c6)
      clear c6
      go_wp2_with fail
      refine (rshape_is (H.out.chg cc (fun _ _ => id)) HA.out HR.out HD.out HE.out).mono ?_
      rintro e w7 ⟨rfl, c7⟩
      replace cc := cc.trans c7
      replace HT := hide (HT.out.grow c7)
      clear c7
      go_wp2_with fail
      refine (words_is HT.out HLL.out HA.out HV.out HE.out).mono ?_
      rintro e w8 ⟨rfl, c8⟩
      replace cc := cc.trans c8
      replace HT := hide (HT.out.grow c8)
      clear c8
      go_wp2_with fail
      refine (holds_is HT.out HLL.out HB.out).mono ?_
      rintro e w9 ⟨rfl, c9⟩
      replace cc := cc.trans c9
      clear c9
      go_wp2_with fail
      refine (rholds_is (H.out.chg cc (fun _ _ => id)) HA.out HB.out).mono ?_
      rintro e w' ⟨rfl, rfl⟩
      go_wp2
      go_ret
      exact ⟨rfl, cc.below (fun _ _ h => h) (Nat.le_refl _)⟩
theorem walk (a : Option Addr) (len cap : Nat) (cs : List Cl) (n l fd : Int) (w : World) (h : IsCls w a len cap cs) (wn : (Lit.int .i64 n).wf = true) (wl : (Lit.int .i64 l).wf = true) (wf : (Lit.int .i64 fd).wf = true) :
    Calls Try.prog 3 #[.slice a len cap, .int .i64 n, .int .i64 l, .int .i64 fd] w fun e w' => e = .returned (.bool true) ∧ Below w.heap.size w w' := by
  by_cases hl : len ≤ 100
  · by_cases hX : newX cs = 0
    · cases ho : clAt cs n with
      | none =>
        have := clAt_none ho
        rw [h.len] at this
        by_cases h1 : n < 1
        · exact walk_low a len cap cs n l fd w h hl hX h1
        · exact walk_high a len cap cs n l fd w h hl hX (by omega)
      | some c =>
        have hb := sh_bd (o := clAt cs n) (fun c hc => clAt_rt (new_zero hX).1 hc) l
        obtain ⟨k, rfl, hkl, hc⟩ := clAt_some ho
        obtain ⟨K, R, D, f⟩ := c
        by_cases hE : shX (clAt cs ((k : Int) + 1)) l = 0
        · exact walk_there a len cap cs k K R D f l fd _ _ _ w h hl hX (by rw [← h.len]; exact hkl) hc hE rfl rfl rfl hb.1 hb.2.1 hb.2.2.1 hb.2.2.2.1
        · exact walk_err a len cap cs k K R D f l fd _ _ w h hl hX (by rw [← h.len]; exact hkl) hc rfl hE rfl
    · exact walk_no a len cap cs n l fd w h hl hX
  · exact walk_long a len cap n l fd w (by omega)

theorem own : ownKnob Try.prog.godebug = none := by kernel_rfl
theorem laidOut : laidOutB Try.prog = true := by kernel_rfl

set_option maxRecDepth 100000 in
theorem lifted (os : Os) (started : os.Started) (H : Type) (enc : TypeId × Value → H) :
    ReturnsInHanded {} Try.checked os 3 .any (Rows.classTellsSpec.pre6 enc Try.prog Try.f3 Rows.classTellsRow.domain false) (Rows.classTellsSpec.post enc Try.prog Try.f3 false true false false) := by
  refine returnsInHanded_of_change (C := Try.checked) own started (by kernel_rfl) Try.func3
    (ChangeSpec.witness6 (enc := enc) (C := Try.checked) false ⟨#[], #[.slice none 0 0, .int .i64 0, .int .i64 0, .int .i64 0], []⟩ 8 (by kernel_rfl) (by kernel_rfl) (by kernel_rfl) (by kernel_rfl)) ?_
  intro W base args ds gs before hval0 hW hcnd _
  have hval : ∀ (j : Nat) t v, Try.f3.params[j]? = some t → args[j]? = some v → Value.okWide Try.prog W .any base t v := hval0
  have hW' := hW
  obtain ⟨p, q, hA0, hV, rfl, hfz, hnd⟩ := hW
  have hA : DataW.TrodAll enc Try.prog W 0 (fun _ => true) true Try.f3.params.toList args.toList ds p := hA0
  rw [Try.params3] at hA hval
  obtain ⟨v0, vs0, d0, ds0, p0, q0, hargs, rfl, rfl, h0, r0⟩ := trodAll_cons hA
  obtain ⟨v1, vs1, d1, ds1, p1, q1, rfl, rfl, rfl, h1, r1⟩ := trodAll_cons r0
  obtain ⟨v2, vs2, d2, ds2, p2, q2, rfl, rfl, rfl, h2, r2⟩ := trodAll_cons r1
  obtain ⟨v3, vs3, d3, ds3, p3, q3, rfl, rfl, rfl, h3, r3⟩ := trodAll_cons r2
  obtain ⟨rfl, rfl, rfl⟩ := trodAll_nil r3
  obtain rfl : args = #[v0, v1, v2, v3] := by cases args; simp_all
  obtain ⟨rfl, rfl⟩ := trodVars_none hV
  have k0 := h0
  have lt0 : ∀ x ∈ p0, x.block < W.heap.size := by obtain ⟨m, hm⟩ := k0; exact DataW.trod_lt m _ _ _ hm
  obtain ⟨a0, len0, cap0, cs0, rfl, w0⟩ := open_cls (hval 0 22 v0 rfl rfl) h0
  obtain ⟨a1, rfl, rfl, rfl, w1⟩ := open_int Try.underlying3 (hval 1 3 v1 rfl rfl) h1
  obtain ⟨a2, rfl, rfl, rfl, w2⟩ := open_int Try.underlying3 (hval 2 3 v2 rfl rfl) h2
  obtain ⟨a3, rfl, rfl, rfl, w3⟩ := open_int Try.underlying3 (hval 3 3 v3 rfl rfl) h3
  clear hA0 hval0
  refine (walk a0 len0 cap0 cs0 a1 a2 a3 W w0 w1 w2 w3).mono fun e W' ⟨he, bel⟩ => ?_
  subst he
  exact ⟨_, rfl, _, _, _, [], _, [], hW', trodAll_mk1 (shut_bool Try.underlying4 _), (trodAll_cons_mk (Below.trod laidOut (by kernel_rfl) (of_decide_eq_true (by kernel_rfl)) k0 bel lt0) (trodAll_cons_mk (shut_int Try.underlying3 w1) (trodAll_cons_mk (shut_int Try.underlying3 w2) (trodAll_cons_mk (shut_int Try.underlying3 w3) trodAll_mk0)))), rfl, bel.frame _, fun h => by cases h⟩

theorem over : Rows.classTellsRow.holds Try.pinned (OpenSpec.ofChange Rows.classTellsSpec) :=
  OpenClaim.holds_of_wide 3 Try.f3 rfl rfl rfl rfl rfl rfl rfl ⟨rfl, rfl, rfl, rfl, rfl⟩ rfl rfl rfl rfl rfl (by kernel_rfl) Try.func3 (by kernel_rfl)
    (of_decide_eq_true (by kernel_rfl)) (by unfold Func.isWrapper; first | (rw [if_pos (by decide +kernel)]; kernel_rfl) | (rw [if_neg (by decide +kernel)]; exact ⟨rfl, rfl⟩))
    (fun os started H enc _ => lifted os started H enc)

/-- The statement. -/
theorem proved : Rows.ClassTellsSaid := over
#print axioms proved
end Go.Proofs.Ythgijkikaboegaa.classTells


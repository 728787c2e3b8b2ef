/- For all classes, lengths and numbers ClassWords answers true: no object takes more than MaxObject words, nor fewer than two, and a longer array takes as many more. Conditions: none. -/
import Derived.Test.YthgijkikaboegaaAwake
import Derived.ShutString
namespace Go.Proofs.Ythgijkikaboegaa.classWords
open Go.ChangeShapes Go.WideShapes Go.ChangeAt Go.RowKit
set_option linter.unusedVariables false

set_option maxHeartbeats 1000000 in
theorem walk_long (a : Option Addr) (len cap : Nat) (n l : Int) (w : World) (hl : 100 < len) :
    Calls Try.prog 4 #[.slice a len cap, .int .i64 n, .int .i64 l] w fun e w' => e = .returned (.bool true) ∧ Below w.heap.size w w' := by
  go_enter Try.func4, Try.ntmps4
  go_wp2_with fail
  refine (awake_any _).mono ?_
  rintro e wa ⟨rfl, ca⟩
  go_wp2_with fail
  refine (awake_any _).mono ?_
  rintro e wb ⟨rfl, cb⟩
  go_wp2
  go_ret
  exact ⟨rfl, (ca.trans cb).below (fun _ _ h => h) (Nat.le_refl _)⟩
set_option maxHeartbeats 1000000 in
theorem walk_no (a : Option Addr) (len cap : Nat) (cs : List Cl) (n l : Int) (w : World) (h : IsCls w a len cap cs) (hl : len ≤ 100) (hX : newX cs ≠ 0) :
    Calls Try.prog 4 #[.slice a len cap, .int .i64 n, .int .i64 l] w fun e w' => e = .returned (.bool true) ∧ Below w.heap.size w w' := by
  obtain ⟨X, hX'⟩ : ∃ X, newX cs = X := ⟨_, rfl⟩
  rw [hX'] at hX
  have HX := hide hX'
  have H0 := hide hX
  have hx' : (X != 0) = true := by simpa using hX
  clear hX hX'
  have H := hide h
  clear h
  have hl' : decide ((len : Int) > 100) = false := by simp; omega
  go_enter Try.func4, Try.ntmps4
  go_wp2_with fail
  refine (awake_any _).mono ?_
  rintro e wa ⟨rfl, ca⟩
  go_wp2_with fail
  refine (new_no _ (H.out.chg ca (fun _ _ => id)) hl HX.out H0.out).mono ?_
  rintro e w1 ⟨rfl, c1⟩
  go_wp2
  go_ret
  exact ⟨rfl, (ca.trans c1).below (fun _ _ h => h) (Nat.le_refl _)⟩
set_option maxHeartbeats 1000000 in
theorem walk_none (a : Option Addr) (len cap : Nat) (cs : List Cl) (n l : Int) (w : World) (h : IsCls w a len cap cs) (hl : len ≤ 100) (hX : newX cs = 0) (hE : shX (clAt cs n) l ≠ 0) :
    Calls Try.prog 4 #[.slice a len cap, .int .i64 n, .int .i64 l] w fun e w' => e = .returned (.bool true) ∧ Below w.heap.size w w' := by
  have HL := hide (show cs.length ≤ 100 by rw [h.len]; exact hl)
  have HA := hide (new_zero hX).1
  have HX := hide hX
  obtain ⟨X, hX'⟩ : ∃ X, shX (clAt cs n) l = X := ⟨_, rfl⟩
  rw [hX'] at hE
  have HE := hide hX'
  have HV := hide (show woV (clAt cs n) l = 0 by unfold woV; rw [hX', if_neg hE])
  have hx' : (X != 0) = true := by simpa using hE
  clear hX hX' hE
  have H := hide h
  clear h
  have hl' : decide ((len : Int) > 100) = false := by simp; omega
  go_enter Try.func4, Try.ntmps4
  go_wp2_with fail
  refine (awake_any _).mono ?_
  rintro e wa ⟨rfl, ca⟩
  go_wp2_with fail
  refine (new_yes _ (H.out.chg ca (fun _ _ => id)) hl HX.out).mono ?_
  rintro e w1 ⟨g, v, rfl, ht, c1⟩
  have cc := ca.trans c1
  have HT := hide ht
  clear ht H ca c1
  go_wp2_with fail
  refine (words_is (V := 0) (X := X) HT.out HL.out HA.out HV.out HE.out).mono ?_
  rintro e w2 ⟨rfl, c2⟩
  replace cc := cc.trans c2
  replace HT := hide (HT.out.grow c2)
  clear c2
  go_wp2
  go_ret
  exact ⟨rfl, cc.below (fun _ _ h => h) (Nat.le_refl _)⟩
set_option maxHeartbeats 2000000 in
/-- A class that is no array. -/
theorem walk_plain (a : Option Addr) (len cap : Nat) (cs : List Cl) (k : Nat) (K R D : Int) (f : Bool) (w : World) (h : IsCls w a len cap cs) (hl : len ≤ 100) (hX : newX cs = 0) (hc : cs[k]? = some ⟨K, R, D, f⟩) (h2 : K ≠ 2) :
    Calls Try.prog 4 #[.slice a len cap, .int .i64 (k + 1), .int .i64 0] w fun e w' => e = .returned (.bool true) ∧ Below w.heap.size w w' := by
  have HL := hide (show cs.length ≤ 100 by rw [h.len]; exact hl)
  have HA := hide (new_zero hX).1
  have HX := hide hX
  have HC := hide hc
  have ho := clAt_at hc
  have hb := rt_bd (all_rt HA.out hc)
  dsimp only at hb
  obtain ⟨b1, b2, b3, b4, b5, -, -⟩ := hb
  have e0 : shX (some ⟨K, R, D, f⟩) 0 = 0 := by simp [shX]
  have HE := hide (show shX (clAt cs ((k : Int) + 1)) 0 = 0 by rw [ho, e0])
  have HR := hide (show shR (clAt cs ((k : Int) + 1)) 0 = R by rw [ho]; simp [shR, e0])
  have HD := hide (show shD (clAt cs ((k : Int) + 1)) 0 = D by rw [ho]; simp [shD, e0])
  have HV := hide (show woV (clAt cs ((k : Int) + 1)) 0 = 2 + R + D by unfold woV; rw [HE.out, if_pos rfl, HR.out, HD.out])
  have HE2 := hide (show shX (clAt cs ((k : Int) + 1)) (0 + 1) = 1 by rw [ho]; simp [shX, h2])
  have HV2 := hide (show woV (clAt cs ((k : Int) + 1)) (0 + 1) = 0 by unfold woV; rw [HE2.out, if_neg (by decide)])
  have h2' : (K != 2) = true := by simpa using h2
  clear hX hc ho e0 h2
  have H := hide h
  clear h
  have hl' : decide ((len : Int) > 100) = false := by simp; omega
  go_enter Try.func4, Try.ntmps4
  go_wp2_with fail
  refine (awake_any _).mono ?_
  rintro e wa ⟨rfl, ca⟩
  go_wp2_with fail
  refine (new_yes _ (H.out.chg ca (fun _ _ => id)) hl HX.out).mono ?_
  rintro e w1 ⟨g, v, rfl, ht, c1⟩
  have cc := ca.trans c1
  have HT := hide ht
  clear ht H ca c1
  go_wp2_with fail
  refine (words_is (V := (2 + R + D)) (X := 0) HT.out HL.out HA.out HV.out HE.out).mono ?_
  rintro e w2 ⟨rfl, c2⟩
  replace cc := cc.trans c2
  replace HT := hide (HT.out.grow c2)
  clear c2
  go_wp2_with fail
  refine (shape_any HT.out HL.out HA.out _ _).mono ?_
  rw [HE.out, HR.out, HD.out]
  rintro e w3 ⟨rfl, c3⟩
  replace cc := cc.trans c3
  replace HT := hide (HT.out.grow c3)
  clear c3
  go_wp2_with fail
  refine (of_in HT.out HL.out HC.out rfl).mono ?_
  rintro e w4 ⟨rfl, c4⟩
  replace cc := cc.trans c4
  replace HT := hide (HT.out.grow c4)
  clear c4
  have hx := Blk.new w4 26 [.int .i64 K, .int .i64 R, .int .i64 D, .bool f]
  replace cc := cc.alloc (.cells [.int .i64 K, .int .i64 R, .int .i64 D, .bool f].toArray 26)
  replace HT := hide (HT.out.grow (Grow.box w4 (.cells [.int .i64 K, .int .i64 R, .int .i64 D, .bool f].toArray 26)))
  go_wp2_with fail
  generalize w4.alloc (.cells #[.int .i64 K, .int .i64 R, .int .i64 D, .bool f] 26) = wx at *
  generalize w4.heap.size = x at *
  refine (words_is HT.out HL.out HA.out HV2.out HE2.out).mono ?_
  rintro e w5 ⟨rfl, c5⟩
  replace cc := cc.trans c5
  replace hx := hx.chg c5 id
  obtain ⟨x0, x1, x2, x3⟩ := hx.cell4
  clear c5 hx
  go_wp2
  go_ret
  exact ⟨rfl, cc.below (fun _ _ h => h) (Nat.le_refl _)⟩
set_option maxHeartbeats 2000000 in
/-- An array. -/
theorem walk_array (a : Option Addr) (len cap : Nat) (cs : List Cl) (k : Nat) (l : Int) (f : Bool) (w : World) (h : IsCls w a len cap cs) (hl : len ≤ 100) (hX : newX cs = 0) (hc : cs[k]? = some ⟨2, 0, 0, f⟩) (h0 : 0 ≤ l) (h1 : l ≤ 30) :
    Calls Try.prog 4 #[.slice a len cap, .int .i64 (k + 1), .int .i64 l] w fun e w' => e = .returned (.bool true) ∧ Below w.heap.size w w' := by
  have HL := hide (show cs.length ≤ 100 by rw [h.len]; exact hl)
  have HA := hide (new_zero hX).1
  have HX := hide hX
  have HC := hide hc
  have ho := clAt_at hc
  have e0 : shX (some ⟨2, 0, 0, f⟩) l = 0 := by simp [shX]; omega
  have HE := hide (show shX (clAt cs ((k : Int) + 1)) l = 0 by rw [ho, e0])
  have HR := hide (show shR (clAt cs ((k : Int) + 1)) l = l by rw [ho]; simp [shR, e0])
  have HD := hide (show shD (clAt cs ((k : Int) + 1)) l = 0 by rw [ho]; simp [shD, e0])
  have HV := hide (show woV (clAt cs ((k : Int) + 1)) l = 2 + l by unfold woV; rw [HE.out, if_pos rfl, HR.out, HD.out, Int.add_zero])
  by_cases h29 : l = 30
  · subst h29
    have HE2 := hide (show shX (clAt cs ((k : Int) + 1)) (30 + 1) = 8 by rw [ho]; simp [shX])
    have HV2 := hide (show woV (clAt cs ((k : Int) + 1)) (30 + 1) = 0 by unfold woV; rw [HE2.out, if_neg (by decide)])
    clear hX hc ho e0
    have H := hide h
    clear h
    have hl' : decide ((len : Int) > 100) = false := by simp; omega
    go_enter Try.func4, Try.ntmps4
    go_wp2_with fail
    refine (awake_any _).mono ?_
    rintro e wa ⟨rfl, ca⟩
    go_wp2_with fail
    refine (new_yes _ (H.out.chg ca (fun _ _ => id)) hl HX.out).mono ?_
    rintro e w1 ⟨g, v, rfl, ht, c1⟩
    have cc := ca.trans c1
    have HT := hide ht
    clear ht H ca c1
    go_wp2_with fail
    refine (words_is (V := (2 + 30)) (X := 0) HT.out HL.out HA.out HV.out HE.out).mono ?_
    rintro e w2 ⟨rfl, c2⟩
    replace cc := cc.trans c2
    replace HT := hide (HT.out.grow c2)
    clear c2
    go_wp2_with fail
    refine (shape_any HT.out HL.out HA.out _ _).mono ?_
    rw [HE.out, HR.out, HD.out]
    rintro e w3 ⟨rfl, c3⟩
    replace cc := cc.trans c3
    replace HT := hide (HT.out.grow c3)
    clear c3
    go_wp2_with fail
    refine (of_in HT.out HL.out HC.out rfl).mono ?_
    rintro e w4 ⟨rfl, c4⟩
    replace cc := cc.trans c4
    replace HT := hide (HT.out.grow c4)
    clear c4
    have hx := Blk.new w4 26 [.int .i64 2, .int .i64 0, .int .i64 0, .bool f]
    replace cc := cc.alloc (.cells [.int .i64 2, .int .i64 0, .int .i64 0, .bool f].toArray 26)
    replace HT := hide (HT.out.grow (Grow.box w4 (.cells [.int .i64 2, .int .i64 0, .int .i64 0, .bool f].toArray 26)))
    go_wp2_with fail
    generalize w4.alloc (.cells #[.int .i64 2, .int .i64 0, .int .i64 0, .bool f] 26) = wx at *
    generalize w4.heap.size = x at *
    refine (words_is HT.out HL.out HA.out HV2.out HE2.out).mono ?_
    rintro e w5 ⟨rfl, c5⟩
    replace cc := cc.trans c5
    replace hx := hx.chg c5 id
    obtain ⟨x0, x1, x2, x3⟩ := hx.cell4
    clear c5 hx
    go_wp2
    go_ret
    exact ⟨rfl, cc.below (fun _ _ h => h) (Nat.le_refl _)⟩
  · have e1 : shX (some ⟨2, 0, 0, f⟩) (l + 1) = 0 := by simp [shX]; omega
    have HE2 := hide (show shX (clAt cs ((k : Int) + 1)) (l + 1) = 0 by rw [ho, e1])
    have HV2 := hide (show woV (clAt cs ((k : Int) + 1)) (l + 1) = 2 + (l + 1) by unfold woV; rw [HE2.out, if_pos rfl, ho]; simp [shR, shD, e1])
    clear hX hc ho e0 e1
    have H := hide h
    clear h
    have hl' : decide ((len : Int) > 100) = false := by simp; omega
    go_enter Try.func4, Try.ntmps4
    go_wp2_with fail
    refine (awake_any _).mono ?_
    rintro e wa ⟨rfl, ca⟩
    go_wp2_with fail
    refine (new_yes _ (H.out.chg ca (fun _ _ => id)) hl HX.out).mono ?_
    rintro e w1 ⟨g, v, rfl, ht, c1⟩
    have cc := ca.trans c1
    have HT := hide ht
    clear ht H ca c1
    go_wp2_with fail
    refine (words_is (V := (2 + l)) (X := 0) HT.out HL.out HA.out HV.out HE.out).mono ?_
    rintro e w2 ⟨rfl, c2⟩
    replace cc := cc.trans c2
    replace HT := hide (HT.out.grow c2)
    clear c2
    go_wp2_with fail
    refine (shape_any HT.out HL.out HA.out _ _).mono ?_
    rw [HE.out, HR.out, HD.out]
    rintro e w3 ⟨rfl, c3⟩
    replace cc := cc.trans c3
    replace HT := hide (HT.out.grow c3)
    clear c3
    go_wp2_with fail
    refine (of_in HT.out HL.out HC.out rfl).mono ?_
    rintro e w4 ⟨rfl, c4⟩
    replace cc := cc.trans c4
    replace HT := hide (HT.out.grow c4)
    clear c4
    have hx := Blk.new w4 26 [.int .i64 2, .int .i64 0, .int .i64 0, .bool f]
    replace cc := cc.alloc (.cells [.int .i64 2, .int .i64 0, .int .i64 0, .bool f].toArray 26)
    replace HT := hide (HT.out.grow (Grow.box w4 (.cells [.int .i64 2, .int .i64 0, .int .i64 0, .bool f].toArray 26)))
    go_wp2_with fail
    generalize w4.alloc (.cells #[.int .i64 2, .int .i64 0, .int .i64 0, .bool f] 26) = wx at *
    generalize w4.heap.size = x at *
    refine (words_is HT.out HL.out HA.out HV2.out HE2.out).mono ?_
    rintro e w5 ⟨rfl, c5⟩
    replace cc := cc.trans c5
    replace hx := hx.chg c5 id
    obtain ⟨x0, x1, x2, x3⟩ := hx.cell4
    clear c5 hx
    go_wp2
    go_ret
    exact ⟨rfl, cc.below (fun _ _ h => h) (Nat.le_refl _)⟩
theorem walk (a : Option Addr) (len cap : Nat) (cs : List Cl) (n l : Int) (w : World) (h : IsCls w a len cap cs) (wn : (Lit.int .i64 n).wf = true) (wl : (Lit.int .i64 l).wf = true) :
    Calls Try.prog 4 #[.slice a len cap, .int .i64 n, .int .i64 l] w fun e w' => e = .returned (.bool true) ∧ Below w.heap.size w w' := by
  by_cases hl : len ≤ 100
  · by_cases hX : newX cs = 0
    · by_cases hE : shX (clAt cs n) l = 0
      · cases ho : clAt cs n with
        | none => rw [ho] at hE; exact absurd hE (by simp [shX])
        | some c =>
          have hb := rt_bd (clAt_rt (new_zero hX).1 ho)
          rw [ho] at hE
          obtain ⟨k, rfl, hkl, hc⟩ := clAt_some ho
          obtain ⟨K, R, D, f⟩ := c
          dsimp only at hb
          simp only [shX] at hE
          by_cases h1 : l < 0 ∨ (0 < l ∧ K ≠ 2)
          · rw [if_pos h1] at hE; cases hE
          · rw [if_neg h1] at hE
            by_cases h2 : 30 < l
            · rw [if_pos h2] at hE; cases hE
            · by_cases h3 : K = 2
              · subst h3
                obtain ⟨rfl, rfl⟩ := hb.2.2.2.2.2.1 rfl
                exact walk_array a len cap cs k l f w h hl hX hc (by omega) (by omega)
              · obtain rfl : l = 0 := by omega
                exact walk_plain a len cap cs k K R D f w h hl hX hc h3
      · exact walk_none a len cap cs n l w h hl hX hE
    · exact walk_no a len cap cs n l w h hl hX
  · exact walk_long a len cap n l w (by omega)

theorem own : ownKnob Try.prog.godebug = none := by kernel_rfl
theorem laidOut : laidOutB Try.prog = true := by kernel_rfl

set_option maxRecDepth 100000 in
theorem lifted (os : Os) (started : os.Started) (H : Type) (enc : TypeId × Value → H) :
    ReturnsInHanded {} Try.checked os 4 .any (Rows.classWordsSpec.pre6 enc Try.prog Try.f4 Rows.classWordsRow.domain false) (Rows.classWordsSpec.post enc Try.prog Try.f4 false true false false) := by
  refine returnsInHanded_of_change (C := Try.checked) own started (by kernel_rfl) Try.func4
    (ChangeSpec.witness6 (enc := enc) (C := Try.checked) false ⟨#[], #[.slice none 0 0, .int .i64 0, .int .i64 0], []⟩ 8 (by kernel_rfl) (by kernel_rfl) (by kernel_rfl) (by kernel_rfl)) ?_
  intro W base args ds gs before hval0 hW hcnd _
  have hval : ∀ (j : Nat) t v, Try.f4.params[j]? = some t → args[j]? = some v → Value.okWide Try.prog W .any base t v := hval0
  have hW' := hW
  obtain ⟨p, q, hA0, hV, rfl, hfz, hnd⟩ := hW
  have hA : DataW.TrodAll enc Try.prog W 0 (fun _ => true) true Try.f4.params.toList args.toList ds p := hA0
  rw [Try.params4] at hA hval
  obtain ⟨v0, vs0, d0, ds0, p0, q0, hargs, rfl, rfl, h0, r0⟩ := trodAll_cons hA
  obtain ⟨v1, vs1, d1, ds1, p1, q1, rfl, rfl, rfl, h1, r1⟩ := trodAll_cons r0
  obtain ⟨v2, vs2, d2, ds2, p2, q2, rfl, rfl, rfl, h2, r2⟩ := trodAll_cons r1
  obtain ⟨rfl, rfl, rfl⟩ := trodAll_nil r2
  obtain rfl : args = #[v0, v1, v2] := by cases args; simp_all
  obtain ⟨rfl, rfl⟩ := trodVars_none hV
  have k0 := h0
  have lt0 : ∀ x ∈ p0, x.block < W.heap.size := by obtain ⟨m, hm⟩ := k0; exact DataW.trod_lt m _ _ _ hm
  obtain ⟨a0, len0, cap0, cs0, rfl, w0⟩ := open_cls (hval 0 22 v0 rfl rfl) h0
  obtain ⟨a1, rfl, rfl, rfl, w1⟩ := open_int Try.underlying3 (hval 1 3 v1 rfl rfl) h1
  obtain ⟨a2, rfl, rfl, rfl, w2⟩ := open_int Try.underlying3 (hval 2 3 v2 rfl rfl) h2
  clear hA0 hval0
  refine (walk a0 len0 cap0 cs0 a1 a2 W w0 w1 w2).mono fun e W' ⟨he, bel⟩ => ?_
  subst he
  exact ⟨_, rfl, _, _, _, [], _, [], hW', trodAll_mk1 (shut_bool Try.underlying4 _), (trodAll_cons_mk (Below.trod laidOut (by kernel_rfl) (of_decide_eq_true (by kernel_rfl)) k0 bel lt0) (trodAll_cons_mk (shut_int Try.underlying3 w1) (trodAll_cons_mk (shut_int Try.underlying3 w2) trodAll_mk0))), rfl, bel.frame _, fun h => by cases h⟩

theorem over : Rows.classWordsRow.holds Try.pinned (OpenSpec.ofChange Rows.classWordsSpec) :=
  OpenClaim.holds_of_wide 4 Try.f4 rfl rfl rfl rfl rfl rfl rfl ⟨rfl, rfl, rfl, rfl, rfl⟩ rfl rfl rfl rfl rfl (by kernel_rfl) Try.func4 (by kernel_rfl)
    (of_decide_eq_true (by kernel_rfl)) (by unfold Func.isWrapper; first | (rw [if_pos (by decide +kernel)]; kernel_rfl) | (rw [if_neg (by decide +kernel)]; exact ⟨rfl, rfl⟩))
    (fun os started H enc _ => lifted os started H enc)

/-- The statement. -/
theorem proved : Rows.ClassWordsSaid := over
#print axioms proved
end Go.Proofs.Ythgijkikaboegaa.classWords


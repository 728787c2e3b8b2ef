/- For all classes ClassEach answers true: classes can be together, if each can be alone, and they are not too many; each is told by its number. Conditions: none. -/
import Derived.Test.YthgijkikaboegaaAwake
import Derived.ShutString
namespace Go.Proofs.Ythgijkikaboegaa.classEach
open Go.ChangeShapes Go.WideShapes Go.ChangeAt Go.RowKit
set_option linter.unusedVariables false

theorem take_all {cs : List Cl} {k : Nat} {c : Cl} (hc : cs[k]? = some c) (b : Bool) : (b && (cs.take (k + 1)).all Cl.rt) = ((b && (cs.take k).all Cl.rt) && c.rt) := by
  have hk : k < cs.length := (List.getElem?_eq_some_iff.1 hc).1
  have e : cs[k] = c := (List.getElem?_eq_some_iff.1 hc).2
  rw [List.take_succ_eq_append_getElem hk, List.all_append, e]
  simp [Bool.and_assoc]
theorem newX_one (c : Cl) : newX [c] = if c.rt then 0 else 1 := by
  cases h : c.rt <;> simp [newX, h]
theorem newX_all (cs : List Cl) : (decide ((cs.length : Int) < 64) && cs.all Cl.rt) = (newX cs == 0) := by
  unfold newX
  cases h : cs.all Cl.rt
  · simp
  · by_cases h2 : cs.length < 64
    · simp [h2]; omega
    · simp [h2]; omega

set_option maxHeartbeats 1000000 in
theorem walk_long (a : Option Addr) (len cap : Nat) (w : World) (hl : 100 < len) :
    Calls Try.prog 7 #[.slice a len cap] w fun e w' => e = .returned (.bool true) ∧ Below w.heap.size w w' := by
  go_enter Try.func7, Try.ntmps7
  go_wp2_with fail
  refine (awake_any _).mono ?_
  rintro e wa ⟨rfl, ca⟩
  go_wp2_with fail
  refine (awake_any _).mono ?_
  rintro e wb ⟨rfl, cb⟩
  go_wp2
  go_ret
  exact ⟨rfl, (ca.trans cb).below (fun _ _ h => h) (Nat.le_refl _)⟩
set_option maxHeartbeats 4000000 in
set_option maxRecDepth 100000 in
theorem walk_main (a : Option Addr) (len cap : Nat) (cs : List Cl) (w : World) (h : IsCls w a len cap cs) (hl : len ≤ 100) :
    Calls Try.prog 7 #[.slice a len cap] w fun e w' => e = .returned (.bool true) ∧ Below w.heap.size w w' := by
  have H := hide h
  have HL := hide h.len
  have hl' : decide ((len : Int) > 100) = false := by simp; omega
  clear h
  go_enter Try.func7, Try.ntmps7
  go_wp2_with fail
  refine (awake_any _).mono ?_
  rintro e wa ⟨rfl, ca⟩
  go_wp2
  clear hl'
  go_loopw [3, 25] (fun b i wr => ∃ k : Nat, k ≤ len ∧ i = .int .i64 k ∧ b = .bool (decide ((len : Int) < 64) && (cs.take k).all Cl.rt) ∧ Grow w wr) (fun _ i _ => len - (intOf i).toNat)
  case atStart => exact ⟨0, Nat.zero_le _, rfl, by simp, ca⟩
  case round =>
    obtain ⟨k, hk, rfl, rfl, cc⟩ := hrel
    by_cases hlt : k < len
    · obtain ⟨b, off, c, rfl, hc, hat, hM⟩ := (H.out.chg cc (fun i hi => id)).at_ hlt
      have HB := hide (take_all hc (decide ((len : Int) < 64)))
      generalize (decide ((len : Int) < 64) && (cs.take k).all Cl.rt) = B at *
      have HX := hide (newX_one c)
      clear hc
      obtain ⟨K, R, D, f⟩ := c
      dsimp only at hM
      cases hr : rtB K R D f
      · have HR := hide hr
        have HX0 := hide (show newX [⟨K, R, D, f⟩] = 1 by rw [HX.out]; simp [Cl.rt, hr])
        have HB0 := hide (show (decide ((len : Int) < 64) && (cs.take (k + 1)).all Cl.rt) = false by rw [HB.out]; simp [Cl.rt, hr])
        clear hr HX HB
        have hx := Blk.new wr 26 [.int .i64 K, .int .i64 R, .int .i64 D, .bool f]
        replace cc := cc.alloc (.cells [.int .i64 K, .int .i64 R, .int .i64 D, .bool f].toArray 26)
        have HI := hide (IsCls.one (c := ⟨K, R, D, f⟩) hx hM)
        have HAT := hide (hat.chg (Grow.box wr (.cells [.int .i64 K, .int .i64 R, .int .i64 D, .bool f].toArray 26)) id)
        obtain ⟨e0, e1, e2, e3⟩ := hat
        clear hx
        dsimp only at e0 e1 e2 e3
        go_wp2_with fail
        clear e0 e1 e2 e3
        generalize wr.alloc (.cells #[.int .i64 K, .int .i64 R, .int .i64 D, .bool f] 26) = wx at *
        refine (new_no _ HI.out (by decide) HX0.out (by decide)).mono ?_
        rintro e w1 ⟨rfl, c1⟩
        replace cc := cc.trans c1
        replace HAT := hide (HAT.out.chg c1 id)
        clear c1 HI
        obtain ⟨e0, e1, e2, e3⟩ := HAT.out
        go_wp2_with fail
        clear e0 e1 e2 e3
        refine (right_is _ hM HR.out).mono ?_
        rintro e w2 ⟨rfl, c2⟩
        replace cc := cc.trans c2
        replace HAT := hide (HAT.out.chg c2 id)
        clear c2
        obtain ⟨e0, e1, e2, e3⟩ := HAT.out
        go_wp2_with fail
        clear e0 e1 e2 e3
        refine (right_is _ hM HR.out).mono ?_
        rintro e w3 ⟨rfl, c3⟩
        replace cc := cc.trans c3
        replace HAT := hide (HAT.out.chg c3 id)
        clear c3
        cases B
        · obtain ⟨e0, e1, e2, e3⟩ := HAT.out
          go_wp2
          go_roundw
          case rel => exact ⟨k + 1, by omega, by go_num, by rw [HB0.out], cc⟩
          case measure => simp [intOf]; omega
        · obtain ⟨e0, e1, e2, e3⟩ := HAT.out
          go_wp2_with fail
          clear e0 e1 e2 e3
          refine (right_is _ hM HR.out).mono ?_
          rintro e w4 ⟨rfl, c4⟩
          replace cc := cc.trans c4
          clear c4
          go_wp2
          go_roundw
          case rel => exact ⟨k + 1, by omega, by go_num, by rw [HB0.out], cc⟩
          case measure => simp [intOf]; omega
      · have HR := hide hr
        have HX0 := hide (show newX [⟨K, R, D, f⟩] = 0 by rw [HX.out]; simp [Cl.rt, hr])
        have HB0 := hide (show (decide ((len : Int) < 64) && (cs.take (k + 1)).all Cl.rt) = B by rw [HB.out]; simp [Cl.rt, hr])
        clear hr HX HB
        have hx := Blk.new wr 26 [.int .i64 K, .int .i64 R, .int .i64 D, .bool f]
        replace cc := cc.alloc (.cells [.int .i64 K, .int .i64 R, .int .i64 D, .bool f].toArray 26)
        have HI := hide (IsCls.one (c := ⟨K, R, D, f⟩) hx hM)
        have HAT := hide (hat.chg (Grow.box wr (.cells [.int .i64 K, .int .i64 R, .int .i64 D, .bool f].toArray 26)) id)
        obtain ⟨e0, e1, e2, e3⟩ := hat
        clear hx
        dsimp only at e0 e1 e2 e3
        go_wp2_with fail
        clear e0 e1 e2 e3
        generalize wr.alloc (.cells #[.int .i64 K, .int .i64 R, .int .i64 D, .bool f] 26) = wx at *
        refine (new_yes _ HI.out (by decide) HX0.out).mono ?_
        rintro e w1 ⟨g, v, rfl, ht, c1⟩
        replace cc := cc.trans c1
        replace HAT := hide (HAT.out.chg c1 id)
        clear c1 HI ht
        obtain ⟨e0, e1, e2, e3⟩ := HAT.out
        go_wp2_with fail
        clear e0 e1 e2 e3
        refine (right_is _ hM HR.out).mono ?_
        rintro e w2 ⟨rfl, c2⟩
        replace cc := cc.trans c2
        replace HAT := hide (HAT.out.chg c2 id)
        clear c2
        obtain ⟨e0, e1, e2, e3⟩ := HAT.out
        go_wp2_with fail
        clear e0 e1 e2 e3
        refine (right_is _ hM HR.out).mono ?_
        rintro e w3 ⟨rfl, c3⟩
        replace cc := cc.trans c3
        replace HAT := hide (HAT.out.chg c3 id)
        clear c3
        cases B
        · obtain ⟨e0, e1, e2, e3⟩ := HAT.out
          go_wp2
          go_roundw
          case rel => exact ⟨k + 1, by omega, by go_num, by rw [HB0.out], cc⟩
          case measure => simp [intOf]; omega
        · obtain ⟨e0, e1, e2, e3⟩ := HAT.out
          go_wp2_with fail
          clear e0 e1 e2 e3
          refine (right_is _ hM HR.out).mono ?_
          rintro e w4 ⟨rfl, c4⟩
          replace cc := cc.trans c4
          clear c4
          go_wp2
          go_roundw
          case rel => exact ⟨k + 1, by omega, by go_num, by rw [HB0.out], cc⟩
          case measure => simp [intOf]; omega
    · obtain rfl : k = len := by omega
      have HB := hide (show (decide ((k : Int) < 64) && (cs.take k).all Cl.rt) = (newX cs == 0) by
        rw [← newX_all, HL.out, List.take_of_length_le (by rw [HL.out]; exact Nat.le_refl _)])
      clear ca
      generalize (decide ((k : Int) < 64) && (cs.take k).all Cl.rt) = B at *
      by_cases hX : newX cs = 0
      · obtain rfl : B = true := by rw [HB.out, hX]; rfl
        have HX := hide hX
        clear hX HB
        go_wp2_with fail
        refine (new_yes _ (H.out.chg cc (fun _ _ => id)) hl HX.out).mono ?_
        rintro e w1 ⟨g, v, rfl, ht, c1⟩
        replace cc := cc.trans c1
        have HT := hide ht
        clear ht c1
        go_wp2
        go_loopw [75] (fun i wq => ∃ j : Nat, j ≤ k ∧ i = .int .i64 j ∧ Grow w1 wq) (fun i _ => k - (intOf i).toNat)
        case atStart => exact ⟨0, Nat.zero_le _, rfl, Chg.refl _ _⟩
        case round =>
          obtain ⟨j, hj, rfl, cq⟩ := hrel
          by_cases hlt : j < k
          · obtain ⟨b, off, c, rfl, hc, hat, hM⟩ := (H.out.chg (cc.trans cq) (fun i hi => id)).at_ hlt
            obtain ⟨K, R, D, f⟩ := c
            have HC := hide hc
            have HLL := hide (show cs.length ≤ 100 by rw [HL.out]; exact hl)
            have HAT := hide hat
            have kR : ∀ W : World, (Op.equalIn 10000 26 (.agg #[.int .i64 K, .int .i64 R, .int .i64 D, .bool f]) (.agg #[.int .i64 K, .int .i64 R, .int .i64 D, .bool f])).run Try.prog W = .ok true W := fun W => by
              rw [sameC, decide_eq_true ⟨rfl, rfl, rfl, rfl⟩]
            clear hc hat hM
            go_wp2_with fail
            refine (of_in (HT.out.grow cq) HLL.out HC.out rfl).mono ?_
            rintro e w2 ⟨rfl, c2⟩
            replace cq := cq.trans c2
            replace HAT := hide (HAT.out.chg c2 id)
            clear c2
            have hx := Blk.new w2 26 [.int .i64 K, .int .i64 R, .int .i64 D, .bool f]
            replace cq := cq.alloc (.cells [.int .i64 K, .int .i64 R, .int .i64 D, .bool f].toArray 26)
            replace HAT := hide (HAT.out.chg (Grow.box w2 (.cells [.int .i64 K, .int .i64 R, .int .i64 D, .bool f].toArray 26)) id)
            obtain ⟨e0, e1, e2, e3⟩ := HAT.out
            obtain ⟨x0, x1, x2, x3⟩ := hx.cell4
            dsimp only at e0 e1 e2 e3
            clear hx
            go_wp2_with fail
            refine wp_region_grow (by kernel_rfl) (by kernel_rfl) ?_
            repeat (
              with_reducible refine wpQuiet_step ?_
              intro K hK
              first
                | ((with_reducible refine quiet_offT rfl ?_ (hK _ ?_)); focus (refine ⟨_, rfl, ?_⟩; with_reducible rfl))
                | ((with_reducible refine quiet_offF rfl ?_ (hK _ ?_)); focus (refine ⟨_, rfl, ?_⟩; with_reducible rfl))
                | ((with_reducible refine quiet_offN rfl ?_ (hK _ ?_)); focus (exact rfl))
                | ((first | with_reducible refine quiet_free rfl ?_ | ((with_reducible refine quiet_on rfl ?_ ?_); focus (refine ⟨_, rfl, ?_⟩; with_reducible rfl)))
                   apply Exists.intro
                   refine ⟨fun W hW => ?_, hK _ ?_⟩
                   focus (have q0 := Grow.cell hW x0; have q1 := Grow.cell hW x1; have q2 := Grow.cell hW x2; have q3 := Grow.cell hW x3; have q4 := Grow.cell hW e0; have q5 := Grow.cell hW e1; have q6 := Grow.cell hW e2; have q7 := Grow.cell hW e3; go_simp; first | done | with_reducible rfl))
              clear hK K
              simp only [Act.put, List.setIfInBounds_toArray, List.set_cons_zero, List.set_cons_succ])
            with_reducible refine wpQuiet_nil ?_
            intro w3 c3
            replace cq := cq.trans c3
            clear c3 x0 x1 x2 x3 e0 e1 e2 e3 HAT kR
            go_wp2
            go_roundw
            case rel => exact ⟨j + 1, by omega, by go_num, cq⟩
            case measure => simp [intOf]; omega
          · obtain rfl : j = k := by omega
            go_wp2
            go_ret
            exact ⟨rfl, (cc.trans cq).below (fun _ _ h => h) (Nat.le_refl _)⟩
      · obtain rfl : B = false := by rw [HB.out]; simpa using hX
        obtain ⟨X, hX'⟩ : ∃ X, newX cs = X := ⟨_, rfl⟩
        rw [hX'] at hX
        have HX := hide hX'
        have H0 := hide hX
        have hx' : (X == 0) = false := by simpa using hX
        clear hX hX' HB
        go_wp2_with fail
        refine (new_no _ (H.out.chg cc (fun _ _ => id)) hl HX.out H0.out).mono ?_
        rintro e w1 ⟨rfl, c1⟩
        replace cc := cc.trans c1
        clear c1
        go_wp2
        go_loopw [75] (fun i wq => ∃ j : Nat, j ≤ k ∧ i = .int .i64 j ∧ wq = w1) (fun i _ => k - (intOf i).toNat)
        case atStart => exact ⟨0, Nat.zero_le _, rfl, rfl⟩
        case round =>
          obtain ⟨j, hj, rfl, rfl⟩ := hrel
          by_cases hlt : j < k
          · go_wp2
            go_roundw
            case rel => exact ⟨j + 1, by omega, by go_num, trivial⟩
            case measure => simp [intOf]; omega
          · obtain rfl : j = k := by omega
            go_wp2
            go_ret
            exact ⟨rfl, cc.below (fun _ _ h => h) (Nat.le_refl _)⟩
theorem walk (a : Option Addr) (len cap : Nat) (cs : List Cl) (w : World) (h : IsCls w a len cap cs) :
    Calls Try.prog 7 #[.slice a len cap] w fun e w' => e = .returned (.bool true) ∧ Below w.heap.size w w' := by
  by_cases hl : len ≤ 100
  · exact walk_main a len cap cs w h hl
  · exact walk_long a len cap w (by omega)

theorem own : ownKnob Try.prog.godebug = none := by kernel_rfl
theorem laidOut : laidOutB Try.prog = true := by kernel_rfl

set_option maxRecDepth 100000 in
theorem lifted (os : Os) (started : os.Started) (H : Type) (enc : TypeId × Value → H) :
    ReturnsInHanded {} Try.checked os 7 .any (Rows.classEachSpec.pre6 enc Try.prog Try.f7 Rows.classEachRow.domain false) (Rows.classEachSpec.post enc Try.prog Try.f7 false true false false) := by
  refine returnsInHanded_of_change (C := Try.checked) own started (by kernel_rfl) Try.func7
    (ChangeSpec.witness6 (enc := enc) (C := Try.checked) false ⟨#[], #[.slice none 0 0], []⟩ 8 (by kernel_rfl) (by kernel_rfl) (by kernel_rfl) (by kernel_rfl)) ?_
  intro W base args ds gs before hval0 hW hcnd _
  have hval : ∀ (j : Nat) t v, Try.f7.params[j]? = some t → args[j]? = some v → Value.okWide Try.prog W .any base t v := hval0
  have hW' := hW
  obtain ⟨p, q, hA0, hV, rfl, hfz, hnd⟩ := hW
  have hA : DataW.TrodAll enc Try.prog W 0 (fun _ => true) true Try.f7.params.toList args.toList ds p := hA0
  rw [Try.params7] at hA hval
  obtain ⟨v0, vs0, d0, ds0, p0, q0, hargs, rfl, rfl, h0, r0⟩ := trodAll_cons hA
  obtain ⟨rfl, rfl, rfl⟩ := trodAll_nil r0
  obtain rfl : args = #[v0] := by cases args; simp_all
  obtain ⟨rfl, rfl⟩ := trodVars_none hV
  have k0 := h0
  have lt0 : ∀ x ∈ p0, x.block < W.heap.size := by obtain ⟨m, hm⟩ := k0; exact DataW.trod_lt m _ _ _ hm
  obtain ⟨a0, len0, cap0, cs0, rfl, w0⟩ := open_cls (hval 0 22 v0 rfl rfl) h0
  clear hA0 hval0
  refine (walk a0 len0 cap0 cs0 W w0).mono fun e W' ⟨he, bel⟩ => ?_
  subst he
  exact ⟨_, rfl, _, _, _, [], _, [], hW', trodAll_mk1 (shut_bool Try.underlying4 _), (trodAll_cons_mk (Below.trod laidOut (by kernel_rfl) (of_decide_eq_true (by kernel_rfl)) k0 bel lt0) trodAll_mk0), rfl, bel.frame _, fun h => by cases h⟩

theorem over : Rows.classEachRow.holds Try.pinned (OpenSpec.ofChange Rows.classEachSpec) :=
  OpenClaim.holds_of_wide 7 Try.f7 rfl rfl rfl rfl rfl rfl rfl ⟨rfl, rfl, rfl, rfl, rfl⟩ rfl rfl rfl rfl rfl (by kernel_rfl) Try.func7 (by kernel_rfl)
    (of_decide_eq_true (by kernel_rfl)) (by unfold Func.isWrapper; first | (rw [if_pos (by decide +kernel)]; kernel_rfl) | (rw [if_neg (by decide +kernel)]; exact ⟨rfl, rfl⟩))
    (fun os started H enc _ => lifted os started H enc)

/-- The statement. -/
theorem proved : Rows.ClassEachSaid := over
#print axioms proved
end Go.Proofs.Ythgijkikaboegaa.classEach


/- For all places and sizes (one byte each) SpaceEach answers true: taken one by one as many words are taken as there are, each where it must be. Conditions: none. -/
import Derived.Test.YtbnnoelioiafdaaAwake
import Derived.ShutString
namespace Go.Proofs.Ytbnnoelioiafdaa.spaceEach
open Go.ChangeShapes Go.WideShapes Go.ChangeAt Go.RowKit
set_option linter.unusedVariables false

set_option maxHeartbeats 2000000 in
set_option maxRecDepth 100000 in
theorem walk_main (f n : Nat) (w : World) (hf : f ≤ 255) (hn : n ≤ 255) :
    Calls Try.prog 6 #[.int .u8 f, .int .u8 n] w fun e w' => e = .returned (.bool true) ∧ Below w.heap.size w w' := by
  go_enter Try.func6, Try.ntmps6
  go_wp2_with fail
  refine (awake_any _).mono ?_
  rintro e wa ⟨rfl, ca⟩
  go_wp2_with fail
  refine (new_ok f n _ (by omega) (by omega) (by omega)).mono ?_
  rintro e w1 ⟨rfl, c1⟩
  have hs : Sp _ _ f f (f + n) := Blk.new w1 25 [.int .i64 f, .int .i64 f, .int .i64 (f + n)]
  have cc : Chg (fun i => w.heap.size ≤ i) w (w1.alloc (.cells [.int .i64 f, .int .i64 f, .int .i64 (f + n)].toArray 25)) := ((ca.trans c1).alloc _).mono (fun _ _ h => h.elim)
  have hb : w.heap.size ≤ w1.heap.size := (ca.trans c1).size
  clear ca c1
  go_wp2
  generalize w1.alloc (.cells #[.int .i64 f, .int .i64 f, .int .i64 (f + n)] 25) = ws at *
  generalize w1.heap.size = b at *
  go_loopw [28] (fun i wr => ∃ k : Nat, k ≤ n ∧ i = .int .i64 k ∧ Sp wr b f (f + k) (f + n) ∧ Chg (fun i => w.heap.size ≤ i) w wr) (fun i _ => n - (intOf i).toNat)
  case atStart => exact ⟨0, Nat.zero_le _, rfl, by simpa using hs, cc⟩
  case round =>
    clear hs cc
    obtain ⟨k, hk, rfl, hs, cc⟩ := hrel
    have hr : riB f (f + k) (f + n) = true := by simp [riB]; omega
    have HR := hide hr
    clear hr
    obtain ⟨a0, a1, a2⟩ := hs.cell3
    by_cases hlt : k < n
    · have hlt' : (k : Int) < n := by omega
      go_wp2_with fail
      refine (take_ok f (f + k) (f + n) 1 _ HR.out (by omega) (by omega)).mono ?_
      rintro e w2 ⟨rfl, c2⟩
      have ht := Blk.new w2 25 [.int .i64 f, .int .i64 (f + k + 1), .int .i64 (f + n)]
      have ct := c2.alloc (.cells [.int .i64 f, .int .i64 (f + k + 1), .int .i64 (f + n)].toArray 25)
      replace hs := hs.chg ct id
      replace cc := cc.step ct (fun _ _ h => h.elim)
      have hbt : b < w2.heap.size := Nat.lt_of_lt_of_le (cell_lt a0) c2.size
      clear a0 a1 a2 ct c2
      obtain ⟨a0, a1, a2⟩ := hs.cell3
      go_wp2_with fail
      generalize w2.alloc (.cells #[.int .i64 f, .int .i64 (f + k + 1), .int .i64 (f + n)] 25) = wt at *
      generalize w2.heap.size = t at *
      refine (has_is f (f + k) (f + n) (f + k) _ (b := false) (by simp [hasB])).mono ?_
      rintro e w3 ⟨rfl, c3⟩
      replace hs := hs.chg c3 id
      replace ht := ht.chg c3 id
      replace cc := cc.step c3 (fun _ _ h => h.elim)
      clear a0 a1 a2 c3
      obtain ⟨a0, a1, a2⟩ := ht.cell3
      go_wp2_with fail
      refine (has_is f (f + k + 1) (f + n) (f + k) _ (b := true) (by simp [hasB, riB]; omega)).mono ?_
      rintro e w4 ⟨rfl, c4⟩
      replace hs := hs.chg c4 id
      replace ht := ht.chg c4 id
      replace cc := cc.step c4 (fun _ _ h => h.elim)
      clear a0 a1 a2 c4
      obtain ⟨a0, a1, a2⟩ := ht.cell3
      obtain ⟨b0, b1, b2⟩ := hs.cell3
      have f0 := hs.frozen 0
      have f1 := hs.frozen 1
      have f2 := hs.frozen 2
      have hs5 := ((hs.set_ 0 (.int .i64 f)).set_ 1 (.int .i64 (f + k + 1))).set_ 2 (.int .i64 (f + n))
      have cc5 := ((cc.setCell (p := ⟨b, 0, none⟩) (fun _ => hb) (.int .i64 f)).setCell (p := ⟨b, 1, none⟩) (fun _ => hb) (.int .i64 (f + k + 1))).setCell (p := ⟨b, 2, none⟩) (fun _ => hb) (.int .i64 (f + n))
      have HS5 := hide hs5
      have CC5 := hide cc5
      clear hs ht cc hs5 cc5
      go_wp2
      go_roundw
      case rel => exact ⟨k + 1, by omega, by go_num, by have := HS5.out; simpa [Int.add_assoc] using this, CC5.out⟩
      case measure => simp [intOf]; omega
    · obtain rfl : n = k := by omega
      go_wp2_with fail
      refine (take_full f (f + n) (f + n) 1 _ (by omega) HR.out (by omega) (by omega)).mono ?_
      rintro e w2 ⟨rfl, c2⟩
      replace hs := hs.chg c2 id
      replace cc := cc.step c2 (fun _ _ h => h.elim)
      clear a0 a1 a2 c2
      have ht := Blk.new w2 25 [.int .i64 0, .int .i64 0, .int .i64 0]
      have ct := Grow.box w2 (.cells [.int .i64 0, .int .i64 0, .int .i64 0].toArray 25)
      replace hs := hs.chg ct id
      replace cc := cc.step ct (fun _ _ h => h.elim)
      clear ct
      obtain ⟨a0, a1, a2⟩ := hs.cell3
      go_wp2_with fail
      generalize w2.alloc (.cells #[.int .i64 0, .int .i64 0, .int .i64 0] 25) = wt at *
      generalize w2.heap.size = t at *
      refine (room_ok f (f + n) (f + n) _ HR.out).mono ?_
      rintro e w3 ⟨rfl, c3⟩
      replace hs := hs.chg c3 id
      replace cc := cc.step c3 (fun _ _ h => h.elim)
      clear a0 a1 a2 c3
      obtain ⟨a0, a1, a2⟩ := hs.cell3
      have e0 : (f : Int) + n - (f + n) = 0 := by omega
      rw [e0]
      go_wp2_with fail
      refine (used_ok f (f + n) (f + n) _ HR.out).mono ?_
      rintro e w4 ⟨rfl, c4⟩
      replace hs := hs.chg c4 id
      replace cc := cc.step c4 (fun _ _ h => h.elim)
      clear a0 a1 a2 c4
      obtain ⟨a0, a1, a2⟩ := hs.cell3
      have e1 : (f : Int) + n - f = n := by omega
      rw [e1]
      go_wp2_with fail
      refine (has_is f (f + n) (f + n) (f - 1) _ (b := false) (by simp [hasB]; omega)).mono ?_
      rintro e w5 ⟨rfl, c5⟩
      replace hs := hs.chg c5 id
      replace cc := cc.step c5 (fun _ _ h => h.elim)
      clear a0 a1 a2 c5
      obtain ⟨a0, a1, a2⟩ := hs.cell3
      go_wp2_with fail
      refine (has_is f (f + n) (f + n) (f + n) _ (b := false) (by simp [hasB])).mono ?_
      rintro e w6 ⟨rfl, c6⟩
      go_wp2
      go_ret
      exact ⟨rfl, (cc.step c6 (fun _ _ h => h.elim)).below (fun i hi => by omega) (Nat.le_refl _)⟩

theorem walk (a0 a1 : Int) (w : World) (w0 : (Lit.int .u8 a0).wf = true) (w1 : (Lit.int .u8 a1).wf = true) :
    Calls Try.prog 6 #[.int .u8 a0, .int .u8 a1] w fun e w' => e = .returned (.bool true) ∧ Below w.heap.size w w' := by
  have b0 := bounds_u8 w0
  have b1 := bounds_u8 w1
  obtain ⟨f, rfl⟩ := Int.eq_ofNat_of_zero_le b0.1
  obtain ⟨n, rfl⟩ := Int.eq_ofNat_of_zero_le b1.1
  exact walk_main f n w (by omega) (by omega)

theorem own : ownKnob Try.prog.godebug = none := by kernel_rfl
theorem laidOut : laidOutB Try.prog = true := by kernel_rfl

set_option maxRecDepth 100000 in
theorem lifted (os : Os) (started : os.Started) (H : Type) (enc : TypeId × Value → H) :
    ReturnsInHanded {} Try.checked os 6 .any (Rows.spaceEachSpec.pre6 enc Try.prog Try.f6 Rows.spaceEachRow.domain false) (Rows.spaceEachSpec.post enc Try.prog Try.f6 false true false false) := by
  refine returnsInHanded_of_change (C := Try.checked) own started (by kernel_rfl) Try.func6
    (ChangeSpec.witness6 (enc := enc) (C := Try.checked) false ⟨#[], #[.int .u8 0, .int .u8 0], []⟩ 8 (by kernel_rfl) (by kernel_rfl) (by kernel_rfl) (by kernel_rfl)) ?_
  intro W base args ds gs before hval0 hW hcnd _
  have hval : ∀ (j : Nat) t v, Try.f6.params[j]? = some t → args[j]? = some v → Value.okWide Try.prog W .any base t v := hval0
  have hW' := hW
  obtain ⟨p, q, hA0, hV, rfl, hfz, hnd⟩ := hW
  have hA : DataW.TrodAll enc Try.prog W 0 (fun _ => true) true Try.f6.params.toList args.toList ds p := hA0
  rw [Try.params6] at hA hval
  obtain ⟨v0, vs0, d0, ds0, p0, q0, hargs, rfl, rfl, h0, r0⟩ := trodAll_cons hA
  obtain ⟨v1, vs1, d1, ds1, p1, q1, rfl, rfl, rfl, h1, r1⟩ := trodAll_cons r0
  obtain ⟨rfl, rfl, rfl⟩ := trodAll_nil r1
  obtain rfl : args = #[v0, v1] := by cases args; simp_all
  obtain ⟨rfl, rfl⟩ := trodVars_none hV
  obtain ⟨a0, rfl, rfl, rfl, w0⟩ := open_int Try.underlying5 (hval 0 5 v0 rfl rfl) h0
  obtain ⟨a1, rfl, rfl, rfl, w1⟩ := open_int Try.underlying5 (hval 1 5 v1 rfl rfl) h1
  clear hA0 hval0
  refine (walk a0 a1 W w0 w1).mono fun e W' ⟨he, bel⟩ => ?_
  subst he
  exact ⟨_, rfl, _, _, _, [], _, [], hW', trodAll_mk1 (shut_bool Try.underlying4 _), (trodAll_cons_mk (shut_int Try.underlying5 w0) (trodAll_cons_mk (shut_int Try.underlying5 w1) trodAll_mk0)), rfl, bel.frame _, fun h => by cases h⟩

theorem over : Rows.spaceEachRow.holds Try.pinned (OpenSpec.ofChange Rows.spaceEachSpec) :=
  OpenClaim.holds_of_wide 6 Try.f6 rfl rfl rfl rfl rfl rfl rfl ⟨rfl, rfl, rfl, rfl, rfl⟩ rfl rfl rfl rfl rfl (by kernel_rfl) Try.func6 (by kernel_rfl)
    (of_decide_eq_true (by kernel_rfl)) (by unfold Func.isWrapper; first | (rw [if_pos (by decide +kernel)]; kernel_rfl) | (rw [if_neg (by decide +kernel)]; exact ⟨rfl, rfl⟩))
    (fun os started H enc _ => lifted os started H enc)

/-- The statement. -/
theorem proved : Rows.SpaceEachSaid := over
#print axioms proved
end Go.Proofs.Ytbnnoelioiafdaa.spaceEach


/- For all numbers QueueMany answers true: what is put one behind the other is polled in that order, and can't be put again. Conditions: none. -/
import Derived.Test.YtgaoodjlcjmomaaL12Many
import Derived.ShutString
namespace Go.Proofs.Ytgaoodjlcjmomaa.queueMany
open Go.ChangeShapes Go.WideShapes Go.ChangeAt Go.RowKit Go.Proofs.Ytgaoodjlcjmomaa.L12
set_option linter.unusedVariables false
set_option maxHeartbeats 2000000 in
set_option maxRecDepth 100000 in
theorem walk (a0 : Int) (a1 : Int) (w : World) (w0 : (Lit.int .u8 a0).wf = true) (w1 : (Lit.int .u8 a1).wf = true) :
    Calls Try.prog 9 #[.int .u8 a0, .int .u8 a1] w fun e w' => e = .returned (.bool true) ∧ Below w.heap.size w w' := by
  obtain ⟨n, rfl, hn⟩ := u8_bd w0
  obtain ⟨b, rfl, hb⟩ := u8_bd w1
  have c1 : IntKind.i64.wrap (n : Int) = n := w64 (by omega)
  have c2 : IntKind.i64.wrap (b : Int) = b := w64 (by omega)
  obtain ⟨X, hX, eX⟩ : ∃ X : Nat, X < 4 ∧ 1 + (b : Int) % 4 = (X : Int) + 1 := ⟨b % 4, by omega, by omega⟩
  have HN := hide hn
  have HX := hide hX
  clear w0 w1 hb hn hX
  go_enter Try.func9, Try.ntmps9
  go_wp2_with fail
  refine (awake_any _).mono ?_
  rintro e w1 ⟨rfl, g1⟩
  have H0 := hide (new_set w1)
  have G0 := hide (g1.trans (Grow.box w1 (.cells setV 29)))
  have S0 := hide g1.size
  clear g1
  go_wp2_with fail
  go_loopw [27] (fun c wr => ∃ (i : Nat) (S : Nat → Prop), i ≤ n ∧ c = .int .i64 i ∧ QS wr w1.heap.size S w1.heap.size (upd noQ X (mE i)) (mE i) ∧ Grow w wr) (fun c _ => n - (Go.RowKit.intOf c).toNat)
  case atStart => exact ⟨0, _, Nat.zero_le _, rfl, by rw [show upd noQ X (mE 0) = noQ from upd_self noQ X]; exact H0.out, G0.out⟩
  case round =>
    clear H0 G0
    obtain ⟨i, S, hi, rfl, hq, hg⟩ := hrel
    rcases Nat.eq_or_lt_of_le hi with rfl | hlt
    · have HQ := hide hq
      have HG := hide hg
      clear hq hg hi
      go_wp2_with fail
      go_loopw [56] (fun c wr => ∃ (j : Nat) (S : Nat → Prop), j ≤ i ∧ c = .int .i64 j ∧ QS wr w1.heap.size S w1.heap.size (upd noQ X ((mE i).drop j)) (mE i) ∧ Grow w wr) (fun c _ => i - (Go.RowKit.intOf c).toNat)
      case atStart => exact ⟨0, S, Nat.zero_le _, rfl, HQ.out, HG.out⟩
      case round =>
        clear HQ HG
        obtain ⟨j, S2, hj, rfl, hq, hg⟩ := hrel
        have F := many_few2 X i j
        rcases Nat.eq_or_lt_of_le hj with rfl | hlt
        · have HF := hide (F.b (by have := HN.out; omega))
          rw [many_end HX.out] at HF hq
          have HQ := hide hq
          have HG := hide hg
          clear hq hg hj F
          go_wp2_with fail
          refine (poll_any HQ.out ((X : Int) + 1) HF.out.2).mono ?_
          rintro e w3 ⟨rfl, c3, h3'⟩
          have e1 : poX noQ ((X : Int) + 1) = 10 := by unfold poX; rw [(at_q HX.out).1, if_pos rfl, if_pos rfl]
          have e2 : poQ noQ ((X : Int) + 1) = noQ := by unfold poQ; rw [(at_q HX.out).1, if_pos rfl]; exact upd_self noQ _
          rw [e1]
          rw [e2] at h3'
          have HQ3 := hide h3'
          have HG3 := hide (HQ.out.step HG.out S0.out c3)
          clear h3' c3 e1 e2 HQ HG
          go_wp2_with fail
          refine (all_any HQ3.out HF.out.2).mono ?_
          rintro e w4 ⟨a, c, rfl, -, g4⟩
          rw [cat_no]
          have HG4 := hide (HG3.out.trans g4)
          clear g4
          go_wp2
          go_ret
          exact ⟨rfl, HG4.out.below (fun _ _ h => h) (Nat.le_refl _)⟩
        · have h3 : IntKind.i64.wrap (3 * (j : Int)) = 3 * (j : Int) := w64 (by have := HN.out; omega)
          have h4 : IntKind.i64.wrap (3 * (j : Int) + 1) = 3 * (j : Int) + 1 := w64 (by have := HN.out; omega)
          have h5 : IntKind.i64.wrap ((j : Int) + 1) = ((j + 1 : Nat) : Int) := (w64 (by have := HN.out; omega)).trans (by omega)
          have q1 : (j : Int) < i := by omega
          have hiw : In64 (3 * (j : Int) + 1) := in64 (by have := HN.out; omega)
          obtain ⟨Y, hY, eY⟩ : ∃ Y : Nat, Y < 4 ∧ 1 + ((X : Int) + 1 + (j : Int)) % 4 = (Y : Int) + 1 := ⟨(X + 1 + j) % 4, by omega, by omega⟩
          have hXj : IntKind.i64.wrap ((X : Int) + 1 + (j : Int)) = (X : Int) + 1 + (j : Int) := w64 (by have := HN.out; have := HX.out; omega)
          have HF := hide (F.b (by have := HN.out; omega))
          have HF2 := hide ((many_few2 X i (j + 1)).b (by have := HN.out; omega))
          have HQ := hide hq
          have HG := hide hg
          have HJ := hide hlt
          have HY := hide hY
          clear hq hg hj hlt F hY
          go_wp2_with fail
          refine (poll_any HQ.out ((X : Int) + 1) HF.out.2).mono ?_
          rintro e w3 ⟨rfl, c3, h3'⟩
          obtain ⟨e1, e2, e3⟩ := many_poll HX.out HJ.out
          rw [e1, e2]
          rw [e3] at h3'
          have HQ3 := hide h3'
          have HG3 := hide (HQ.out.step HG.out S0.out c3)
          clear h3' c3 e1 e2 e3 HQ HG
          go_wp2_with fail
          refine (put_any HQ3.out hiw ((Y : Int) + 1) HF2.out.1 HF2.out.2).mono ?_
          rintro e w4 ⟨rfl, c4, S4, h4', s4⟩
          obtain ⟨e1, e2, e3, e4⟩ := many_again HY.out HJ.out (upd noQ X ((mE i).drop (j + 1)))
          rw [e1, e2]
          rw [e3, e4] at h4'
          have HQ4 := hide h4'
          have HG4 := hide (HQ3.out.step HG3.out S0.out c4)
          clear h4' c4 s4 e1 e2 e3 e4 HQ3 HG3
          go_wp2
          go_roundw
          case rel => exact ⟨j + 1, S4, HJ.out, rfl, HQ4.out, HG4.out⟩
          case measure => have := HJ.out; simp [Go.RowKit.intOf]; omega
    · have h3 : IntKind.i64.wrap (3 * (i : Int)) = 3 * (i : Int) := w64 (by have := HN.out; omega)
      have h4 : IntKind.i64.wrap (3 * (i : Int) + 1) = 3 * (i : Int) + 1 := w64 (by have := HN.out; omega)
      have h5 : IntKind.i64.wrap ((i : Int) + 1) = ((i + 1 : Nat) : Int) := (w64 (by have := HN.out; omega)).trans (by omega)
      have q1 : (i : Int) < n := by omega
      have hiw : In64 (3 * (i : Int) + 1) := in64 (by have := HN.out; omega)
      have HF := hide ((many_few X i).b (by have := HN.out; omega))
      have HQ := hide hq
      have HG := hide hg
      have HI := hide hlt
      clear hq hg hi hlt
      go_wp2_with fail
      refine (put_any HQ.out hiw ((X : Int) + 1) HF.out.1 HF.out.2).mono ?_
      rintro e w3 ⟨rfl, c3, S3, h3', s3⟩
      obtain ⟨e1, e2, e3, e4⟩ := many_put HX.out i
      rw [e1, e2]
      rw [e3, e4] at h3'
      have HL := hide (len_any h3' ((X : Int) + 1))
      rw [many_len HX.out] at HL
      have HQ3 := hide h3'
      have HG3 := hide (HQ.out.step HG.out S0.out c3)
      clear h3' c3 s3 e1 e2 e3 e4 HQ HG
      go_wp2_with fail
      refine HL.out.mono ?_
      rintro e w4 ⟨rfl, rfl⟩
      go_wp2
      go_roundw
      case rel => exact ⟨i + 1, S3, HI.out, rfl, HQ3.out, HG3.out⟩
      case measure => have := HI.out; simp [Go.RowKit.intOf]; omega

theorem own : ownKnob Try.prog.godebug = none := by kernel_rfl
theorem laidOut : laidOutB Try.prog = true := by kernel_rfl

set_option maxRecDepth 100000 in
theorem lifted (os : Os) (started : os.Started) (H : Type) (enc : TypeId × Value → H) :
    ReturnsInHanded {} Try.checked os 9 .any (Rows.queueManySpec.pre6 enc Try.prog Try.f9 Rows.queueManyRow.domain false) (Rows.queueManySpec.post enc Try.prog Try.f9 false true false false) := by
  refine returnsInHanded_of_change (C := Try.checked) own started (by kernel_rfl) Try.func9
    (ChangeSpec.witness6 (enc := enc) (C := Try.checked) false ⟨#[], #[.int .u8 0, .int .u8 0], []⟩ 8 (by kernel_rfl) (by kernel_rfl) (by kernel_rfl) (by kernel_rfl)) ?_
  intro W base args ds gs before hval0 hW hcnd _
  have hval : ∀ (j : Nat) t v, Try.f9.params[j]? = some t → args[j]? = some v → Value.okWide Try.prog W .any base t v := hval0
  have hW' := hW
  obtain ⟨p, q, hA0, hV, rfl, hfz, hnd⟩ := hW
  have hA : DataW.TrodAll enc Try.prog W 0 (fun _ => true) true Try.f9.params.toList args.toList ds p := hA0
  rw [Try.params9] at hA hval
  obtain ⟨v0, vs0, d0, ds0, p0, q0, hargs, rfl, rfl, h0, r0⟩ := trodAll_cons hA
  obtain ⟨v1, vs1, d1, ds1, p1, q1, rfl, rfl, rfl, h1, r1⟩ := trodAll_cons r0
  obtain ⟨rfl, rfl, rfl⟩ := trodAll_nil r1
  obtain rfl : args = #[v0, v1] := by cases args; simp_all
  obtain ⟨rfl, rfl⟩ := trodVars_none hV
  obtain ⟨a0, rfl, rfl, rfl, w0⟩ := open_int Try.underlying5 (hval 0 5 v0 rfl rfl) h0
  obtain ⟨a1, rfl, rfl, rfl, w1⟩ := open_int Try.underlying5 (hval 1 5 v1 rfl rfl) h1
  clear hA0 hval0
  refine (walk a0 a1 W w0 w1).mono fun e W' ⟨he, bel⟩ => ?_
  subst he
  exact ⟨_, rfl, _, _, _, [], _, [], hW', trodAll_mk1 (shut_bool Try.underlying4 _), (trodAll_cons_mk (shut_int Try.underlying5 w0) (trodAll_cons_mk (shut_int Try.underlying5 w1) trodAll_mk0)), rfl, bel.frame _, fun h => by cases h⟩

theorem over : Rows.queueManyRow.holds Try.pinned (OpenSpec.ofChange Rows.queueManySpec) :=
  OpenClaim.holds_of_wide 9 Try.f9 rfl rfl rfl rfl rfl rfl rfl ⟨rfl, rfl, rfl, rfl, rfl⟩ rfl rfl rfl rfl rfl (by kernel_rfl) Try.func9 (by kernel_rfl)
    (of_decide_eq_true (by kernel_rfl)) (by unfold Func.isWrapper; first | (rw [if_pos (by decide +kernel)]; kernel_rfl) | (rw [if_neg (by decide +kernel)]; exact ⟨rfl, rfl⟩))
    (fun os started H enc _ => lifted os started H enc)

/-- The statement. -/
theorem proved : Rows.QueueManySaid := over
#print axioms proved
end Go.Proofs.Ytgaoodjlcjmomaa.queueMany


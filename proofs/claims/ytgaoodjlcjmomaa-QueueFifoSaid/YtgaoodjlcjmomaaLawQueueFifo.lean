/- For all lists of calls QueueFifo answers true: what is polled from a queue was put into it, in order; nothing is put twice. Conditions: none. -/
import Derived.Test.YtgaoodjlcjmomaaL12Fz
import Derived.ShutString
namespace Go.Proofs.Ytgaoodjlcjmomaa.queueFifo
open Go.ChangeShapes Go.WideShapes Go.ChangeAt Go.RowKit Go.Proofs.Ytgaoodjlcjmomaa.L12
set_option linter.unusedVariables false
section
variable {a : Option Addr} {len cap : Nat} {rows : List (List Value)} {w : World}
set_option maxHeartbeats 2000000 in
set_option maxRecDepth 100000 in
theorem walk_long (hl : 200 < len) :
    Calls Try.prog 4 #[.slice a len cap] w fun e w' => e = .returned (.bool true) ∧ Below w.heap.size w w' := by
  have q1 : decide ((len : Int) > 200) = true := by simp; omega
  clear hl
  go_enter Try.func4, Try.ntmps4
  go_wp2_with fail
  refine (awake_any _).mono ?_
  rintro e w1 ⟨rfl, g1⟩
  have HG := hide g1
  clear g1
  go_wp2_with fail
  refine (awake_any _).mono ?_
  rintro e w2 ⟨rfl, g2⟩
  have HG2 := hide (HG.out.trans g2)
  clear g2
  go_wp2
  go_ret
  exact ⟨rfl, HG2.out.below (fun _ _ h => h) (Nat.le_refl _)⟩
set_option maxHeartbeats 2000000 in
set_option maxRecDepth 100000 in
theorem walk_main (hr : IsOps w a len cap rows) (hl : len ≤ 200) :
    Calls Try.prog 4 #[.slice a len cap] w fun e w' => e = .returned (.bool true) ∧ Below w.heap.size w w' := by
  have q1 : decide ((len : Int) > 200) = false := by simp; omega
  have hmm := @run_makeMap Try.prog
  have hm5 := mk_five
  have HR := hide hr
  have HL := hide hl
  clear hr hl
  go_enter Try.func4, Try.ntmps4
  go_wp2_with fail
  refine (awake_any _).mono ?_
  rintro e w1 ⟨rfl, g1⟩
  have H0 := hide (Fz.start g1)
  clear g1
  go_wp2_with fail
  go_loopw [29] (fun c wr => ∃ (i : Nat) (S A B : Nat → Prop) (Q In Out : Nat → List Int) (E Sn : List Int), i ≤ len ∧ c = .int .i64 i ∧ Fz w wr w1.heap.size w1.heap.size (w1.heap.size + 1) (w1.heap.size + 1 + 1) (w1.heap.size + 1 + 1 + 1) i S A B Q In Out E Sn) (fun c _ => len - (Go.RowKit.intOf c).toNat)
  case atStart => exact ⟨0, _, _, _, _, _, _, _, _, Nat.zero_le _, rfl, H0.out⟩
  case round =>
    clear H0
    obtain ⟨i, S, A, B, Q, In, Out, E, Sn, hi, rfl, hz⟩ := hrel
    generalize wr = wo at *
    rcases Nat.eq_or_lt_of_le hi with rfl | hlt
    · have q1 : decide ((i : Int) < i) = false := by simp
      have HZ := hide hz
      have HFB := hide (hz.few.b (by have := HL.out; omega))
      clear hz hi
      go_wp2_with fail
      go_loopw [13] (fun c wr => ∃ j : Nat, j ≤ 4 ∧ c = .int .i64 ((j : Int) + 1) ∧ Grow wo wr) (fun c _ => 5 - (Go.RowKit.intOf c).toNat)
      case atStart => exact ⟨0, by omega, rfl, Chg.refl _ _⟩
      case round =>
        obtain ⟨j, hj, rfl, hg⟩ := hrel
        rcases Nat.eq_or_lt_of_le hj with rfl | hlt
        · have hq2 : decide (((4 : Nat) : Int) + 1 ≤ 4) = false := by simp
          have HG := hide (HZ.out.g.trans hg)
          clear hg hj
          go_wp2
          go_ret
          exact ⟨rfl, HG.out.below (fun _ _ h => h) (Nat.le_refl _)⟩
        · obtain ⟨ai, ci, ao, co, k1, k2, hcap, r1, r2⟩ := (HZ.out.grow hg).ends hlt
          have hb1 := HZ.out.fout (j + 1) (by omega)
          have hb2 := HZ.out.few.2 j hlt
          have hLL := HL.out
          obtain ⟨NO, hNO⟩ : ∃ N, (Out (j + 1)).length = N := ⟨_, rfl⟩
          obtain ⟨NQ, hNQ⟩ : ∃ N, (Q j).length = N := ⟨_, rfl⟩
          have el : lnV Q ((j : Int) + 1) = ((Q j).length : Int) := by unfold lnV; rw [(at_q hlt).1, if_pos rfl, (at_q hlt).2]
          rw [hNO, hNQ] at k1 hcap
          rw [hNO] at k2 r1 r2 hb1
          rw [hNQ] at el hb2
          have HSM := hide (fun (W : World) (g : Grow wr W) => L1.same_yes ao ai NO co ci (Out (j + 1)) W (Rd.grow r2 g) (Rd.grow r1 g) (by omega))
          have HLN := hide (fun (W : World) (g : Grow wr W) => len_any ((HZ.out.q.grow hg).grow g) ((j : Int) + 1))
          rw [el] at HLN
          have q1 : decide ((j : Int) + 1 ≤ 4) = true := decide_eq_true (by omega)
          have q2 : (j : Int) + 1 < 5 := by omega
          have q3 : (0 : Int) ≤ (j : Int) + 1 := by omega
          have d1 : IntKind.i64.wrap ((j : Int) + 1 + 1) = ((j + 1 : Nat) : Int) + 1 := (w64 (by omega)).trans (by omega)
          obtain ⟨NI, hNI⟩ : ∃ N, NO + NQ = N := ⟨_, rfl⟩
          rw [hNI] at k1 hcap
          have d2 : IntKind.i64.wrap ((NI : Int) - (NO : Int)) = (NQ : Int) := (w64 (by omega)).trans (by omega)
          have q4 : decide ((NO : Int) > (NI : Int)) = false := by simp; omega
          have q7 : decide ((NI : Int) < (NO : Int)) = false := q4
          have q8 : decide (NI < NO) = false := by simp; omega
          have q9 : ¬ (NI : Int) < (NO : Int) := by omega
          have q10 : ¬ NI < NO := by omega
          have q5 : (NO : Int) ≤ (ci : Int) := by omega
          have q6 : NO ≤ ci := by omega
          have HJ := hide hlt
          have HG := hide hg
          clear hg hj hlt hb1 hb2 hLL el r1 r2 hNO hNQ hNI
          go_wp2_with fail
          refine wp_region_grow (by kernel_rfl) (by kernel_rfl) ?_
          repeat (
            with_reducible refine wpQuiet_step ?_
            intro K hK
            first
              | ((with_reducible refine quiet_offT rfl ?_ (hK _ ?_)); focus (refine ⟨_, rfl, ?_⟩; with_reducible rfl))
              | ((with_reducible refine quiet_offF rfl ?_ (hK _ ?_)); focus (refine ⟨_, rfl, ?_⟩; with_reducible rfl))
              | ((with_reducible refine quiet_offN rfl ?_ (hK _ ?_)); focus (exact rfl))
              | ((first | with_reducible refine quiet_free rfl ?_ | ((with_reducible refine quiet_on rfl ?_ ?_); focus (refine ⟨_, rfl, ?_⟩; with_reducible rfl)))
                 apply Exists.intro
                 refine ⟨fun Wq hW => ?_, hK _ ?_⟩
                 focus (have q0 := Grow.cell hW k1; have q1 := Grow.cell hW k2; go_simp; first | done | with_reducible rfl | (go_at_call 22; (first | with_reducible exact grown_call hW (HSM.out _ hW) | with_reducible exact grown_same hW (HSM.out _ hW))) | (go_at_call 21; (first | with_reducible exact grown_call hW (HLN.out _ hW) | with_reducible exact grown_same hW (HLN.out _ hW)))))
            clear hK K
            simp only [Act.put, List.setIfInBounds_toArray, List.set_cons_zero, List.set_cons_succ])
          with_reducible refine wpQuiet_nil ?_
          intro W9 g9
          have HG9 := hide (HG.out.trans g9)
          clear g9
          go_wp2
          go_roundw
          case rel => exact ⟨j + 1, HJ.out, rfl, HG9.out⟩
          case measure => have := HJ.out; simp [Go.RowKit.intOf]; omega
    · obtain ⟨b, off, K, G, Y, rfl, ⟨k0', k1', k2'⟩, wK, wG, wY⟩ := HR.out.one hlt
      have k0 := hz.g.cell k0'
      have k1 := hz.g.cell k1'
      have KC := hide (fun (W : World) (g : Grow w W) => g.cell k2')
      clear k0' k1' k2'
      have q1 : (i : Int) < len := by omega
      obtain ⟨X, hX, eX⟩ := q_of G
      have d3 : IntKind.i64.wrap ((i : Int) + 1) = ((i + 1 : Nat) : Int) := (w64 (by have := HL.out; omega)).trans (by omega)
      have HZ := hide hz
      have HI := hide hlt
      have HX := hide hX
      have HX1 := hide (at_q hX)
      have HFB := hide (hz.few.b (by have := HL.out; omega))
      have hX5 : (X : Int) + 1 < 5 := by omega
      have hX0 : (0 : Int) ≤ (X : Int) + 1 := by omega
      clear hz hi hlt hX
      by_cases hK : K = 2
      · subst hK
        go_wp2_with fail
        rw [eX]
        refine (poll_any HZ.out.q ((X : Int) + 1) HFB.out.2).mono ?_
        rintro e w3 ⟨rfl, c3, h3⟩
        cases hQX : Q X with
        | nil =>
          have e1 : poX Q ((X : Int) + 1) = 10 := by unfold poX; rw [HX1.out.1, if_pos rfl, HX1.out.2, hQX, if_pos rfl]
          have e2 : poQ Q ((X : Int) + 1) = Q := by unfold poQ; rw [HX1.out.1, if_pos rfl, HX1.out.2, hQX]; simp only [List.tail_nil]; rw [← hQX]; exact upd_self Q X
          rw [e2] at h3
          rw [e1]
          obtain ⟨⟨ai, ao, n, ci, co, kk1, kk2⟩, hz3⟩ := HZ.out.no HX.out hQX c3 h3
          have HZ3 := hide hz3
          clear h3 c3 e1 e2 hQX hz3 k0 k1
          go_wp2_with fail
          refine wp_region_grow (by kernel_rfl) (by kernel_rfl) ?_
          repeat (
            with_reducible refine wpQuiet_step ?_
            intro K hK
            first
              | ((with_reducible refine quiet_offT rfl ?_ (hK _ ?_)); focus (refine ⟨_, rfl, ?_⟩; with_reducible rfl))
              | ((with_reducible refine quiet_offF rfl ?_ (hK _ ?_)); focus (refine ⟨_, rfl, ?_⟩; with_reducible rfl))
              | ((with_reducible refine quiet_offN rfl ?_ (hK _ ?_)); focus (exact rfl))
              | ((first | with_reducible refine quiet_free rfl ?_ | ((with_reducible refine quiet_on rfl ?_ ?_); focus (refine ⟨_, rfl, ?_⟩; with_reducible rfl)))
                 apply Exists.intro
                 refine ⟨fun Wq hW => ?_, hK _ ?_⟩
                 focus (have q0 := Grow.cell hW kk1; have q1 := Grow.cell hW kk2; go_simp; first | done | with_reducible rfl))
            clear hK K
            simp only [Act.put, List.setIfInBounds_toArray, List.set_cons_zero, List.set_cons_succ])
          with_reducible refine wpQuiet_nil ?_
          intro W9 g9
          have HZ9 := hide (HZ3.out.grow g9)
          clear g9 kk1 kk2
          go_wp2_with fail
          exact ⟨⟨i + 1, _, _, _, _, _, _, _, _, HI.out, by rw [Int.natCast_add]; rfl, HZ9.out⟩, by have := HI.out; simp [Go.RowKit.intOf]; omega⟩
        | cons x l =>
          have e1 : poX Q ((X : Int) + 1) = 0 := by unfold poX; rw [HX1.out.1, if_pos rfl, HX1.out.2, hQX, if_neg (by simp)]
          have e2 : poQ Q ((X : Int) + 1) = upd Q X l := by unfold poQ; rw [HX1.out.1, if_pos rfl, HX1.out.2, hQX]; rfl
          have e3 : poV Q ((X : Int) + 1) = x := by unfold poV; rw [HX1.out.1, if_pos rfl, HX1.out.2, hQX]; rfl
          rw [e2] at h3
          rw [e1, e3]
          have hf := few_poll HZ.out.few ((X : Int) + 1)
          rw [e2] at hf
          obtain ⟨v, a4, n4, c4, W4, p1, p2, ⟨p3, p4⟩, B', p5⟩ := HZ.out.pop (by have := HL.out; have := HI.out; omega) HX.out hQX c3 h3 hf
          have KA := hide p2
          have HZ3 := hide p5
          clear h3 c3 e1 e2 e3 hQX hf p2 p5 k0 k1
          go_wp2_with (at_builtin; refine wpList_app rfl _ _ 25 rfl v (.slice (some ⟨w3.heap.size, 0, none⟩) 1 1) (.slice a4 n4 c4) _ W4 rfl rfl KA.out ?_)
          exact ⟨⟨i + 1, _, _, _, _, _, _, _, _, HI.out, by rw [Int.natCast_add]; rfl, HZ3.out⟩, by have := HI.out; simp [Go.RowKit.intOf]; omega⟩
      · have q2 : (K == 2) = false := by simpa using hK
        have k2o := KC.out _ HZ.out.g
        go_wp2_with fail
        rw [eX]
        refine (put_any HZ.out.q wY ((X : Int) + 1) HFB.out.1 HFB.out.2).mono ?_
        rintro e w3 ⟨rfl, c3, S3, h3, s3⟩
        have e0 : puX ((X : Int) + 1) = 0 := by unfold puX; rw [HX1.out.1]; rfl
        have hf3 := few_put HZ.out.few ((X : Int) + 1) Y
        clear k2o
        have k2 := KC.out _ (HZ.out.q.step HZ.out.g HZ.out.zz.1 c3)
        rw [e0]
        by_cases hE : Y ∈ E
        · have e1 : puB E ((X : Int) + 1) Y = false := by unfold puB; rw [HX1.out.1, decide_eq_true hE]; rfl
          have e2 : puQ Q E ((X : Int) + 1) Y = Q := by unfold puQ; rw [e1]; rfl
          have e3 : puE E ((X : Int) + 1) Y = E := by unfold puE; rw [e1]; rfl
          rw [e2, e3] at h3
          rw [e1]
          obtain ⟨hl, W2, hu, hz2⟩ := HZ.out.dup (by have := HL.out; have := HI.out; omega) wY hE c3 s3 h3
          have HZ2 := hide hz2
          clear h3 c3 s3 e0 e1 e2 e3 hE hf3 hz2 k0 k1
          go_wp2
          go_roundw
          case rel => exact ⟨i + 1, _, _, _, _, _, _, _, _, HI.out, rfl, HZ2.out⟩
          case measure => have := HI.out; simp [Go.RowKit.intOf]; omega
        · have e1 : puB E ((X : Int) + 1) Y = true := by unfold puB; rw [HX1.out.1, decide_eq_false hE]; rfl
          have e2 : puQ Q E ((X : Int) + 1) Y = upd Q X (Q X ++ [Y]) := by unfold puQ; rw [e1, if_pos rfl, HX1.out.2]
          have e3 : puE E ((X : Int) + 1) Y = E ++ [Y] := by unfold puE; rw [e1, if_pos rfl]
          rw [e2, e3] at h3 hf3
          rw [e1]
          obtain ⟨hl, v, a4, n4, c4, W4, p1, p2, ⟨p3, p4⟩, ⟨p5, p6⟩, W6, hu, A', hz2⟩ := HZ.out.add (by have := HL.out; have := HI.out; omega) HX.out wY hE c3 s3 h3 hf3
          have HZ2 := hide hz2
          have KA := hide p2
          have k4 := KC.out _ p5
          have k6 := KC.out _ p6
          have hkW : W4.cell? ⟨w1.heap.size + 1, X + 1, none⟩ = some v ∧ W4.cell? ⟨b, off + i * 3 + 2, none⟩ = some (.int .i64 Y) := ⟨p3, k4⟩
          have HCL := hide (fun (W : World) (g : Grow w3 W) => (⟨g.cell p1, g.cell k2⟩ : W.cell? ⟨w1.heap.size + 1, X + 1, none⟩ = some v ∧ W.cell? ⟨b, off + i * 3 + 2, none⟩ = some (.int .i64 Y)))
          clear h3 c3 s3 e0 e1 e2 e3 hE hf3 hz2 k0 k1 p2 p5 p6
          go_wp2_with fail
          have g1 := Grow.cell (Grow.box w3 (.cells #[.int .i64 Y] 3)) p1
          have g2 := Grow.cell (Grow.box w3 (.cells #[.int .i64 Y] 3)) k2
          clear hkW HCL
          go_region_law (refine step_app (by rfl) _ _ _ (by rfl) v (.slice (some ⟨w3.heap.size, 0, none⟩) 1 1) (.slice a4 n4 c4) W4 (by rfl) (by rfl) KA.out ?_)
          all_goals (go_wp2_with fail; exact ⟨⟨i + 1, _, _, _, _, _, _, _, _, HI.out, by rw [Int.natCast_add]; rfl, HZ2.out⟩, by have := HI.out; simp [Go.RowKit.intOf]; omega⟩)
end
theorem walk (a : Option Addr) (len cap : Nat) (rows : List (List Value)) (w : World) (hr : IsOps w a len cap rows) :
    Calls Try.prog 4 #[.slice a len cap] w fun e w' => e = .returned (.bool true) ∧ Below w.heap.size w w' := by
  by_cases h : 200 < len
  · exact walk_long h
  · exact walk_main hr (by omega)


theorem own : ownKnob Try.prog.godebug = none := by kernel_rfl
theorem laidOut : laidOutB Try.prog = true := by kernel_rfl

set_option maxRecDepth 100000 in
theorem lifted (os : Os) (started : os.Started) (H : Type) (enc : TypeId × Value → H) :
    ReturnsInHanded {} Try.checked os 4 .any (Rows.queueFifoSpec.pre6 enc Try.prog Try.f4 Rows.queueFifoRow.domain false) (Rows.queueFifoSpec.post enc Try.prog Try.f4 false true false false) := by
  refine returnsInHanded_of_change (C := Try.checked) own started (by kernel_rfl) Try.func4
    (ChangeSpec.witness6 (enc := enc) (C := Try.checked) false ⟨#[], #[.slice none 0 0], []⟩ 8 (by kernel_rfl) (by kernel_rfl) (by kernel_rfl) (by kernel_rfl)) ?_
  intro W base args ds gs before hval0 hW hcnd _
  have hval : ∀ (j : Nat) t v, Try.f4.params[j]? = some t → args[j]? = some v → Value.okWide Try.prog W .any base t v := hval0
  have hW' := hW
  obtain ⟨p, q, hA0, hV, rfl, hfz, hnd⟩ := hW
  have hA : DataW.TrodAll enc Try.prog W 0 (fun _ => true) true Try.f4.params.toList args.toList ds p := hA0
  rw [Try.params4] at hA hval
  obtain ⟨v0, vs0, d0, ds0, p0, q0, hargs, rfl, rfl, h0, r0⟩ := trodAll_cons hA
  obtain ⟨rfl, rfl, rfl⟩ := trodAll_nil r0
  obtain rfl : args = #[v0] := by cases args; simp_all
  obtain ⟨rfl, rfl⟩ := trodVars_none hV
  have k0 := h0
  have lt0 : ∀ x ∈ p0, x.block < W.heap.size := by obtain ⟨m, hm⟩ := k0; exact DataW.trod_lt m _ _ _ hm
  obtain ⟨a0, len0, cap0, rows0, rfl, w0⟩ := open_ops (hval 0 22 v0 rfl rfl) h0
  clear hA0 hval0
  refine (walk a0 len0 cap0 rows0 W w0).mono fun e W' ⟨he, bel⟩ => ?_
  subst he
  exact ⟨_, rfl, _, _, _, [], _, [], hW', trodAll_mk1 (shut_bool Try.underlying4 _), (trodAll_cons_mk (Below.trod laidOut (by kernel_rfl) (of_decide_eq_true (by kernel_rfl)) k0 bel lt0) trodAll_mk0), rfl, bel.frame _, fun h => by cases h⟩

theorem over : Rows.queueFifoRow.holds Try.pinned (OpenSpec.ofChange Rows.queueFifoSpec) :=
  OpenClaim.holds_of_wide 4 Try.f4 rfl rfl rfl rfl rfl rfl rfl ⟨rfl, rfl, rfl, rfl, rfl⟩ rfl rfl rfl rfl rfl (by kernel_rfl) Try.func4 (by kernel_rfl)
    (of_decide_eq_true (by kernel_rfl)) (by unfold Func.isWrapper; first | (rw [if_pos (by decide +kernel)]; kernel_rfl) | (rw [if_neg (by decide +kernel)]; exact ⟨rfl, rfl⟩))
    (fun os started H enc _ => lifted os started H enc)

/-- The statement. -/
theorem proved : Rows.QueueFifoSaid := over
#print axioms proved
end Go.Proofs.Ytgaoodjlcjmomaa.queueFifo


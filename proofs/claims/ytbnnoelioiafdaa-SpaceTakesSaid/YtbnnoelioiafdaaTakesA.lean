/- The walk through SpaceTakes where the space can be. Conditions: at most 200 words. -/
import Derived.Test.YtbnnoelioiafdaaAwake
import Derived.ShutString
namespace Go.Proofs.Ytbnnoelioiafdaa.spaceTakes
open Go.ChangeShapes Go.WideShapes Go.ChangeAt Go.RowKit
set_option linter.unusedVariables false

set_option maxHeartbeats 4000000 in
set_option maxRecDepth 100000 in
theorem walk_main (f n : Nat) (a2 : Option Addr) (len cap : Nat) (zs : List Int) (w : World) (hfn : f + n ≤ 4096) (h0 : IsRow .u8 w a2 len cap zs) (hl : len ≤ 200) :
    Calls Try.prog 4 #[.int .u16 f, .int .u16 n, .slice a2 len cap] w fun e w' => e = .returned (.bool true) ∧ Below w.heap.size w w' := by
  have H0 := hide h0
  clear h0
  have hl' : decide ((len : Int) > 200) = false := by simp; omega
  go_enter Try.func4, Try.ntmps4
  go_wp2_with fail
  refine (awake_any _).mono ?_
  rintro e wa ⟨rfl, ca⟩
  go_wp2_with fail
  refine (new_ok f n _ (by omega) (by omega) (by omega)).mono ?_
  rintro e w1 ⟨rfl, c1⟩
  have cc : Chg (fun i => w.heap.size ≤ i) w w1 := (ca.trans c1).mono (fun _ _ h => h.elim)
  clear ca c1
  have hb : w.heap.size ≤ w1.heap.size := cc.size
  have hs := Blk.new w1 25 [.int .i64 f, .int .i64 f, .int .i64 (f + n)]
  replace cc := cc.alloc (.cells [.int .i64 f, .int .i64 f, .int .i64 (f + n)].toArray 25)
  obtain ⟨s0, s1, s2⟩ := hs.cell3
  have hg := Blk.new (w1.alloc (.cells [.int .i64 f, .int .i64 f, .int .i64 (f + n)].toArray 25)) 25 [.int .i64 f, .int .i64 f, .int .i64 (f + n)]
  replace hs := hs.alloc (.cells [.int .i64 f, .int .i64 f, .int .i64 (f + n)].toArray 25)
  replace cc := cc.alloc (.cells [.int .i64 f, .int .i64 f, .int .i64 (f + n)].toArray 25)
  rw [World.size_alloc] at hg
  go_wp2
  clear s0 s1 s2
  generalize (w1.alloc (.cells #[.int .i64 f, .int .i64 f, .int .i64 (f + n)] 25)).alloc (.cells #[.int .i64 f, .int .i64 f, .int .i64 (f + n)] 25) = ws at *
  generalize w1.heap.size = b at *
  clear hl'
  go_loopw [45, 10] (fun i nx wr => ∃ k q : Nat, k ≤ len ∧ q ≤ n ∧ i = .int .i64 k ∧ nx = .int .i64 (f + q) ∧ Sp wr b f (f + q) (f + n) ∧ Sp wr (b + 1) f f (f + n) ∧ Chg (fun i => w.heap.size ≤ i) w wr) (fun i _ _ => len - (intOf i).toNat)
  case atStart => exact ⟨0, 0, Nat.zero_le _, Nat.zero_le _, rfl, by simp, by simpa using hs, hg, cc⟩
  case round =>
    clear hs hg cc
    obtain ⟨k, q, hk, hq, rfl, rfl, hs, hg, cc⟩ := hrel
    have hr : riB f (f + q) (f + n) = true := by simp [riB]; omega
    have HR := hide hr
    clear hr
    by_cases hlt : k < len
    · obtain ⟨ad, rfl, hcell, hwf⟩ := (H0.out.chg cc (fun i hi => by omega)).at_ hlt
      have bz := bounds_u8 hwf
      obtain ⟨z, hz⟩ : ∃ z : Nat, zs.getD k 0 = z := ⟨(zs.getD k 0).toNat, by omega⟩
      rw [hz] at hcell bz
      clear hz hwf
      obtain ⟨s0, s1, s2⟩ := hs.cell3
      by_cases hfit : q + (1 + z) ≤ n
      · have hr' : riB f (f + q + (1 + z)) (f + n) = true := by simp [riB]; omega
        have HR' := hide hr'
        clear hr'
        have H1 := hide (show hasB f (f + q + (1 + z)) (f + n) (f + q) = true by simp [hasB, HR'.out]; omega)
        have H2 := hide (show hasB f (f + q + (1 + z)) (f + n) (f + q + (1 + z) - 1) = true by simp [hasB, HR'.out]; omega)
        have H3 := hide (show hasB f (f + q + (1 + z)) (f + n) (f + q + (1 + z)) = false by simp [hasB])
        have H4 := hide (show hasB f (f + q) (f + n) (f + q) = false by simp [hasB])
        go_wp2_with fail
        refine (take_ok f (f + q) (f + n) (1 + z) _ HR.out (by omega) (by omega)).mono ?_
        rintro e w2 ⟨rfl, c_w2⟩
        replace hs := hs.chg c_w2 id
        replace hg := hg.chg c_w2 id
        replace cc := cc.step c_w2 (fun _ _ h => h.elim)
        clear c_w2 s0 s1 s2 hcell
        have nbt : ¬ b = w2.heap.size := by have := hs.lt; omega
        have ht := Blk.new w2 25 [.int .i64 f, .int .i64 (f + q + (1 + z)), .int .i64 (f + n)]
        replace hs := hs.alloc (.cells [.int .i64 f, .int .i64 (f + q + (1 + z)), .int .i64 (f + n)].toArray 25)
        replace hg := hg.alloc (.cells [.int .i64 f, .int .i64 (f + q + (1 + z)), .int .i64 (f + n)].toArray 25)
        replace cc := cc.alloc (.cells [.int .i64 f, .int .i64 (f + q + (1 + z)), .int .i64 (f + n)].toArray 25)
        go_wp2_with fail
        generalize w2.alloc (.cells #[.int .i64 f, .int .i64 (f + q + (1 + z)), .int .i64 (f + n)] 25) = wt at *
        generalize w2.heap.size = t at *
        obtain ⟨s0, s1, s2⟩ := hs.cell3
        obtain ⟨t0, t1, t2⟩ := ht.cell3
        have wr1 : IntKind.i64.wrap ((f : Int) + q + (1 + z)) = f + q + (1 + z) := IntWalk.i64_in _ (by omega)
        have wr2 : IntKind.i64.wrap ((f : Int) + q + (1 + z) - 1) = f + q + (1 + z) - 1 := IntWalk.i64_in _ (by omega)
        have wr3 : IntKind.i64.wrap ((q : Int) + (1 + z)) = q + (1 + z) := IntWalk.i64_in _ (by omega)
        have wr4 : IntKind.i64.wrap ((n : Int) - q - (1 + z)) = n - q - (1 + z) := IntWalk.i64_in _ (by omega)
        have U1 := hide (show (f : Int) + q - f = q by omega)
        have U2 := hide (show (f : Int) + q + (1 + z) - f = q + (1 + z) by omega)
        have U3 := hide (show (f : Int) + n - (f + q) = n - q by omega)
        have U4 := hide (show (f : Int) + n - (f + q + (1 + z)) = n - q - (1 + z) by omega)
        have HS := hide hs
        have HG := hide hg
        have HT := hide ht
        have CC := hide cc
        clear hs hg ht cc
        refine wp_region_grow (by kernel_rfl) (by kernel_rfl) ?_
        repeat (
          with_reducible refine wpQuiet_step ?_
          intro K hK
          first
            | ((with_reducible refine quiet_offT rfl ?_ (hK _ ?_)); focus (refine ⟨_, rfl, ?_⟩; with_reducible rfl))
            | ((with_reducible refine quiet_offF rfl ?_ (hK _ ?_)); focus (refine ⟨_, rfl, ?_⟩; with_reducible rfl))
            | ((with_reducible refine quiet_offN rfl ?_ (hK _ ?_)); focus (exact rfl))
            | ((first | with_reducible refine quiet_free rfl ?_ | ((with_reducible refine quiet_on rfl ?_ ?_); focus (refine ⟨_, rfl, ?_⟩; with_reducible rfl)))
               apply Exists.intro
               refine ⟨fun W hW => ?_, hK _ ?_⟩
               focus (have q0 := Grow.cell hW s0; have q1 := Grow.cell hW s1; have q2 := Grow.cell hW s2; have q3 := Grow.cell hW t0; have q4 := Grow.cell hW t1; have q5 := Grow.cell hW t2; go_simp; first | done | with_reducible rfl | (go_at_call 16; with_reducible exact grown_call hW (has_is f (f + q + (1 + z)) (f + n) (f + q) _ H1.out)) | (go_at_call 16; with_reducible exact grown_call hW (has_is f (f + q + (1 + z)) (f + n) (f + q + (1 + z) - 1) _ H2.out)) | (go_at_call 16; with_reducible exact grown_call hW (has_is f (f + q + (1 + z)) (f + n) (f + q + (1 + z)) _ H3.out)) | (go_at_call 16; with_reducible exact grown_call hW (has_is f (f + q) (f + n) (f + q) _ H4.out)) | (go_at_call 18; with_reducible exact grown_call hW (used_is f (f + q) (f + n) _ HR.out U1.out)) | (go_at_call 18; with_reducible exact grown_call hW (used_is f (f + q + (1 + z)) (f + n) _ HR'.out U2.out)) | (go_at_call 19; with_reducible exact grown_call hW (room_is f (f + q) (f + n) _ HR.out U3.out)) | (go_at_call 19; with_reducible exact grown_call hW (room_is f (f + q + (1 + z)) (f + n) _ HR'.out U4.out))))
          clear hK K
          simp only [Act.put, List.setIfInBounds_toArray, List.set_cons_zero, List.set_cons_succ])
        with_reducible refine wpQuiet_nil ?_
        intro w4 c4
        have hs := HS.out.chg c4 id
        have hg := HG.out.chg c4 id
        have ht := HT.out.chg c4 id
        have cc := CC.out.step c4 (fun _ _ h => h.elim)
        clear HS HG HT CC c4 s0 s1 s2 t0 t1 t2 wr1 wr2 wr3 wr4 U1 U2 U3 U4
        obtain ⟨s0, s1, s2⟩ := hs.cell3
        obtain ⟨t0, t1, t2⟩ := ht.cell3
        have f0 := hs.frozen 0
        have f1 := hs.frozen 1
        have f2 := hs.frozen 2
        have HS := hide (((hs.set_ 0 (.int .i64 f)).set_ 1 (.int .i64 (f + q + (1 + z)))).set_ 2 (.int .i64 (f + n)))
        have HG := hide (((hg.far (p := ⟨b, 0, none⟩) (by simp) (.int .i64 f)).far (p := ⟨b, 1, none⟩) (by simp) (.int .i64 (f + q + (1 + z)))).far (p := ⟨b, 2, none⟩) (by simp) (.int .i64 (f + n)))
        have CC := hide (((cc.setCell (p := ⟨b, 0, none⟩) (fun _ => hb) (.int .i64 f)).setCell (p := ⟨b, 1, none⟩) (fun _ => hb) (.int .i64 (f + q + (1 + z)))).setCell (p := ⟨b, 2, none⟩) (fun _ => hb) (.int .i64 (f + n)))
        clear hs hg ht cc
        go_wp2
        go_roundw
        case rel => exact ⟨k + 1, q + (1 + z), by omega, by omega, by go_num, by simp [Int.add_assoc], by have := HS.out; simpa [Int.add_assoc] using this, HG.out, CC.out⟩
        case measure => simp [intOf]; omega
      · have hd : decide ((f : Int) + q + (1 + z) ≤ f + n) = false := by simp; omega
        have HD := hide (show (f : Int) + n - (f + q) < 1 + z by omega)
        go_wp2_with fail
        refine (take_full f (f + q) (f + n) (1 + z) _ (by omega) HR.out (by omega) HD.out).mono ?_
        rintro e w2 ⟨rfl, c_w2⟩
        replace hs := hs.chg c_w2 id
        replace hg := hg.chg c_w2 id
        replace cc := cc.step c_w2 (fun _ _ h => h.elim)
        clear c_w2 s0 s1 s2 hcell
        have ht := Blk.new w2 25 [.int .i64 0, .int .i64 0, .int .i64 0]
        replace hs := hs.alloc (.cells [.int .i64 0, .int .i64 0, .int .i64 0].toArray 25)
        replace hg := hg.alloc (.cells [.int .i64 0, .int .i64 0, .int .i64 0].toArray 25)
        replace cc := cc.alloc (.cells [.int .i64 0, .int .i64 0, .int .i64 0].toArray 25)
        have HS := hide hs
        have HG := hide hg
        have CC := hide cc
        clear hs hg cc ht
        go_wp2
        go_roundw
        case rel => exact ⟨k + 1, q, by omega, by omega, by go_num, rfl, HS.out, HG.out, CC.out⟩
        case measure => simp [intOf]; omega
    · obtain rfl : len = k := by omega
      go_wp2_with fail
      obtain ⟨s0, s1, s2⟩ := hs.cell3
      obtain ⟨g0, g1, g2⟩ := hg.cell3
      have wr1 : IntKind.i64.wrap ((q : Int) + (n - q)) = n := by rw [show (q : Int) + (n - q) = n by omega]; exact IntWalk.i64_in _ (by omega)
      have wr5 : IntKind.i64.wrap (n : Int) = n := IntWalk.i64_in _ (by omega)
      have U1 := hide (show (f : Int) + q - f = q by omega)
      have U3 := hide (show (f : Int) + n - (f + q) = n - q by omega)
      clear hs hg
      refine wp_region_grow (by kernel_rfl) (by kernel_rfl) ?_
      repeat (
        with_reducible refine wpQuiet_step ?_
        intro K hK
        first
          | ((with_reducible refine quiet_offT rfl ?_ (hK _ ?_)); focus (refine ⟨_, rfl, ?_⟩; with_reducible rfl))
          | ((with_reducible refine quiet_offF rfl ?_ (hK _ ?_)); focus (refine ⟨_, rfl, ?_⟩; with_reducible rfl))
          | ((with_reducible refine quiet_offN rfl ?_ (hK _ ?_)); focus (exact rfl))
          | ((first | with_reducible refine quiet_free rfl ?_ | ((with_reducible refine quiet_on rfl ?_ ?_); focus (refine ⟨_, rfl, ?_⟩; with_reducible rfl)))
             apply Exists.intro
             refine ⟨fun W hW => ?_, hK _ ?_⟩
             focus (have q0 := Grow.cell hW s0; have q1 := Grow.cell hW s1; have q2 := Grow.cell hW s2; have q3 := Grow.cell hW g0; have q4 := Grow.cell hW g1; have q5 := Grow.cell hW g2; go_simp; first | done | with_reducible rfl | (go_at_call 18; with_reducible exact grown_call hW (used_is f (f + q) (f + n) _ HR.out U1.out)) | (go_at_call 19; with_reducible exact grown_call hW (room_is f (f + q) (f + n) _ HR.out U3.out)) | (go_at_call 20; with_reducible exact grown_call hW (empty_ok f (f + q) (f + n) _ HR.out)) | (go_at_call 15; with_reducible exact grown_call hW (right_is f (f + q) (f + n) _ HR.out))))
        clear hK K
        simp only [Act.put, List.setIfInBounds_toArray, List.set_cons_zero, List.set_cons_succ])
      with_reducible refine wpQuiet_nil ?_
      intro w4 c4
      clear wr1 wr5
      go_wp2
      go_ret
      exact ⟨rfl, (cc.step c4 (fun _ _ h => h.elim)).below (fun i hi => by omega) (Nat.le_refl _)⟩
end Go.Proofs.Ytbnnoelioiafdaa.spaceTakes

/- The plain set: Put as a whole; Add. Conditions: at most 1000000 things; sums that fit an int. -/
import Derived.Test.YtgaoodjlcjmomaaL12RefP
import Derived.Test.YtgaoodjlcjmomaaL12Nm
namespace Go.Proofs.Ytgaoodjlcjmomaa.L12
open Go.ChangeShapes Go.WideShapes Go.ChangeAt Go.RowKit
set_option linter.unusedVariables false
section
variable {w w' W W5 w0 : World} {z p n i j b : Nat} {S T : Nat → Prop} {v : Nat → Value} {Q : Nat → List Int} {E l xs : List Int} {x q m least : Int} {a : Option Addr}
/-- Put. -/
theorem rput_any (h : RS w z p S Q E) (q : Int) (hb : E.length < 1000000) (hl : ∀ i, i < 4 → (Q i).length < 1000000) :
    Calls Try.prog 13 #[ptr p, .int .i64 q, .int .i64 x] w fun e w' => e = .returned (.tuple #[.bool (puB E q x), .int .i64 (puX q)]) ∧ Chg S w w' ∧ ∃ S', RS w' z p S' (puQ Q E q x) (puE E q x) ∧ ∀ k, S' k → S k ∨ w.heap.size ≤ k := by
  cases hq : isQ q with
  | false =>
    refine (rput_out hq p w).mono fun e w' ⟨h1, h2⟩ => ?_
    subst h2
    refine ⟨?_, Chg.refl _ _, S, ?_, fun k hk => .inl hk⟩
    · rw [h1]; simp [puB, puX, hq]
    · simpa [puQ, puE, puB, hq] using h
  | true =>
    obtain ⟨hi, e⟩ := isQ_yes hq
    by_cases hm : x ∈ E
    · have := rput_was h hi hb (hl _ hi) hm
      rw [← e] at this
      refine this.mono fun e w' ⟨h1, h2⟩ => ⟨?_, h2.mono fun _ _ h => h.elim, S, ?_, fun k hk => .inl hk⟩
      · rw [h1]; simp [puB, puX, hq, hm]
      · simpa [puQ, puE, puB, hq, hm] using h.grow h2
    · have := rput_new h hi hb (hl _ hi) hm
      rw [← e] at this
      refine this.mono fun e w' ⟨h1, h2, S', h3, h4⟩ => ⟨?_, h2, S', ?_, h4⟩
      · rw [h1]; simp [puB, puX, hq, hm]
      · simpa [puQ, puE, puB, hq, hm] using h3
def adF (m x : Int) : Int := x + m
/-- What Add keeps of what was ever put in. -/
def adR (m least : Int) (Q : Nat → List Int) (E : List Int) : List Int := (E.filter fun x => decide (x + m ∈ (cat Q 4).map (adF m)) || decide (least ≤ x)).map (adF m)
/-- Within the first loop. -/
structure Ra (w0 w : World) (z p : Nat) (S : Nat → Prop) (v : Nat → Value) (Q : Nat → List Int) (E : List Int) (m : Int) (i j : Nat) : Prop where
  f : Fv w z p 32 S v (upd (qc (adF m) Q i j) 4 E)
  c : Chg S w0 w
theorem qc_not4 {f : Int → Int} : upd (qc f Q i (Q i).length) 4 E = upd (qc f Q (i + 1) 0) 4 E := by rw [qc_next]
/-- One step of the first loop. -/
theorem Ra.step (h : Ra w0 w z p S v Q E m i j) (hi : i < 4) (hj : j < (Q i).length) (hl : (Q i).length < 1000000) :
    ∃ g off cap, v i = .slice (some ⟨g, off, none⟩) (Q i).length cap ∧ w.cell? ⟨p, i, none⟩ = some (.slice (some ⟨g, off, none⟩) (Q i).length cap) ∧ w.cell? ⟨g, off + j, none⟩ = some (.int .i64 ((Q i).getD j 0)) ∧ w.frozen? ⟨g, off + j, none⟩ = false ∧
      Ra w0 (w.drew.setCell ⟨g, off + j, none⟩ (.int .i64 ((Q i).getD j 0 + m))) z p S v Q E m i (j + 1) := by
  have hq := h.f.ls.ql i (by omega)
  rw [q4 hi] at hq
  have hlen : (qc (adF m) Q i j i).length = (Q i).length := qc_len i j i
  obtain ⟨g, off, cap, hv, hzg, hg, hcap, hmax⟩ := hq.pos (by omega)
  have hqs := hq
  rw [hv] at hqs
  obtain ⟨hc, hfr⟩ := hqs.cell (k := j) (by omega)
  rw [qc_get hj] at hc
  have hset := hqs.set (k := j) (by omega) (adF m ((Q i).getD j 0))
  have hqset : upd (qc (adF m) Q i j) i ((qc (adF m) Q i j i).set j (adF m ((Q i).getD j 0))) = qc (adF m) Q i (j + 1) := qc_set hj
  have hob : (v i).ownBlock = some g := by rw [hv]; rfl
  have c1 : Chg (· = g) w (w.drew.setCell ⟨g, off + j, none⟩ (.int .i64 ((Q i).getD j 0 + m))) := (Chg.refl _ _).drew.set1 _ _
  have hpg : p ≠ g := fun e => hq.ne h.f.blk (by decide) (by rw [hob, e])
  have hSg : S g := h.f.sq i (by omega) g hob
  have hls1 := h.f.ls.upd (w' := w.drew.setCell ⟨g, off + j, none⟩ (.int .i64 ((Q i).getD j 0 + m))) (show i < 5 by omega) hset c1 (fun k hk hki b hb e => h.f.ls.ap k i hk (by omega) hki b hb (by rw [e]; exact hob)) (fun k hk => .inl (by rw [hv]; exact hk))
  rw [← hv, upd_self, ← upd_comm _ (show i ≠ 4 by omega), hqset] at hls1
  rw [hlen] at hv
  refine ⟨g, off, cap, hv, by rw [← hv]; exact h.f.cell (by omega), hc, hfr, ⟨h.f.blk.chg c1 hpg, hls1, h.f.sg, h.f.sq, fun k hk => ⟨(h.f.s k hk).1, Nat.lt_of_lt_of_le (h.f.s k hk).2 c1.size⟩⟩, h.c.step c1 fun k _ e => by rw [e]; exact hSg⟩
set_option maxRecDepth 100000 in
set_option maxHeartbeats 4000000 in
theorem radd_any (h : RS w z p S Q E) (hb : E.length < 1000000) (hl : ∀ i, i < 4 → (Q i).length < 1000000) (hin : ∀ i, i < 4 → ∀ x ∈ Q i, -1000000000 ≤ x ∧ x ≤ 1000000000) (hE : ∀ x ∈ E, -1000000000 ≤ x ∧ x ≤ 1000000000) (hm : 0 ≤ m ∧ m ≤ 1000) :
    Calls Try.prog 18 #[ptr p, .int .i64 m, .int .i64 least] w fun e w' => e = .returned (.tuple #[]) ∧ Chg S w w' ∧ ∃ S', RS w' z p S' (rnQ (adF m) Q) (adR m least Q E) ∧ ∀ k, S' k → S k ∨ w.heap.size ≤ k := by
  obtain ⟨v, h⟩ := h
  have H0 := hide (show Ra w w z p S v Q E m 0 0 from ⟨by rw [qc_start]; exact h, Chg.refl _ _⟩)
  have HB := hide (And.intro hb hl)
  have HIN := hide hin
  have HE := hide hE
  have HM := hide hm
  clear h hb hl hin hE hm
  go_enter Try.func18, Try.ntmps18
  go_wp2_with fail
  go_loopw [6] (fun c wr => ∃ i : Nat, i ≤ 4 ∧ c = .int .i64 i ∧ Ra w wr z p S v Q E m i 0) (fun c _ => 4 - (Go.RowKit.intOf c).toNat)
  case atStart => exact ⟨0, by omega, rfl, H0.out⟩
  case round =>
    clear H0
    obtain ⟨i, hi, rfl, hr⟩ := hrel
    rcases Nat.eq_or_lt_of_le hi with rfl | hlt
    · have hrs : RS wr z p S (rnQ (adF m) Q) E := FS.congr ⟨v, hr.f⟩ fun k hk => by
        by_cases e : k = 4
        · rw [e, upd_at, upd_at]
        · rw [upd_ne _ _ e, upd_ne _ _ e, qc_end]
          exact if_pos (by omega)
      have HRS := hide hrs
      have HC := hide hr.c
      have hbn : ∀ i, i < 4 → (rnQ (adF m) Q i).length < 1000000 := fun i hi => by unfold rnQ; rw [List.length_map]; exact HB.out.2 i hi
      have HAL := hide (rall_any hrs hbn)
      clear hr hi hrs hbn
      go_wp2_with fail
      refine HAL.out.mono ?_
      rintro e w5 ⟨a2, c2, rfl, h5, g5⟩
      rw [cat_rn] at h5 ⊢
      obtain ⟨M, hM⟩ : ∃ M, (cat Q 4).map (adF m) = M := ⟨_, rfl⟩
      rw [hM] at h5 ⊢
      have HMM := hide hM
      have hML : M.length < 10000000 := by rw [← hM, List.length_map]; have := cat_len HB.out.2 4 (Nat.le_refl _); omega
      have HML := hide hML
      have HRM := hide (show L1.Rd w5 a2 M.length M by
        obtain ⟨a', c', e, hr⟩ := h5.form
        injection e with e1 e2 e3
        rw [e1]
        exact hr)
      have HRS5 := hide (HRS.out.grow g5)
      have HC5 := hide (HC.out.step g5 fun _ _ h => h.elim)
      obtain ⟨v5, hv5⟩ := HRS5.out
      have HV5 := hide hv5
      obtain ⟨a4, c4, e4, r4⟩ := (hv5.ls.ql 4 (by omega)).form
      have k4 := hv5.cell (show 4 < 5 by omega)
      rw [upd_at] at e4 r4
      rw [e4] at k4
      obtain ⟨N2, hN2⟩ : ∃ N, M.length = N := ⟨_, rfl⟩
      obtain ⟨NE, hNE⟩ : ∃ N, E.length = N := ⟨_, rfl⟩
      rw [hN2] at HRM ⊢
      rw [hNE] at r4 k4
      have HN2 := hide hN2
      have HNE := hide hNE
      have HRE := hide r4
      have HK4 := hide k4
      have HZZ := hide g5.size
      clear h5 g5 hM hML hv5 e4 r4 hN2 hNE HRS HC HAL
      go_wp2_with fail
      go_loopw [8, 54] (fun o c wr => ∃ k : Nat, k ≤ NE ∧ c = .int .i64 k ∧ QL wr w5.heap.size o (((E.take k).filter fun x => decide (x + m ∈ M) || decide (least ≤ x)).map (adF m)) ∧ Grow w5 wr) (fun _ c _ => NE - (Go.RowKit.intOf c).toNat)
      case atStart => exact ⟨0, Nat.zero_le _, rfl, ql_nil _ _, Chg.refl _ _⟩
      case round =>
        clear k4
        obtain ⟨k, hk, rfl, ho, hg⟩ := hrel
        generalize wr = wq at *
        rcases Nat.eq_or_lt_of_le hk with rfl | hlt
        · have q1 : decide ((k : Int) < k) = false := by simp
          have e : E.take k = E := by rw [← HNE.out, List.take_length]
          rw [e, HMM.out.symm] at ho
          have hR : (E.filter fun x => decide (x + m ∈ (cat Q 4).map (adF m)) || decide (least ≤ x)).map (adF m) = adR m least Q E := rfl
          rw [hR] at ho
          have hz := HV5.out.s p HV5.out.sg
          have hb5 := HV5.out.blk.chg hg id
          have kc4 : wq.cell? ⟨p, 4, none⟩ = some (v5 4) := hb5.cell 4
          have kf4 := hb5.frozen 4
          have hF := HV5.out.put (by decide) (show 4 < 5 by omega) (ho.lower (by omega)) hg (fun _ _ h => h.elim) fun k hk => .inr (ho.lt k hk).1
          rw [upd_upd] at hF
          have hC : Chg S w (wq.setCell ⟨p, 4, none⟩ u8) := (HC5.out.step hg fun _ _ h => h.elim).setCell (p := ⟨p, 4, none⟩) (fun _ => HV5.out.sg) _
          have HFIN := hide (show Chg S w (wq.setCell ⟨p, 4, none⟩ u8) ∧ ∃ S', RS (wq.setCell ⟨p, 4, none⟩ u8) z p S' (rnQ (adF m) Q) (adR m least Q E) ∧ ∀ k, S' k → S k ∨ w.heap.size ≤ k from ⟨hC, _, ⟨_, hF⟩, fun k hk => hk.elim .inl fun e => .inr (by have := (ho.lt k e).1; have := HZZ.out; have := HC5.out.size; omega)⟩)
          obtain ⟨ao, co, rfl, -⟩ := ho.form
          clear ho hg hk e hR hz hb5 hF hC
          go_wp2
          go_returns
          exact ⟨rfl, HFIN.out⟩
        · obtain ⟨ae, rfl, hce⟩ := HRE.out.at_ hlt
          have hkE : k < E.length := by rw [HNE.out]; exact hlt
          have hee := HE.out _ (getD_in hkE)
          have hmm := HM.out
          have d1 : IntKind.i64.wrap (E.getD k 0 + m) = E.getD k 0 + m := w64 (by omega)
          have d3 : IntKind.i64.wrap ((k : Int) + 1) = ((k + 1 : Nat) : Int) := (w64 (by have := HB.out.1; have := HNE.out; omega)).trans (by omega)
          have q2 : (k : Int) < NE := by omega
          have q3 : (0 : Int) ≤ k := by omega
          have HTK := hide (show E.take (k + 1) = E.take k ++ [E.getD k 0] by
            rw [List.take_add_one, List.getElem?_eq_getElem hkE, List.getD_eq_getElem?_getD, List.getElem?_eq_getElem hkE]
            rfl)
          have HO := hide ho
          have HG := hide hg
          have HK := hide hlt
          clear ho hg hk hlt hkE hee hmm
          generalize E.getD k 0 = y at *
          go_wp2_with fail
          go_loopw [11, 59] (fun t c w2 => ∃ j : Nat, j ≤ N2 ∧ c = .int .i64 j ∧ t = .bool (decide (y + m ∈ M.take j)) ∧ Grow wq w2) (fun _ c _ => N2 - (Go.RowKit.intOf c).toNat)
          case atStart => exact ⟨0, Nat.zero_le _, rfl, by simp, Chg.refl _ _⟩
          case round =>
            obtain ⟨j, hj, rfl, rfl, hg2⟩ := hrel
            have kc4 := Grow.cell (HG.out.trans hg2) HK4.out
            have kce := Grow.cell (HG.out.trans hg2) hce
            rcases Nat.eq_or_lt_of_le hj with rfl | hlt
            · have q1 : decide ((j : Int) < j) = false := by simp
              have eM : M.take j = M := by rw [← HN2.out, List.take_length]
              rw [eM]
              have HG2 := hide (HG.out.trans hg2)
              have HO2 := hide (HO.out.grow hg2)
              have HRE2 := hide (Rd.grow HRE.out (HG.out.trans hg2))
              clear hg2 hj eM HO HG
              have fk : ∀ b : Bool, (decide (y + m ∈ M) || decide (least ≤ y)) = b → ((E.take (k + 1)).filter fun x => decide (x + m ∈ M) || decide (least ≤ x)).map (adF m) = ((E.take k).filter fun x => decide (x + m ∈ M) || decide (least ≤ x)).map (adF m) ++ (if b then [y + m] else []) := fun b hb => by
                rw [HTK.out, List.filter_append, List.map_append]
                congr 1
                cases b
                · simp [hb]
                · simp [hb, adF]
              have HFK := hide fk
              clear fk
              by_cases hin : y + m ∈ M
              · rw [decide_eq_true hin]
                have hb2 : (decide (y + m ∈ M) || decide (least ≤ y)) = true := by rw [decide_eq_true hin]; rfl
                clear hin
                have HF := hide (HFK.out true hb2)
                obtain ⟨v', W', hr, ho', cg', -⟩ := app_more (c0 := 1) (HG2.out.trans (Grow.box wr (.cells #[.int .i64 (y + m)] 3))) (HO2.out.grow (Grow.box wr _)) (rd_one wr (y + m)) (by rw [List.length_map]; have h1 := List.length_filter_le (fun x => decide (x + m ∈ M) || decide (least ≤ x)) (E.take k); have h2 : (E.take k).length ≤ E.length := (by simp; omega); have h3 := HB.out.1; omega)
                have KA := hide hr
                have HO3 := hide ho'
                have HG3 := hide cg'
                clear hr ho' cg' hb2
                go_wp2_with (at_builtin; refine wpList_app rfl _ _ 25 rfl u8 (.slice (some ⟨wr.heap.size, 0, none⟩) 1 1) v' _ W' rfl rfl KA.out ?_)
                go_roundw
                case rel => exact ⟨k + 1, HK.out, rfl, by rw [HF.out]; exact HO3.out, HG3.out⟩
                case measure => have := HK.out; simp [Go.RowKit.intOf]; omega
              · rw [decide_eq_false hin]
                by_cases hle : least ≤ y
                · have hb2 : (decide (y + m ∈ M) || decide (least ≤ y)) = true := by rw [decide_eq_true hle, Bool.or_true]
                  have q8 : decide (y ≥ least) = true := decide_eq_true hle
                  clear hin hle
                  have HF := hide (HFK.out true hb2)
                  obtain ⟨v', W', hr, ho', cg', -⟩ := app_more (c0 := 1) (HG2.out.trans (Grow.box wr (.cells #[.int .i64 (y + m)] 3))) (HO2.out.grow (Grow.box wr _)) (rd_one wr (y + m)) (by rw [List.length_map]; have h1 := List.length_filter_le (fun x => decide (x + m ∈ M) || decide (least ≤ x)) (E.take k); have h2 : (E.take k).length ≤ E.length := (by simp; omega); have h3 := HB.out.1; omega)
                  have KA := hide hr
                  have HO3 := hide ho'
                  have HG3 := hide cg'
                  clear hr ho' cg' hb2
                  go_wp2_with (at_builtin; refine wpList_app rfl _ _ 25 rfl u8 (.slice (some ⟨wr.heap.size, 0, none⟩) 1 1) v' _ W' rfl rfl KA.out ?_)
                  go_roundw
                  case rel => exact ⟨k + 1, HK.out, rfl, by rw [HF.out]; exact HO3.out, HG3.out⟩
                  case measure => have := HK.out; simp [Go.RowKit.intOf]; omega
                · have hb2 : (decide (y + m ∈ M) || decide (least ≤ y)) = false := by rw [decide_eq_false hin, decide_eq_false hle]; rfl
                  have q8 : decide (y ≥ least) = false := decide_eq_false hle
                  have HF := hide (HFK.out false hb2)
                  clear hin hle hb2
                  go_wp2
                  go_roundw
                  case rel => exact ⟨k + 1, HK.out, rfl, by rw [HF.out]; simpa using HO2.out, HG2.out⟩
                  case measure => have := HK.out; simp [Go.RowKit.intOf]; omega
            · obtain ⟨am, rfl, hcm⟩ := (Rd.grow HRM.out (HG.out.trans hg2)).at_ hlt
              have hjM : j < M.length := by rw [HN2.out]; exact hlt
              have d4 : IntKind.i64.wrap ((j : Int) + 1) = ((j + 1 : Nat) : Int) := (w64 (by have := HML.out; have := HN2.out; omega)).trans (by omega)
              have q6 : (j : Int) < N2 := by omega
              have q7 : (0 : Int) ≤ j := by omega
              have HTJ := hide (show ∀ u, u ∈ M.take (j + 1) ↔ u ∈ M.take j ∨ u = M.getD j 0 from fun u => by
                rw [List.take_add_one, List.getElem?_eq_getElem hjM, List.getD_eq_getElem?_getD, List.getElem?_eq_getElem hjM]
                simp only [List.mem_append, Option.toList_some, List.mem_singleton, Option.getD_some])
              have HG2 := hide hg2
              have HJ := hide hlt
              clear hg2 hj hlt hjM
              generalize M.getD j 0 = u at *
              by_cases hin : y + m ∈ M.take j
              · have HIN2 := hide ((HTJ.out _).2 (.inl hin))
                rw [decide_eq_true hin]
                clear hin
                go_wp2_with fail
                refine wp_region_grow (by kernel_rfl) (by kernel_rfl) ?_
                repeat (
                  with_reducible refine wpQuiet_step ?_
                  intro K hK
                  first
                    | ((with_reducible refine quiet_offT rfl ?_ (hK _ ?_)); focus (refine ⟨_, rfl, ?_⟩; with_reducible rfl))
                    | ((with_reducible refine quiet_offF rfl ?_ (hK _ ?_)); focus (refine ⟨_, rfl, ?_⟩; with_reducible rfl))
                    | ((with_reducible refine quiet_offN rfl ?_ (hK _ ?_)); focus (exact rfl))
                    | ((first | with_reducible refine quiet_free rfl ?_ | ((with_reducible refine quiet_on rfl ?_ ?_); focus (refine ⟨_, rfl, ?_⟩; with_reducible rfl)))
                       apply Exists.intro
                       refine ⟨fun Wq hW => ?_, hK _ ?_⟩
                       focus (have q0 := Grow.cell hW kc4; have q1 := Grow.cell hW kce; have q2 := Grow.cell hW hcm; go_simp; first | done | with_reducible rfl))
                  clear hK K
                  simp only [Act.put, List.setIfInBounds_toArray, List.set_cons_zero, List.set_cons_succ])
                with_reducible refine wpQuiet_nil ?_
                intro W9 g9
                have HG9 := hide (HG2.out.trans g9)
                clear g9
                go_wp2
                go_roundw
                case rel => exact ⟨j + 1, HJ.out, rfl, by rw [decide_eq_true HIN2.out], HG9.out⟩
                case measure => have := HJ.out; simp [Go.RowKit.intOf]; omega
              · rw [decide_eq_false hin]
                have HIN2 := hide (show (y + m ∈ M.take (j + 1)) ↔ u = y + m from (HTJ.out _).trans ⟨fun h => h.elim (fun h => absurd h hin) fun e => e.symm, fun e => .inr e.symm⟩)
                clear hin
                by_cases hu : u = y + m
                · subst hu
                  have HIN3 := hide (HIN2.out.2 rfl)
                  go_wp2_with fail
                  refine wp_region_grow (by kernel_rfl) (by kernel_rfl) ?_
                  repeat (
                    with_reducible refine wpQuiet_step ?_
                    intro K hK
                    first
                      | ((with_reducible refine quiet_offT rfl ?_ (hK _ ?_)); focus (refine ⟨_, rfl, ?_⟩; with_reducible rfl))
                      | ((with_reducible refine quiet_offF rfl ?_ (hK _ ?_)); focus (refine ⟨_, rfl, ?_⟩; with_reducible rfl))
                      | ((with_reducible refine quiet_offN rfl ?_ (hK _ ?_)); focus (exact rfl))
                      | ((first | with_reducible refine quiet_free rfl ?_ | ((with_reducible refine quiet_on rfl ?_ ?_); focus (refine ⟨_, rfl, ?_⟩; with_reducible rfl)))
                         apply Exists.intro
                         refine ⟨fun Wq hW => ?_, hK _ ?_⟩
                         focus (have q0 := Grow.cell hW kc4; have q1 := Grow.cell hW kce; have q2 := Grow.cell hW hcm; go_simp; first | done | with_reducible rfl))
                    clear hK K
                    simp only [Act.put, List.setIfInBounds_toArray, List.set_cons_zero, List.set_cons_succ])
                  with_reducible refine wpQuiet_nil ?_
                  intro W9 g9
                  have HG9 := hide (HG2.out.trans g9)
                  clear g9
                  go_wp2
                  go_roundw
                  case rel => exact ⟨j + 1, HJ.out, rfl, by rw [decide_eq_true HIN3.out], HG9.out⟩
                  case measure => have := HJ.out; simp [Go.RowKit.intOf]; omega
                · have HIN3 := hide (show y + m ∉ M.take (j + 1) from fun h => hu (HIN2.out.1 h))
                  have q8 : (u == y + m) = false := by simpa using hu
                  clear hu
                  go_wp2_with fail
                  refine wp_region_grow (by kernel_rfl) (by kernel_rfl) ?_
                  repeat (
                    with_reducible refine wpQuiet_step ?_
                    intro K hK
                    first
                      | ((with_reducible refine quiet_offT rfl ?_ (hK _ ?_)); focus (refine ⟨_, rfl, ?_⟩; with_reducible rfl))
                      | ((with_reducible refine quiet_offF rfl ?_ (hK _ ?_)); focus (refine ⟨_, rfl, ?_⟩; with_reducible rfl))
                      | ((with_reducible refine quiet_offN rfl ?_ (hK _ ?_)); focus (exact rfl))
                      | ((first | with_reducible refine quiet_free rfl ?_ | ((with_reducible refine quiet_on rfl ?_ ?_); focus (refine ⟨_, rfl, ?_⟩; with_reducible rfl)))
                         apply Exists.intro
                         refine ⟨fun Wq hW => ?_, hK _ ?_⟩
                         focus (have q0 := Grow.cell hW kc4; have q1 := Grow.cell hW kce; have q2 := Grow.cell hW hcm; go_simp; first | done | with_reducible rfl))
                    clear hK K
                    simp only [Act.put, List.setIfInBounds_toArray, List.set_cons_zero, List.set_cons_succ])
                  with_reducible refine wpQuiet_nil ?_
                  intro W9 g9
                  have HG9 := hide (HG2.out.trans g9)
                  clear g9
                  go_wp2
                  go_roundw
                  case rel => exact ⟨j + 1, HJ.out, rfl, by rw [decide_eq_false HIN3.out], HG9.out⟩
                  case measure => have := HJ.out; simp [Go.RowKit.intOf]; omega
    · obtain ⟨a, cq, hv, -⟩ := (hr.f.ls.ql i (by omega)).form
      rw [q4 hlt, qc_len] at hv
      have kc := hr.f.cell (show i < 5 by omega)
      rw [hv] at kc
      have HV := hide hv
      have HN := hide (HB.out.2 i hlt)
      have HR := hide hr
      have HI := hide hlt
      have hi4 : (i : Int) < 4 := by omega
      have hi0 : (0 : Int) ≤ i := by omega
      have hwi : IntKind.i64.wrap ((i : Int) + 1) = ((i + 1 : Nat) : Int) := (w64 (by omega)).trans (by omega)
      obtain ⟨N, hN⟩ : ∃ N, (Q i).length = N := ⟨_, rfl⟩
      rw [hN] at kc HV HN
      have HNN := hide hN
      clear hr hi hlt hv hN
      go_wp2_with fail
      go_loopw [24] (fun c w1 => ∃ j : Nat, j ≤ N ∧ c = .int .i64 j ∧ Ra w w1 z p S v Q E m i j) (fun c _ => N - (Go.RowKit.intOf c).toNat)
      case atStart => exact ⟨0, Nat.zero_le _, rfl, HR.out⟩
      case round =>
        clear HR kc
        obtain ⟨j, hj, rfl, hr⟩ := hrel
        rcases Nat.eq_or_lt_of_le hj with rfl | hlt
        · have q1 : decide ((j : Int) < j) = false := by simp
          have HR := hide (show Ra w wr z p S v Q E m (i + 1) 0 from ⟨by rw [← qc_not4, HNN.out]; exact hr.f, hr.c⟩)
          clear hj hr
          go_wp2
          go_roundw
          case rel => exact ⟨i + 1, HI.out, rfl, HR.out⟩
          case measure => have := HI.out; simp [Go.RowKit.intOf]; omega
        · have q2 : (j : Int) < N := by omega
          have q3 : (0 : Int) ≤ j := by omega
          have hwj : IntKind.i64.wrap ((j : Int) + 1) = ((j + 1 : Nat) : Int) := (w64 (by have := HN.out; omega)).trans (by omega)
          have hjl : j < (Q i).length := by rw [HNN.out]; exact hlt
          obtain ⟨g, off, cap, hv, kp, kc, kf, hr2⟩ := hr.step HI.out hjl (HB.out.2 i HI.out)
          have hx := HIN.out i HI.out _ (getD_in hjl)
          have hmm := HM.out
          have d1 : IntKind.i64.wrap ((Q i).getD j 0 + m) = (Q i).getD j 0 + m := w64 (by omega)
          rw [HNN.out] at kp
          have HR2 := hide hr2
          have HJ := hide hlt
          clear hr hr2 hlt hj hv hx hmm hjl
          generalize (Q i).getD j 0 = y at *
          go_wp2_with fail
          go_region
          go_wp2
          go_roundw
          case rel => exact ⟨j + 1, HJ.out, rfl, HR2.out⟩
          case measure => have := HJ.out; simp [Go.RowKit.intOf]; omega
end
end Go.Proofs.Ytgaoodjlcjmomaa.L12

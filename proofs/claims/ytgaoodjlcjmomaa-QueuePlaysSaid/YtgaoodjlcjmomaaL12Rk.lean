/- Sets of queues: the walk of rename. Conditions: at most 1000000 things a queue; the map has a name for each thing that was ever put in. -/
import Derived.Test.YtgaoodjlcjmomaaL12Rm
namespace Go.Proofs.Ytgaoodjlcjmomaa.L12
open Go.ChangeShapes Go.WideShapes Go.ChangeAt Go.RowKit Go.Maps
set_option linter.unusedVariables false
section
variable {w w' W w0 : World} {z p n m me m0 i j : Nat} {S T : Nat → Prop} {v : Nat → Value} {Q : Nat → List Int} {E K L L' : List Int} {x q : Int} {mv : Value} {f : Int → Int} {left : Int → Bool}
theorem k0_start (y : Int) : y ∈ ([] : List Int) ↔ y ∈ k0 f E (fun x => (memF E x).isSome) := by
  unfold k0
  rw [List.mem_map]
  constructor
  · intro h; cases h
  · rintro ⟨x, hx, -⟩
    obtain ⟨h1, h2⟩ := List.mem_filter.1 hx
    simp [h1] at h2
theorem k0_end (h : ∀ x, left x = false) : k0 f E left = k1 f E := by
  unfold k0 k1
  simp [h]
theorem k0_skip (h0 : f x = 0) (y : Int) : y ∈ k0 f E left ↔ y ∈ k0 f E (fun z => left z && !decide (z = x)) := by
  unfold k0
  rw [List.mem_map, List.mem_map]
  constructor
  · rintro ⟨u, hu, rfl⟩
    obtain ⟨h1, h2⟩ := List.mem_filter.1 hu
    refine ⟨u, List.mem_filter.2 ⟨h1, ?_⟩, rfl⟩
    cases hl : left u <;> simp_all
  · rintro ⟨u, hu, rfl⟩
    obtain ⟨h1, h2⟩ := List.mem_filter.1 hu
    refine ⟨u, List.mem_filter.2 ⟨h1, ?_⟩, rfl⟩
    by_cases e : u = x
    · subst e
      simp [h0] at h2
    · simpa [e] using h2
theorem k0_step (hx : x ∈ E) (h0 : f x ≠ 0) (y : Int) : y ∈ f x :: k0 f E left ↔ y ∈ k0 f E (fun z => left z && !decide (z = x)) := by
  unfold k0
  rw [List.mem_cons, List.mem_map, List.mem_map]
  constructor
  · rintro (rfl | ⟨u, hu, rfl⟩)
    · exact ⟨x, List.mem_filter.2 ⟨hx, by simp [h0]⟩, rfl⟩
    · obtain ⟨h1, h2⟩ := List.mem_filter.1 hu
      refine ⟨u, List.mem_filter.2 ⟨h1, ?_⟩, rfl⟩
      cases hl : left u <;> simp_all
  · rintro ⟨u, hu, rfl⟩
    obtain ⟨h1, h2⟩ := List.mem_filter.1 hu
    by_cases e : u = x
    · subst e
      exact .inl rfl
    · exact .inr ⟨u, List.mem_filter.2 ⟨h1, by simpa [e] using h2⟩, rfl⟩
theorem k0_len (hb : E.length < 1000000) : (k0 f E left).length < 10000000 := by
  unfold k0
  rw [List.length_map]
  have := List.length_filter_le (fun x => !left x && !decide (f x = 0)) E
  omega
theorem cat_mem (y : Int) : ∀ k, y ∈ cat Q k ↔ ∃ i, i < k ∧ y ∈ Q i
  | 0 => ⟨fun h => (by cases h), fun ⟨i, h, _⟩ => absurd h (by omega)⟩
  | k + 1 => by
    unfold cat
    rw [List.mem_append, cat_mem y k]
    constructor
    · rintro (⟨i, h1, h2⟩ | h)
      · exact ⟨i, by omega, h2⟩
      · exact ⟨k, by omega, h⟩
    · rintro ⟨i, h1, h2⟩
      by_cases e : i = k
      · subst e; exact .inr h2
      · exact .inl ⟨i, by omega, h2⟩
theorem Ls.congr {Q' : Nat → List Int} (h : Ls w z n v Q) (e : ∀ i, i < n → Q i = Q' i) : Ls w z n v Q' := ⟨fun i hi => by rw [← e i hi]; exact h.ql i hi, h.ap⟩
/-- Where the second loop begins. -/
theorem Qs.rn (h : Qs w z p S v Q E) (c : Grow w w') (hme : Mg eU w' me n (memF (k1 f E))) (hm0 : Mg eI w' m0 m (nmF f E)) (h1 : w.heap.size ≤ me) (h2 : m0 < w.heap.size) : Rn w w' z p me m0 S v Q E f 0 0 := by
  have h' := h.grow c
  refine ⟨h'.blk, by rw [qc_start]; exact h'.ls, ⟨n, hme.eq_ (memF_iff fun y => ?_)⟩, ⟨m, hm0⟩, c.mono fun _ _ h => h.elim, h1, by omega⟩
  simp [kc, cat]
/-- Where rename ends. -/
theorem Rn.fin (h : Rn w w' z p me m0 S v Q E f 4 0) (hq : Qs w z p S v Q E) (hf : ∀ x ∈ E, In64 (f x)) :
    Chg S w (w'.setCell ⟨p, 4, none⟩ (.map (some me))) ∧ Qs (w'.setCell ⟨p, 4, none⟩ (.map (some me))) z p (fun k => S k ∨ k = me) (upd v 4 (.map (some me))) (rnQ f Q) (rnE f Q E) := by
  have cp : Chg (· = p) w' (w'.setCell ⟨p, 4, none⟩ (.map (some me))) := (Chg.refl _ _).set1 _ _
  have hp : ∀ j, j < 4 → (v j).ownBlock ≠ some p := fun j hj => (hq.ls.ql j hj).ne hq.blk (by decide)
  obtain ⟨n, hme⟩ := h.me_
  have hz := hq.s p hq.sp
  have hpm : p ≠ me := hme.ne h.blk
  have hc : Chg S w (w'.setCell ⟨p, 4, none⟩ (.map (some me))) := (h.c.mono fun k _ ⟨i, hi, hk⟩ => hq.sq i hi k hk).step cp fun k _ e => by rw [e]; exact hq.sp
  have hce : ∀ x ∈ cat Q 4, x ∈ E := mem_cat hq.inn 4 (Nat.le_refl _)
  have hv : ∀ j, j < 4 → upd v 4 (.map (some me)) j = v j := fun j hj => upd_ne _ _ (by omega)
  have hls : Ls (w'.setCell ⟨p, 4, none⟩ (.map (some me))) z 4 v (rnQ f Q) := (h.ls.chg cp fun j hj k hk e => hp j hj (by rw [hk, e])).congr fun i hi => by rw [qc_end]; exact if_pos hi
  have hme2 : Mg eU (w'.setCell ⟨p, 4, none⟩ (.map (some me))) me n (memF (rnE f Q E)) := (hme.chg cp hpm.symm).eq_ (memF_iff fun y => by
    rw [rnE_mem hce]
    simp [kc])
  refine ⟨hc, ?_, ⟨fun j hj => ?_, fun a b ha hb hab => ?_⟩, .inr ⟨me, n, upd_at _ _ _, hme2, hme2.le⟩, .inl hq.sp, fun j hj k hk => ?_, fun m hm => ?_, fun k hk => ?_, fun x hx => ?_, fun i hi x hx => ?_⟩
  · rw [← five_set v (by omega)]
    exact h.blk.set_ 4 _
  · rw [hv j hj]
    exact hls.ql j hj
  · rw [hv a ha, hv b hb]
    exact hls.ap a b ha hb hab
  · rw [hv j hj] at hk
    exact .inl (hq.sq j hj k hk)
  · rw [upd_at] at hm
    injection hm with hm
    injection hm with hm
    exact .inr hm.symm
  · rcases hk with hk | rfl
    · exact ⟨(hq.s k hk).1, Nat.lt_of_lt_of_le (hq.s k hk).2 hc.size⟩
    · exact ⟨by have := h.mn; omega, hme2.lt⟩
  · obtain ⟨y, hy, rfl⟩ := List.mem_map.1 hx
    exact hf y (List.mem_filter.1 hy).1
  · obtain ⟨y, hy, rfl⟩ := List.mem_map.1 hx
    exact List.mem_map.2 ⟨y, List.mem_filter.2 ⟨hq.inn i hi y hy, by simp [(cat_mem y 4).2 ⟨i, hi, hy⟩]⟩, rfl⟩
theorem index_four (v : Nat → Value) {i : Nat} (hi : i < 4) (w : World) : (Instr.index 26 (.agg #[v 0, v 1, v 2, v 3]) (.int .i64 i)).run Try.prog w = .ok (v i) w := by
  rcases below5 (show i < 5 by omega) with rfl | rfl | rfl | rfl | rfl
  · kernel_rfl
  · kernel_rfl
  · kernel_rfl
  · kernel_rfl
  · omega
set_option maxRecDepth 100000 in
set_option maxHeartbeats 1000000 in
theorem rename_map (h : Qs w z p S v Q E) (hm0 : Mg eI w m0 m (nmF f E)) (hb : E.length < 1000000) (hl : ∀ i, i < 4 → (Q i).length < 1000000) (hf : ∀ x ∈ E, In64 (f x)) :
    Calls Try.prog 33 #[ptr p, .map (some m0)] w fun e w' => e = .returned (.tuple #[]) ∧ Chg S w w' ∧ QS w' z (fun k => S k ∨ k = w.heap.size) p (rnQ f Q) (rnE f Q E) := by
  have hmm := @run_makeMap Try.prog
  have gB : Grow w (w.alloc (.map #[] 0)) := Grow.box w _
  have h4 := gB.cell (h.cell (show 4 < 5 by omega))
  have HH := hide h
  have HM := hide hm0
  have HB := hide (And.intro hb hl)
  have HF := hide hf
  have HE := hide (Mg.made eU w)
  have HME := hide hm0.lt
  rcases h.ev with ⟨e4, eE⟩ | ⟨mo, n, e4, hM, hn⟩
  · rw [e4] at h4
    have hrg := run_range_nilMap (P := Try.prog) (w.alloc (.map #[] 0)) 27 3 62 Try.underlying27
    have hnx : ∀ ty, (Instr.next (.pointer (some ⟨(w.alloc (.map #[] 0)).heap.size, 0, none⟩)) false ty).run Try.prog ((w.alloc (.map #[] 0)).alloc (.mapIter none 0 #[] 0)) = _ := fun ty => run_next_nilMap _ ty 0 0 #[]
    have e1 : (w.alloc (.map #[] 0)).heap.size = w.heap.size + 1 := by simp
    simp only [e1] at hnx
    clear h hm0 hb hl hf
    go_enter Try.func33, Try.ntmps33
    go_wp2_with fail
    go_loopw [20] (fun c wr => wr = (w.alloc (.map #[] 0)).alloc (.mapIter none 0 #[] 0)) (fun _ _ => 0)
    case atStart => rfl
    case round =>
      subst hrel
      have HRN := hide (show Rn w ((w.alloc (.map #[] 0)).alloc (.mapIter none 0 #[] 0)) z p w.heap.size m0 S v Q E f 0 0 from HH.out.rn (gB.alloc _) ((HE.out.grow (Grow.box _ _)).eq_ (funext fun y => by simp [k1, eE])) (HM.out.grow (gB.alloc _)) (Nat.le_refl _) HME.out)
      generalize ((w.alloc (.map #[] 0)).alloc (.mapIter none 0 #[] 0)) = W0 at *
      clear hrg h4 HE
      have c0 := HRN.out.blk.cell 0
      have c1 := HRN.out.blk.cell 1
      have c2 := HRN.out.blk.cell 2
      have c3 := HRN.out.blk.cell 3
      simp only [five, List.getElem?_cons_zero, List.getElem?_cons_succ] at c0 c1 c2 c3
      go_wp2_with fail
      go_loopw [44] (fun c w1 => ∃ i : Nat, i ≤ 4 ∧ c = .int .i64 i ∧ Rn w w1 z p w.heap.size m0 S v Q E f i 0) (fun c _ => 4 - (Go.RowKit.intOf c).toNat)
      case atStart => exact ⟨0, by omega, rfl, HRN.out⟩
      case round =>
        clear c0 c1 c2 c3
        obtain ⟨i, hi, rfl, hr⟩ := hrel
        rcases Nat.eq_or_lt_of_le hi with rfl | hlt
        · have HR := hide hr
          have f4 := hr.blk.frozen 4
          have c4 : wr.cell? ⟨p, 4, none⟩ = some (v 4) := hr.blk.cell 4
          clear hr hi
          go_wp2
          go_returns
          obtain ⟨g1, g2⟩ := HR.out.fin HH.out HF.out
          exact ⟨rfl, g1, _, g2⟩
        · obtain ⟨a, cq, hv, -⟩ := (hr.ls.ql i hlt).form
          rw [qc_zero] at hv
          have hix := index_four v hlt wr
          rw [hv] at hix
          have HV := hide hv
          have HN := hide (HB.out.2 i hlt)
          have HR := hide hr
          have HI := hide hlt
          have hi4 : (i : Int) < 4 := by omega
          have hwi : IntKind.i64.wrap ((i : Int) + 1) = ((i + 1 : Nat) : Int) := (IntWalk.i64_in _ (by omega)).trans (by omega)
          obtain ⟨N, hN⟩ : ∃ N, (Q i).length = N := ⟨_, rfl⟩
          rw [hN] at hix HV HN
          have HNN := hide hN
          clear hr hi hlt hv hN
          go_wp2_with fail
          go_loopw [49] (fun c w1 => ∃ j : Nat, j ≤ N ∧ c = .int .i64 j ∧ Rn w w1 z p w.heap.size m0 S v Q E f i j) (fun c _ => N - (Go.RowKit.intOf c).toNat)
          case atStart => exact ⟨0, Nat.zero_le _, rfl, HR.out⟩
          case round =>
            clear hix HR
            obtain ⟨j, hj, rfl, hr⟩ := hrel
            rcases Nat.eq_or_lt_of_le hj with rfl | hlt
            · have q1 : decide ((j : Int) < j) = false := by simp
              have HR := hide hr
              clear hj hr
              go_wp2
              go_roundw
              case rel => exact ⟨i + 1, HI.out, rfl, Rn.next (by rw [HNN.out]; exact HR.out)⟩
              case measure => have := HI.out; simp [Go.RowKit.intOf]; omega
            · have q1 : decide ((j : Int) < N) = true := decide_eq_true (by omega)
              have q2 : (j : Int) < N := by omega
              have hwj : IntKind.i64.wrap ((j : Int) + 1) = ((j + 1 : Nat) : Int) := (IntWalk.i64_in _ (by have := HN.out; omega)).trans (by omega)
              obtain ⟨g, off, cap, W2, hv, hc, hfr, hlk, hup, hr2⟩ := hr.step HI.out (by rw [HNN.out]; exact hlt) HB.out.1 HB.out.2 (HH.out.inn i HI.out) HF.out HH.out.wf
              rw [HV.out, HNN.out] at hv
              injection hv with ha _ hcc
              subst ha hcc
              generalize (Q i).getD j 0 = x at *
              generalize f x = y at *
              have HR2 := hide hr2
              have HJ := hide hlt
              clear hr hr2 hlt hj
              go_wp2
              go_roundw
              case rel => exact ⟨j + 1, HJ.out, rfl, HR2.out⟩
              case measure => have := HJ.out; simp [Go.RowKit.intOf]; omega
  · rw [e4] at h4
    have hM' := hM.grow gB
    clear h hm0 hb hl hf hM
    go_enter Try.func33, Try.ntmps33
    go_wp2_with (first
      | (at_range; refine rg_range eU_ok rfl _ rfl rfl hM' ?_; intro w2 cnt0 hr0 hg0 hs0)
      | go_in)
    go_frame
    have e1 : (w.alloc (.map #[] 0)).heap.size = w.heap.size + 1 := by simp
    obtain ⟨R0, hR0⟩ : ∃ R0, R0 = (w.alloc (.map #[] 0)).heap.size := ⟨_, rfl⟩
    rw [← hR0] at hr0 hs0 e1 ⊢
    have HR0 := hide e1
    clear hR0 e1
    have HMS := hide (show mo ≠ w.heap.size from fun e => by have := HH.out.s mo (HH.out.sm mo e4); omega)
    have HS0 := hide (show Mg eU w2 w.heap.size 0 (memF (k0 f E (fun x => (memF E x).isSome))) from (HE.out.grow hg0).eq_ ((show _ = memF [] from funext fun y => by simp).trans (memF_iff fun y => k0_start y)))
    have HG0 := hide (gB.trans hg0)
    go_loopw [20] (fun c wr => ∃ (left : Int → Bool) (cnt : Nat), Rg eU wr mo R0 (memF E) left cnt ∧ (∃ n, Mg eU wr w.heap.size n (memF (k0 f E left))) ∧ Grow w wr) (fun _ wr => wr.rangeLeft mo R0)
    case atStart => exact ⟨_, _, hr0, ⟨_, HS0.out⟩, HG0.out⟩
    case round =>
      clear hr0 hg0 hs0 hM' h4 HS0 HG0
      obtain ⟨left, cnt, hrg, ⟨n1, hk⟩, hgw⟩ := hrel
      have hMM := HM.out.grow hgw
      go_wp2_with (first
        | (at_next; refine rg_next eU_ok rfl _ rfl rfl hrg ?_ ?_)
        | go_in)
      · intro hl0
        rw [k0_end hl0] at hk
        have HRN := hide (show Rn w wr z p w.heap.size m0 S v Q E f 0 0 from HH.out.rn hgw hk hMM (Nat.le_refl _) HME.out)
        clear hrg hk hgw hMM
        have c0 := HRN.out.blk.cell 0
        have c1 := HRN.out.blk.cell 1
        have c2 := HRN.out.blk.cell 2
        have c3 := HRN.out.blk.cell 3
        simp only [five, List.getElem?_cons_zero, List.getElem?_cons_succ] at c0 c1 c2 c3
        go_wp2_with fail
        go_loopw [44] (fun c w1 => ∃ i : Nat, i ≤ 4 ∧ c = .int .i64 i ∧ Rn w w1 z p w.heap.size m0 S v Q E f i 0) (fun c _ => 4 - (Go.RowKit.intOf c).toNat)
        case atStart => exact ⟨0, by omega, rfl, HRN.out⟩
        case round =>
          clear c0 c1 c2 c3
          obtain ⟨i, hi, rfl, hr⟩ := hrel
          rcases Nat.eq_or_lt_of_le hi with rfl | hlt
          · have HR := hide hr
            have f4 := hr.blk.frozen 4
            have c4 : wr.cell? ⟨p, 4, none⟩ = some (v 4) := hr.blk.cell 4
            clear hr hi
            go_wp2
            go_returns
            obtain ⟨g1, g2⟩ := HR.out.fin HH.out HF.out
            exact ⟨rfl, g1, _, g2⟩
          · obtain ⟨a, cq, hv, -⟩ := (hr.ls.ql i hlt).form
            rw [qc_zero] at hv
            have hix := index_four v hlt wr
            rw [hv] at hix
            have HV := hide hv
            have HN := hide (HB.out.2 i hlt)
            have HR := hide hr
            have HI := hide hlt
            have hi4 : (i : Int) < 4 := by omega
            have hwi : IntKind.i64.wrap ((i : Int) + 1) = ((i + 1 : Nat) : Int) := (IntWalk.i64_in _ (by omega)).trans (by omega)
            obtain ⟨N, hN⟩ : ∃ N, (Q i).length = N := ⟨_, rfl⟩
            rw [hN] at hix HV HN
            have HNN := hide hN
            clear hr hi hlt hv hN
            go_wp2_with fail
            go_loopw [49] (fun c w1 => ∃ j : Nat, j ≤ N ∧ c = .int .i64 j ∧ Rn w w1 z p w.heap.size m0 S v Q E f i j) (fun c _ => N - (Go.RowKit.intOf c).toNat)
            case atStart => exact ⟨0, Nat.zero_le _, rfl, HR.out⟩
            case round =>
              clear hix HR
              obtain ⟨j, hj, rfl, hr⟩ := hrel
              rcases Nat.eq_or_lt_of_le hj with rfl | hlt
              · have q1 : decide ((j : Int) < j) = false := by simp
                have HR := hide hr
                clear hj hr
                go_wp2
                go_roundw
                case rel => exact ⟨i + 1, HI.out, rfl, Rn.next (by rw [HNN.out]; exact HR.out)⟩
                case measure => have := HI.out; simp [Go.RowKit.intOf]; omega
              · have q1 : decide ((j : Int) < N) = true := decide_eq_true (by omega)
                have q2 : (j : Int) < N := by omega
                have hwj : IntKind.i64.wrap ((j : Int) + 1) = ((j + 1 : Nat) : Int) := (IntWalk.i64_in _ (by have := HN.out; omega)).trans (by omega)
                obtain ⟨g, off, cap, W2, hv, hc, hfr, hlk, hup, hr2⟩ := hr.step HI.out (by rw [HNN.out]; exact hlt) HB.out.1 HB.out.2 (HH.out.inn i HI.out) HF.out HH.out.wf
                rw [HV.out, HNN.out] at hv
                injection hv with ha _ hcc
                subst ha hcc
                generalize (Q i).getD j 0 = x at *
                generalize f x = y at *
                have HR2 := hide hr2
                have HJ := hide hlt
                clear hr hr2 hlt hj
                go_wp2
                go_roundw
                case rel => exact ⟨j + 1, HJ.out, rfl, HR2.out⟩
                case measure => have := HJ.out; simp [Go.RowKit.intOf]; omega
      · intro x b w3 cnt1 hx hlx hfx hrg1 hlt hc1 hs1 hen
        have hR := HR0.out
        have hm0 := HME.out
        have hxE : x ∈ E := Classical.byContradiction fun e => by simp [e] at hfx
        have hk3 := hk.chg hc1 (show ¬ w.heap.size = R0 by omega)
        have hM3 := hMM.chg hc1 (show ¬ m0 = R0 by omega)
        have hg3 : Grow w w3 := hgw.step hc1 fun i hi e => by omega
        have hlk : (Instr.lookup 64 (.map (some m0)) (.int .i64 x) true).run Try.prog w3 = .ok (lookV eI true (nmF f E x)) w3 := hM3.look eI_ok hx true
        have hlv : lookV eI true (nmF f E x) = .tuple #[.int .i64 (f x), .bool true] := by unfold nmF; rw [if_pos hxE]; rfl
        rw [hlv] at hlk
        have HLT := hide (show cnt1 < wr.rangeLeft mo R0 from by rw [hrg.left_eq]; exact hlt)
        by_cases h0 : f x = 0
        · have HR1 := hide (And.intro hrg1 (And.intro (show ∃ n, Mg eU w3 w.heap.size n (memF (k0 f E (fun y => left y && !decide (y = x)))) from ⟨n1, hk3.eq_ (memF_iff fun y => k0_skip h0 y)⟩) hg3))
          rw [h0] at hlk
          clear hrg hgw hk hMM hlx hfx hrg1 hlt hc1 hs1 hR hm0 hxE hk3 hM3 hg3 hlv h0 hx
          go_wp2_with fail
          exact ⟨⟨_, cnt1, HR1.out⟩, by rw [HR1.out.1.left_eq]; exact HLT.out⟩
        · obtain ⟨W4, hup, ⟨n4, h4⟩, hc4⟩ := hk3.add (k0_len HB.out.1) (HF.out x hxE)
          have hrg4 := hrg1.chg hc4 HMS.out (show ¬ R0 = w.heap.size by omega)
          have HR1 := hide (And.intro hrg4 (And.intro (show ∃ n, Mg eU W4 w.heap.size n (memF (k0 f E (fun y => left y && !decide (y = x)))) from ⟨n4, h4.eq_ (memF_iff fun y => k0_step hxE h0 y)⟩) (show Grow w W4 from hg3.step hc4 fun i hi e => by omega)))
          have q1 : (f x != 0) = true := by simpa using h0
          generalize f x = y at *
          clear hrg hgw hk hMM hlx hfx hrg1 hlt hc1 hs1 hR hm0 hxE hk3 hM3 hg3 hlv h0 hx hrg4 h4 hc4
          go_wp2_with fail
          exact ⟨⟨_, cnt1, HR1.out⟩, by rw [HR1.out.1.left_eq]; exact HLT.out⟩
end
end Go.Proofs.Ytgaoodjlcjmomaa.L12

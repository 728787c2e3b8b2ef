/- The marking in memory; what mark and take do to it. Conditions: lists of at most 1000000 numbers. -/
import Derived.Test.YtaddomgjjemglaaDoorL14Ol
import Derived.Test.YtaddomgjjemglaaDoorL14P
namespace Go.Proofs.YtaddomgjjemglaaDoor.L14
open Go.ChangeShapes Go.WideShapes Go.ChangeAt Go.RowKit
open Go.Proofs.YtaddomgjjemglaaDoor.L3 (Ms ms_set ms_len ms_has ms_next ms_count ptr exB setI cnt cnt_le)
set_option linter.unusedVariables false

/-- The marking in block m, but for its work list v: its map lies in p and g. -/
structure Mb (W : World) (B m p g n r : Nat) (fv v : Value) (s : St) : Prop where
  blk : Blk W m 46 [ptr p, fv, v, .int .i64 (r : Int), .bool s.lo]
  ms : Ms W p g n s.S
  hm : B ≤ m
  hp : B ≤ p
  hg : B ≤ g
  np : m ≠ p
  ng : m ≠ g
/-- The marking in block m; its work list is v, made behind B. -/
structure Mk (W : World) (B m p g n r : Nat) (fv v : Value) (s : St) : Prop where
  mb : Mb W B m p g n r fv v s
  ol : OL W B v s.ws
  wl : s.ws.length ≤ cnt s.S n
section
variable {W W' : World} {B m p g n r k c : Nat} {fv v v' : Value} {s : St} {S : Nat → Prop} {a : Option Addr} {xs l : List Int} {x : Int} {f : Nat → Bool}
theorem ms_ne (h : Ms W p g n f) (ho : OL W B v xs) : v.ownBlock ≠ some p ∧ v.ownBlock ≠ some g := by
  obtain ⟨ws, h1, _⟩ := h
  exact ⟨ho.ne h1.1 (by decide), ho.ne h1.2.1 (by decide)⟩
theorem Mb.chg (h : Mb W B m p g n r fv v s) (d : Chg S W W') (h1 : ¬ S m) (h2 : ¬ S p) (h3 : ¬ S g) : Mb W' B m p g n r fv v s :=
  ⟨h.blk.chg d h1, h.ms.chg d h2 h3, h.hm, h.hp, h.hg, h.np, h.ng⟩
theorem Mk.vm (h : Mk W B m p g n r fv v s) : v.ownBlock ≠ some m := h.ol.ne h.mb.blk (by decide)
theorem Mk.vp (h : Mk W B m p g n r fv v s) : v.ownBlock ≠ some p := (ms_ne h.mb.ms h.ol).1
theorem Mk.vg (h : Mk W B m p g n r fv v s) : v.ownBlock ≠ some g := (ms_ne h.mb.ms h.ol).2
theorem Mk.chg (h : Mk W B m p g n r fv v s) (d : Chg S W W') (h1 : ¬ S m) (h2 : ¬ S p) (h3 : ¬ S g) (h4 : ∀ k, v.ownBlock = some k → ¬ S k) : Mk W' B m p g n r fv v s :=
  ⟨h.mb.chg d h1 h2 h3, h.ol.chg d h4, h.wl⟩
theorem Mk.vb (h : Mk W B m p g n r fv v s) (hk : v.ownBlock = some k) : B ≤ k ∧ k < W.heap.size := h.ol.lt k hk
theorem Mk.lts (h : Mk W B m p g n r fv v s) : m < W.heap.size ∧ p < W.heap.size ∧ g < W.heap.size := ⟨h.mb.blk.lt, h.mb.ms.plt, h.mb.ms.glt⟩
/-- Old blocks below B, and new ones, may change. -/
theorem Mk.out (h : Mk W B m p g n r fv v s) (d : Chg (fun k => k < B) W W') : Mk W' B m p g n r fv v s :=
  h.chg d (by have := h.mb.hm; omega) (by have := h.mb.hp; omega) (by have := h.mb.hg; omega) fun k hk => by have := (h.vb hk).1; omega
theorem Mk.grow (h : Mk W B m p g n r fv v s) (d : Grow W W') : Mk W' B m p g n r fv v s := h.chg d id id id fun _ _ => id
theorem Mk.len (h : Mk W B m p g n r fv v s) : s.ws.length ≤ 4096 := by have := h.wl; have := cnt_le s.S n; have := h.mb.ms.most; omega
/-- Another work list. -/
theorem Mb.work (h : Mb W B m p g n r fv v s) (ho : OL W B v' l) (hl : l.length ≤ cnt s.S n) : Mk (W.setCell ⟨m, 2, none⟩ v') B m p g n r fv v' ⟨s.S, l, s.lo⟩ := by
  have hvm : v'.ownBlock ≠ some m := ho.ne h.blk (by decide)
  have hc : Chg (· = m) W (W.setCell ⟨m, 2, none⟩ v') := (Chg.refl _ _).set1 2 _
  exact ⟨⟨h.blk.set_ 2 v', h.ms.chg hc (fun e => h.np e.symm) (fun e => h.ng e.symm), h.hm, h.hp, h.hg, h.np, h.ng⟩, ho.chg hc fun k hk e => hvm (by rw [hk, e]), hl⟩
/-- Lost, or not. -/
theorem Mk.lost (h : Mk W B m p g n r fv v s) (b : Bool) : Mk (W.setCell ⟨m, 4, none⟩ (.bool b)) B m p g n r fv v ⟨s.S, s.ws, b⟩ := by
  have hc : Chg (· = m) W (W.setCell ⟨m, 4, none⟩ (.bool b)) := (Chg.refl _ _).set1 4 _
  exact ⟨⟨h.mb.blk.set_ 4 _, h.mb.ms.chg hc (fun e => h.mb.np e.symm) (fun e => h.mb.ng e.symm), h.mb.hm, h.mb.hp, h.mb.hg, h.mb.np, h.mb.ng⟩, h.ol.chg hc fun k hk e => h.vm (by rw [hk, e]), h.wl⟩
/-- Another place is marked. -/
theorem Mk.sets (h : Mk W B m p g n r fv v s) (hms : Ms W' p g n f) (d : Chg (· = g) W W') (hf : cnt s.S n ≤ cnt f n) : Mk W' B m p g n r fv v ⟨f, s.ws, s.lo⟩ :=
  ⟨⟨h.mb.blk.chg d (fun e => h.mb.ng e), hms, h.mb.hm, h.mb.hp, h.mb.hg, h.mb.np, h.mb.ng⟩, h.ol.chg d fun k hk e => h.vg (by rw [hk, e]), Nat.le_trans h.wl hf⟩
theorem rd_one (w : World) (x : Int) : L1.Rd (w.alloc (.cells #[.int .i64 x] 3)) (some ⟨w.heap.size, 0, none⟩) 1 [x] := by
  have h : Blk (w.alloc (.cells #[.int .i64 x] 3)) w.heap.size 3 (ints [x]) := Blk.new w _ _
  exact L1.Rd.of_blk h rfl
/-- One more on the work list. -/
theorem Mk.more {va : Option Addr} {q vc : Nat} (h : Mk W B m p g n r fv (.slice va q vc) s) (hq : s.ws.length = q) (hB : B ≤ W.heap.size) (hl : q + 1 ≤ cnt s.S n) (x : Int) :
    ∃ v' W', (Builtin.append_ #[23, 23] 23 #[.slice va q vc, .slice (some ⟨W.heap.size, 0, none⟩) 1 1]).run Tryd.prog (W.alloc (.cells #[.int .i64 x] 3)) = .ok v' W' ∧
      Mk (W'.setCell ⟨m, 2, none⟩ v') B m p g n r fv v' ⟨s.S, s.ws ++ [x], s.lo⟩ ∧ (v'.ownBlock = (Value.slice va q vc).ownBlock ∨ ∀ b, v'.ownBlock = some b → W.heap.size ≤ b) ∧
      Chg (fun i => i = m ∨ (Value.slice va q vc).ownBlock = some i) W (W'.setCell ⟨m, 2, none⟩ v') ∧ Mb W' B m p g n r fv (.slice va q vc) s := by
  have gB := Grow.box W (.cells #[.int .i64 x] 3)
  have h1 := h.grow gB
  have hlen := h.len
  obtain ⟨v', W', hr, ho, hg, hv⟩ := app_int (c := 1) h1.ol (Nat.le_trans hB gB.size) (rd_one W x) (by omega)
  have hc : Chg (fun i => (Value.slice va q vc).ownBlock = some i) (W.alloc (.cells #[.int .i64 x] 3)) W' := (Chg.refl _ _).grown hg fun k _ e => e
  have hb : Mb W' B m p g n r fv (.slice va q vc) s := h1.mb.chg hc h.vm h.vp h.vg
  refine ⟨v', W', hr, hb.work ho (by rw [List.length_append, List.length_singleton]; omega), ?_, ?_, hb⟩
  · rcases hv with hv | hv
    · exact .inl hv
    · exact .inr fun b e => by
        rw [hv] at e
        injection e with e
        rw [← e]
        exact gB.size
  · have h2 : Chg (fun i => i = m ∨ (Value.slice va q vc).ownBlock = some i) W W' := (gB.mono fun i _ e => e.elim).step hc fun i _ e => .inr e
    exact h2.setCell (fun _ => .inl rfl) _

set_option maxRecDepth 100000 in
set_option maxHeartbeats 1000000 in
theorem take_any (h : Mk W B m p g n r fv v s) (he : s.ws = l ++ [x]) :
    Calls Tryd.prog 29 #[ptr m] W fun e W' => e = .returned (.int .i64 x) ∧ ∃ v', v'.ownBlock = v.ownBlock ∧ Mk W' B m p g n r fv v' ⟨s.S, l, s.lo⟩ ∧ Chg (· = m) W W' := by
  have hl : s.ws.length = l.length + 1 := by rw [he, List.length_append]; rfl
  have hlen := h.len
  obtain ⟨b, c, hv, -, -, hcap, -⟩ := own_form h.ol (by omega)
  subst hv
  have hol := h.ol
  have c0 := hol.cell (k := l.length) (by omega)
  rw [he, List.getD_eq_getElem?_getD, List.getElem?_append_right (Nat.le_refl _), Nat.sub_self] at c0
  replace c0 : W.cell? ⟨b, l.length, none⟩ = some (.int .i64 x) := c0
  have hcut := hol.cut (k := l.length) (by omega)
  rw [he, List.take_append_of_le_length (Nat.le_refl _), List.take_length] at hcut
  have HN := hide (h.mb.work hcut (by have := h.wl; omega))
  have c2 := h.mb.blk.cell 2
  have f2 := h.mb.blk.frozen 2
  obtain ⟨q, hq⟩ : ∃ q, l.length = q := ⟨_, rfl⟩
  obtain ⟨Q, hQ⟩ : ∃ Q, s.ws.length = Q := ⟨_, rfl⟩
  rw [hQ] at c2 hcap
  rw [hq] at c0 HN
  have hw1 : IntKind.i64.wrap ((Q : Int) - 1) = (q : Int) := (IntWalk.i64_in _ (by omega)).trans (by omega)
  have hw2 : wrap64 ((Q : Int) - 1) = (q : Int) := by rw [wrap64_id _ (by omega)]; omega
  have q1 : q < Q := by omega
  have q2 : (q : Int) < (Q : Int) := by omega
  have q3 : q ≤ c := by omega
  have HC := hide ((Chg.refl (· = m) W).set1 2 (.slice (some ⟨b, 0, none⟩) q c))
  clear h hol hcut he hl hq hQ hlen
  go_enter Tryd.func29, Tryd.ntmps29
  go_wp2
  go_returns
  exact ⟨rfl, .slice (some ⟨b, 0, none⟩) q c, rfl, HN.out, HC.out⟩

set_option maxRecDepth 100000 in
set_option maxHeartbeats 2000000 in
theorem mark_any (h : Mk W B m p g n r fv v s) (hr : L1.Rd W a k xs) (hx : 0 < k → ∀ x : Addr, a = some x → x.block ≠ m ∧ x.block ≠ g ∧ v.ownBlock ≠ some x.block) (hk : k ≤ 1000000) (hB : B ≤ W.heap.size) :
    Calls Tryd.prog 28 #[ptr m, .slice a k c] W fun e W' => e = .returned (.tuple #[]) ∧ ∃ v', Mk W' B m p g n r fv v' (puts n r s xs) ∧ Chg (fun i => B ≤ i) W W' := by
  have HM := hide h
  have HR := hide hr
  have HX := hide hx
  have HK := hide (And.intro hk hB)
  clear h hr hx hk hB
  go_enter Tryd.func28, Tryd.ntmps28
  go_wp2_with fail
  go_loopw [8] (fun i wr => ∃ (j : Nat) (v' : Value), j ≤ k ∧ i = .int .i64 j ∧ Mk wr B m p g n r fv v' (puts n r s (xs.take j)) ∧ (v'.ownBlock = v.ownBlock ∨ ∀ b, v'.ownBlock = some b → W.heap.size ≤ b) ∧ Chg (fun i => B ≤ i ∧ (i = m ∨ i = g ∨ v.ownBlock = some i)) W wr) (fun i _ => k - (Go.RowKit.intOf i).toNat)
  case atStart => exact ⟨0, v, Nat.zero_le _, rfl, HM.out, .inl rfl, Chg.refl _ _⟩
  case round =>
    obtain ⟨j, v', hj, rfl, hmk, hv, hc⟩ := hrel
    rcases Nat.eq_or_lt_of_le hj with rfl | hlt
    · have q1 : decide ((j : Int) < j) = false := by simp
      have e := HR.out.1
      rw [← e, List.take_length] at hmk
      have HN := hide hmk
      have HC := hide hc
      clear hmk hv hc e hj
      go_wp2
      go_returns
      exact ⟨rfl, v', HN.out, HC.out.mono fun _ _ h => h.1⟩
    · have q1 : decide ((j : Int) < k) = true := decide_eq_true (by omega)
      have q2 : (j : Int) < k := by omega
      have hrd := HR.out.chg hc fun x e ⟨_, h⟩ => by
        obtain ⟨h1, h2, h3⟩ := HX.out (by omega) x e
        rcases h with h | h | h
        · exact h1 h
        · exact h2 h
        · exact h3 h
      obtain ⟨ad, rfl, hcx⟩ := hrd.at_ hlt
      have hjl : j < xs.length := by rw [HR.out.1]; exact hlt
      have hw : IntKind.i64.wrap ((j : Int) + 1) = ((j + 1 : Nat) : Int) := (IntWalk.i64_in _ (by have := HK.out.1; omega)).trans (by omega)
      have hpt := puts_take (n := n) (r := r) (s := s) hjl
      have HPT := hide hpt
      have HV := hide hv
      have HC := hide hc
      have HMK := hide hmk
      have HJ := hide hlt
      have c0 := hmk.mb.blk.cell 0
      clear hmk hv hc hj hlt hrd hjl hpt
      generalize xs.getD j 0 = x at *
      generalize puts n r s (xs.take j) = s' at *
      go_wp2_with fail
      refine (ms_set x HMK.out.mb.ms).mono ?_
      rintro e w1 ⟨rfl, hms, cg⟩
      clear c0 hcx
      cases hb : (exB n x && !s'.S x.toNat) with
      | false =>
        rw [setI_no hb] at hms
        have HN := hide (HMK.out.sets hms cg (Nat.le_refl _))
        have HP := hide (show puts n r s (List.take (j + 1) xs) = s' from by rw [HPT.out, put_no hb])
        have HC1 := hide (HC.out.step cg fun i _ e => ⟨by rw [e]; exact HMK.out.mb.hg, .inr (.inl e)⟩)
        clear hms cg hb
        go_wp2_with fail
        go_roundw
        case rel => exact ⟨j + 1, v', HJ.out, rfl, by rw [HP.out]; exact HN.out, HV.out, HC1.out⟩
        case measure => have := HJ.out; simp [Go.RowKit.intOf]; omega
      | true =>
        have hcp := cnt_put hb
        have hm1 := HMK.out.sets hms cg (by omega)
        have HC1 := hide (HC.out.step cg fun i _ e => ⟨by rw [e]; exact HMK.out.mb.hg, .inr (.inl e)⟩)
        obtain ⟨va, vc, rfl⟩ := own_len HMK.out.ol
        have c2 := hm1.mb.blk.cell 2
        have c3 := hm1.mb.blk.cell 3
        obtain ⟨q, hq⟩ : ∃ q, s'.ws.length = q := ⟨_, rfl⟩
        have hwl := HMK.out.wl
        rw [hq] at c2 hm1 HV hwl
        have HM1 := hide hm1
        have HB := hide (And.intro hb hcp)
        have HQ := hide (And.intro hq hwl)
        clear hm1 hms cg hcp hwl hq hb
        by_cases hlr : q < r
        · have q5 : decide ((q : Int) < (r : Int)) = true := decide_eq_true (by omega)
          have q6 : decide (q < r) = true := decide_eq_true hlr
          have HP := hide (show puts n r s (List.take (j + 1) xs) = ⟨setI s'.S n x true, s'.ws ++ [x], s'.lo⟩ from by rw [HPT.out, put_in HB.out.1 (by rw [HQ.out.1]; exact hlr)])
          go_wp2_with fail
          go_quiet (fail)
          have gq : Grow w1 (w1.drewN nq) := (Chg.refl _ _).drewN nq
          have hm2 := HM1.out.grow gq
          have hc1 := HC1.out.step gq fun _ _ e => e.elim
          clear c2 c3 HM1 HC1 q5 q6 gq
          generalize w1.drewN nq = w2 at *
          have c2 := hm2.mb.blk.cell 2
          obtain ⟨v2, W2, hr2, hm3, hv2, hc2, hb2⟩ := hm2.more HQ.out.1 (Nat.le_trans HK.out.2 hc1.size) (by show q + 1 ≤ cnt (setI s'.S n x true) n; have := HQ.out.2; have := HB.out.2; omega) x
          obtain ⟨vb, vd, hve⟩ : ∃ a c, v2 = .slice a (s'.ws ++ [x]).length c := own_len hm3.ol
          generalize (s'.ws ++ [x]).length = M at hve
          subst hve
          have KA := hide hr2
          have d2 := hb2.blk.cell 2
          have f2 := hb2.blk.frozen 2
          have HN := hide hm3
          have HC2 := hide (hc1.step hc2 fun i hi e => by
            rcases e with rfl | e
            · exact ⟨HMK.out.mb.hm, .inl rfl⟩
            · rcases HV.out with hv | hv
              · rw [hv] at e
                exact ⟨(HM.out.vb e).1, .inr (.inr e)⟩
              · have := hv i e
                omega)
          have HV2 := hide (show (Value.slice vb M vd).ownBlock = v.ownBlock ∨ ∀ b, (Value.slice vb M vd).ownBlock = some b → W.heap.size ≤ b from by
            rcases hv2 with hv | hv
            · rw [hv]; exact HV.out
            · exact .inr fun b e => Nat.le_trans hc1.size (hv b e))
          clear hr2 hm3 hv2 hc2 hb2 hlr hm2 hc1
          go_wp2_with (at_builtin; refine wpList_app rfl _ _ 23 rfl (.slice va q vc) (.slice (some ⟨w2.heap.size, 0, none⟩) 1 1) (.slice vb M vd) _ W2 rfl rfl KA.out ?_)
          go_roundw
          case rel => exact ⟨j + 1, _, HJ.out, rfl, by rw [HP.out]; exact HN.out, HV2.out, HC2.out⟩
          case measure => have := HJ.out; simp [Go.RowKit.intOf]; omega
        · have q5 : decide ((q : Int) < (r : Int)) = false := decide_eq_false (by omega)
          have q6 : decide (q < r) = false := decide_eq_false hlr
          have HP := hide (show puts n r s (List.take (j + 1) xs) = ⟨setI s'.S n x true, s'.ws, true⟩ from by rw [HPT.out, put_lo HB.out.1 (by rw [HQ.out.1]; exact hlr)])
          go_wp2_with fail
          go_quiet (fail)
          have gq : Grow w1 (w1.drewN nq) := (Chg.refl _ _).drewN nq
          have hm2 := HM1.out.grow gq
          have hc1 := HC1.out.step gq fun _ _ e => e.elim
          clear c2 c3 HM1 HC1 q5 q6 gq
          generalize w1.drewN nq = w2 at *
          have c4 := hm2.mb.blk.cell 4
          have f4 := hm2.mb.blk.frozen 4
          have HN := hide (hm2.lost true)
          have HC2 := hide (hc1.setCell (p := ⟨m, 4, none⟩) (fun _ => ⟨HMK.out.mb.hm, .inl rfl⟩) (.bool true))
          clear hm2 hc1 hlr
          go_wp2_with fail
          go_roundw
          case rel => exact ⟨j + 1, _, HJ.out, rfl, by rw [HP.out]; exact HN.out, HV.out, HC2.out⟩
          case measure => have := HJ.out; simp [Go.RowKit.intOf]; omega
end
end Go.Proofs.YtaddomgjjemglaaDoor.L14

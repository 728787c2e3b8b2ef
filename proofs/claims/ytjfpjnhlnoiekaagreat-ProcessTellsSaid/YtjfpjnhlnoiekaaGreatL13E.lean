/- Reference processing: what is reached from some nodes becomes live, and its Soft nodes wait. Conditions: fewer than 1000000 nodes; at most 1000000 numbers. -/
import Derived.Test.YtjfpjnhlnoiekaaGreatL13A
import Derived.Test.YtjfpjnhlnoiekaaGreatL10B
namespace Go.Proofs.YtjfpjnhlnoiekaaGreat.L13
open Go.ChangeShapes Go.WideShapes Go.ChangeAt Go.RowKit Go.Maps
open Go.Proofs.YtjfpjnhlnoiekaaGreat.L9 (Nd nd Srt In64 GS Mn pt ptr hldX aimX nd_some nd_none nd_mem own_rd wpList_app hasB hasB_step)
open Go.Proofs.YtjfpjnhlnoiekaaGreat.L10 (Rc IsRc outs clL fins fnB srcC clL_srt put OL ol_nil app_more take_step clL_step clL_le reach_any)
open Go.Proofs.YtjfpjnhlnoiekaaGreat.L5 (Cl clAt isRf)
set_option linter.unusedVariables false
/-- What stands behind a call on the state. -/
def Wtd (w W : World) (s p m : Nat) (f : Int → Option Nat) (ia : Option Addr) (ic : Nat) (cs : List Cl) (L : List Nd) (q c : Int → Bool) (wv : Value) (wq : Int → Bool) (e : Ending) (W' : World) : Prop :=
  e = .returned (.tuple #[]) ∧ ∃ wv', Sn w W' s p m f ia ic cs L q c wv' wq ∧ Chg (Tch s f wv) W W' ∧ ∀ k, wv'.ownBlock = some k → wv.ownBlock = some k ∨ W.heap.size ≤ k
/-- Those who live, those who wait, behind some numbers. -/
def un (q r : Int → Bool) (i : Int) : Bool := q i || r i
def wn (cs : List Cl) (L : List Nd) (q r wq : Int → Bool) (i : Int) : Bool := wq i || (r i && (!q i && decide ((aimX cs L i).2 = 3)))
section
variable {w W W' : World} {s p m z b : Nat} {f : Int → Option Nat} {ia : Option Addr} {ic : Nat} {cs : List Cl} {L : List Nd} {q c : Int → Bool} {wv wv' : Value} {wq : Int → Bool} {S T : Nat → Prop} {x : Nd} {i : Int}
theorem Tch.step {W1 W2 : World} (h : Chg (Tch s f wv) W W1) (ho : ∀ k, wv'.ownBlock = some k → wv.ownBlock = some k ∨ W.heap.size ≤ k) (k : Chg (Tch s f wv') W1 W2) : Chg (Tch s f wv) W W2 :=
  h.step k fun j hj ht => by
    rcases ht with e | e | e
    · exact .inl e
    · exact .inr (.inl e)
    · rcases ho j e with e | e
      · exact .inr (.inr e)
      · omega
set_option maxRecDepth 100000 in
set_option maxHeartbeats 1000000 in
theorem wait_any (h : Sn w W s p m f ia ic cs L q c wv wq) (hs : Srt L) (hl : L.length < 1000000) (hx : x ∈ L) (hq : q x.id = true) (hw : wq x.id = false) :
    Calls Tryz.prog 53 #[ptr s, .int .i64 x.id] W (Wtd w W s p m f ia ic cs L q c wv (put wq x.id)) := by
  have hnx : nd L x.id ≠ none := by rw [nd_mem hs hx]; simp
  have hle : (clL L wq).length ≤ 1000000 := by have := clL_le L wq; omega
  have hpw : W.heap.size ≥ w.heap.size := h.gw.size
  obtain ⟨i, hi⟩ : ∃ i, x.id = i := ⟨_, rfl⟩
  rw [hi] at hnx hq hw ⊢
  have hpu := cl_put hs hnx hw
  obtain ⟨n, hn⟩ : ∃ n, (clL L wq).countP (· < i) = n := ⟨_, rfl⟩
  have hnl : n ≤ (clL L wq).length := by rw [← hn]; exact List.countP_le_length
  have HSE := hide (search_any (x := i) h.wl hle (clL_srt hs))
  rw [hn] at HSE
  have hpu2 : clL L (put wq i) = (clL L wq).take n ++ i :: (clL L wq).drop n := by rw [hpu, ins1, hn]
  have HIN := hide (fun (W1 : World) (g : Grow W W1) => insert_any (x := i) (vb := W1.heap.size) (i := n) ((h.wl.grow g).grow (Grow.box W1 (.cells [.int .i64 i].toArray 3))) (by have := g.size; simp; omega) (Blk.new W1 3 [.int .i64 i])
    (fun e => by have := (h.wl.lt _ e).2; have := g.size; omega) hle hnl)
  rw [← hpu2] at HIN
  have HH := hide h
  have HQ := hide (show ∀ j, put wq i j = true → q j = true from fun j hj => by
    rcases L10.put_of hj with rfl | hj
    · exact hq
    · exact h.wn j hj)
  obtain ⟨a, cc, hv, -⟩ := h.wl.form
  have c3 := h.c3
  have hfz : W.frozen? ⟨s, 3, none⟩ = false := h.blk.frozen 3
  have HB := hide h.blk
  have HN := hide (show n ≤ 1000000 by omega)
  have HV := hide hv
  clear h hpu hpu2 hnl hn hle hnx hq hw hi hpw hfz
  rw [hv] at HSE HIN c3
  generalize (clL L wq).length = M at *
  clear hv
  go_enter Tryz.func53, Tryz.ntmps53
  go_wp2_with fail
  refine HSE.out.mono ?_
  rintro e W1 ⟨⟨bo, rfl⟩, g1⟩
  have HI1 := hide (HIN.out W1 g1)
  replace c3 := Grow.cell g1 c3
  have HG1 := hide (g1.trans (Grow.box W1 (.cells [.int .i64 i].toArray 3)))
  clear g1 HSE
  go_wp2_with fail
  refine HI1.out.mono ?_
  rintro e W2 ⟨v', rfl, hql, hch, hown⟩
  obtain ⟨a2, cc2, hv2, -⟩ := hql.form
  obtain ⟨M2, hM2⟩ : ∃ M2, (clL L (put wq i)).length = M2 := ⟨_, rfl⟩
  rw [hM2] at hv2
  subst hv2
  have hd : Chg (fun k => wv.ownBlock = some k) W W2 := (HG1.out.mono fun _ _ h => h.elim).step hch fun k _ e => by rw [HV.out]; exact e
  have hown2 : ∀ k, (Value.slice a2 M2 cc2).ownBlock = some k → wv.ownBlock = some k ∨ W.heap.size ≤ k := fun k hk => by
    rcases hown k hk with e | e
    · left; rw [HV.out]; exact e
    · right; have := HG1.out.size; omega
  have HS2 := hide (HH.out.wait hd hql hown2 HQ.out)
  have HC2 := hide (Sn.wait_chg (s := s) (f := f) (wv' := .slice a2 M2 cc2) hd)
  have HO2 := hide hown2
  have c3' : W2.cell? ⟨s, 3, none⟩ = some (.slice a M cc) := by rw [← HV.out]; exact (HB.out.chg hd fun e => HH.out.wl.ne HB.out (by decide) e).cell 3
  have hfz : W2.frozen? ⟨s, 3, none⟩ = false := (HB.out.chg hd fun e => HH.out.wl.ne HB.out (by decide) e).frozen 3
  clear c3 hd hql hch hown hown2 HI1 HIN hM2
  go_wp2
  go_returns
  exact ⟨rfl, _, HS2.out, HC2.out, HO2.out⟩
theorem un_yes {l : List Int} {k : Nat} (hk : k < l.length) (hu : un q (hasB (l.take k)) (l.getD k 0) = true) : un q (hasB (l.take (k + 1))) = un q (hasB (l.take k)) := by
  funext i
  unfold un at *
  have hs := hasB_step l k hk
  generalize l.getD k 0 = j0 at *
  rw [hs]
  dsimp only
  by_cases e : i = j0
  · subst e
    simp only [decide_true, Bool.true_or, Bool.or_true]
    exact hu.symm
  · simp [e]
theorem un_no {l : List Int} {k : Nat} (hk : k < l.length) : un q (hasB (l.take (k + 1))) = put (un q (hasB (l.take k))) (l.getD k 0) := by
  funext i
  unfold un put
  have hs := hasB_step l k hk
  generalize l.getD k 0 = j0 at *
  rw [hs]
  dsimp only
  cases q i <;> cases decide (i = j0) <;> rfl
theorem wn_yes {l : List Int} {k : Nat} (hk : k < l.length) (hu : un q (hasB (l.take k)) (l.getD k 0) = true) : wn cs L q (hasB (l.take (k + 1))) wq = wn cs L q (hasB (l.take k)) wq := by
  funext i
  unfold wn
  have hs := hasB_step l k hk
  generalize l.getD k 0 = j0 at *
  rw [hs]
  dsimp only
  by_cases e : i = j0
  · subst e
    unfold un at hu
    rcases Bool.or_eq_true_iff.1 hu with h | h
    · simp [h]
    · simp [h]
  · simp [e]
theorem wn_no {l : List Int} {k : Nat} (hk : k < l.length) (h3 : (aimX cs L (l.getD k 0)).2 ≠ 3) : wn cs L q (hasB (l.take (k + 1))) wq = wn cs L q (hasB (l.take k)) wq := by
  funext i
  unfold wn
  have hs := hasB_step l k hk
  generalize l.getD k 0 = j0 at *
  rw [hs]
  dsimp only
  by_cases e : i = j0
  · subst e
    simp [h3]
  · simp [e]
theorem wn_put {l : List Int} {k : Nat} (hk : k < l.length) (hu : un q (hasB (l.take k)) (l.getD k 0) = false) (h3 : (aimX cs L (l.getD k 0)).2 = 3) : wn cs L q (hasB (l.take (k + 1))) wq = put (wn cs L q (hasB (l.take k)) wq) (l.getD k 0) := by
  funext i
  unfold wn put
  have hs := hasB_step l k hk
  generalize l.getD k 0 = j0 at *
  rw [hs]
  dsimp only
  by_cases e : i = j0
  · subst e
    unfold un at hu
    rw [Bool.or_eq_false_iff] at hu
    simp [hu.1, h3]
  · simp [e]
/-- What stands between two of those that were reached. -/
structure En (w W wr : World) (s p m : Nat) (f : Int → Option Nat) (ia : Option Addr) (ic : Nat) (cs : List Cl) (L : List Nd) (q c : Int → Bool) (wv : Value) (wq : Int → Bool) (R : List Int) (ra : Option Addr) (rc : Nat) (k : Nat) (wv' : Value) : Prop where
  sn : Sn w wr s p m f ia ic cs L (un q (hasB (R.take k))) c wv' (wn cs L q (hasB (R.take k)) wq)
  ch : Chg (Tch s f wv) W wr
  ow : ∀ k, wv'.ownBlock = some k → wv.ownBlock = some k ∨ W.heap.size ≤ k
  rr : OL wr W.heap.size (.slice ra R.length rc) R
  ap : ∀ k, wv'.ownBlock = some k → (Value.slice ra R.length rc).ownBlock ≠ some k
set_option maxRecDepth 100000 in
set_option maxHeartbeats 2000000 in
theorem enliven_any (h : Sn w W s p m f ia ic cs L q c wv wq) (hg : GS w z S p cs L) (hl : L.length < 1000000) {a : Option Addr} {n cc : Nat} {zs : List Int} (hz : L1.Rd W a n zs) (hn : n ≤ 1000000) (hi : ∀ i ∈ zs, In64 i) {r : Int → Bool} (hr : IsRc cs L 1 zs r) :
    Calls Tryz.prog 25 #[ptr s, .slice a n cc] W (Wtd w W s p m f ia ic cs L (un q r) c wv (wn cs L q r wq)) := by
  have hsr := hg.srt
  have HRE := hide (reach_any (c := cc) (h.gs hg) hl hz hn hi (show IsRc cs L 1 (srcC L 1 zs) r from hr))
  have HME := hide (show ∀ i, hasB (clL L r) i = r i from fun i => L10.hasB_cl hr i)
  have hrn : ∀ i ∈ clL L r, ∃ x ∈ L, x.id = i := fun i hi => by
    unfold clL at hi
    obtain ⟨x, hx, rfl⟩ := List.mem_map.1 hi
    exact ⟨x, (List.mem_filter.1 hx).1, rfl⟩
  have HRN := hide hrn
  have HRL := hide (show (clL L r).length < 1000000 by have := clL_le L r; omega)
  have HOK := hide (show ∀ x ∈ L, x.Ok cs from fun x hx => hg.ok hx)
  have HH := hide h
  have HL := hide hl
  have HSR := hide hsr
  have c0 := h.c0
  have HW := hide h.gw.size
  clear h hg hl hz hn hi hr hrn hsr
  obtain ⟨R, hR⟩ : ∃ R, clL L r = R := ⟨_, rfl⟩
  rw [hR] at HRE HME HRN HRL
  clear hR
  obtain ⟨M, hM⟩ : ∃ M, R.length = M := ⟨_, rfl⟩
  have HM := hide hM
  rw [hM] at HRE HRL
  clear hM
  go_enter Tryz.func25, Tryz.ntmps25
  go_wp2_with fail
  refine HRE.out.mono ?_
  rintro e w1 ⟨ra, rc, rfl, ho, g1⟩
  have hen : En w W w1 s p m f ia ic cs L q c wv wq R ra rc 0 wv := by
    have e1 : un q (hasB (R.take 0)) = q := by funext i; simp [un, hasB]
    have e2 : wn cs L q (hasB (R.take 0)) wq = wq := by funext i; simp [wn, hasB]
    refine ⟨by rw [e1, e2]; exact HH.out.grow g1, g1.mono fun _ _ h => h.elim, fun k hk => .inl hk, by rw [HM.out]; exact ho, by rw [HM.out]; exact HH.out.new_row (Nat.le_refl _) ho⟩
  have HEN := hide hen
  clear ho g1 hen c0 HRE
  go_wp2_with fail
  go_loopw [14] (fun u wr => ∃ k : Nat, k ≤ M ∧ u = .int .i64 k ∧ ∃ wv', En w W wr s p m f ia ic cs L q c wv wq R ra rc k wv') (fun u _ => M - (Go.RowKit.intOf u).toNat)
  case atStart => exact ⟨0, Nat.zero_le _, rfl, _, HEN.out⟩
  case round =>
    clear HEN
    obtain ⟨k, hk, rfl, wv', hen⟩ := hrel
    rcases Nat.eq_or_lt_of_le hk with hke | hlt
    · have hke2 := hke.symm
      subst hke2
      clear hke
      have q1 : decide ((M : Int) < M) = false := by simp
      have HE := hide hen
      clear hen hk
      go_wp2
      go_returns
      have e0 : R.take M = R := by rw [← HM.out, List.take_length]
      have e1 : un q (hasB (R.take M)) = un q r := by rw [e0]; funext i; unfold un; rw [HME.out]
      have e2 : wn cs L q (hasB (R.take M)) wq = wn cs L q r wq := by rw [e0]; funext i; unfold wn; rw [HME.out]
      have hs := HE.out.sn
      rw [e1, e2] at hs
      exact ⟨rfl, wv', hs, HE.out.ch, HE.out.ow⟩
    · have q1 : decide ((k : Int) < M) = true := decide_eq_true (by omega)
      have q2 : k < M := hlt
      have hkl : k < R.length := by rw [HM.out]; exact hlt
      have hw : IntKind.i64.wrap ((k : Int) + 1) = ((k + 1 : Nat) : Int) := (IntWalk.i64_in _ (by have := HRL.out; omega)).trans (by omega)
      obtain ⟨x, hx, hxi⟩ := HRN.out _ (L10.getD_mem hkl)
      obtain ⟨g, cap, e, -⟩ := own_form hen.rr (by omega)
      injection e with e1 e2 e3
      clear e2 e3
      subst e1
      have k0 := hen.rr.cell hkl
      have c2 := hen.sn.c2
      obtain ⟨b, hb, hP⟩ := hen.sn.nds x hx
      have hlook := pn_at hen.sn.map (HOK.out x hx).id2 hb
      obtain ⟨-, -, x6, x7, -, xf, -⟩ := hP.cells
      have HEN := hide hen
      have HX := hide (And.intro hx hb)
      have HLT := hide hlt
      have HUY := hide (un_yes (q := q) hkl)
      have HUN := hide (un_no (q := q) hkl)
      have HWY := hide (wn_yes (cs := cs) (L := L) (q := q) (wq := wq) hkl)
      have HWN := hide (wn_no (cs := cs) (L := L) (q := q) (wq := wq) hkl)
      have HWP := hide (wn_put (cs := cs) (L := L) (q := q) (wq := wq) hkl)
      rw [← hxi] at k0 HUY HUN HWY HWN HWP
      obtain ⟨i, hi⟩ : ∃ i, x.id = i := ⟨_, rfl⟩
      obtain ⟨kd, hkd⟩ : ∃ kd, (aimX cs L x.id).2 = kd := ⟨_, rfl⟩
      have HI := hide hi
      have HKD := hide hkd
      rw [hi] at k0 hlook
      rw [hkd] at x6
      clear hen hx hb hP hkl hlt hk hi hkd hxi
      cases hu : un q (hasB (R.take k)) x.id with
      | true =>
        rw [hu] at x7
        have HN := hide (show ∃ wv', En w W wr s p m f ia ic cs L q c wv wq R (some ⟨g, 0, none⟩) rc (k + 1) wv' from ⟨wv', by
          have h1 := HEN.out
          exact ⟨by rw [HUY.out hu, HWY.out hu]; exact h1.sn, h1.ch, h1.ow, h1.rr, h1.ap⟩⟩)
        clear hu
        go_wp2
        go_roundw
        case rel => exact ⟨k + 1, HLT.out, rfl, HN.out⟩
        case measure => have := HLT.out; simp [Go.RowKit.intOf]; omega
      | false =>
        rw [hu] at x7
        have hL := HEN.out.sn.live HSR.out HX.out.1 HX.out.2
        rw [← HUN.out] at hL
        have hch : Chg (Tch s f wv') wr (wr.setCell ⟨b, 7, none⟩ (.bool true)) := Sn.set_chg HX.out.2 7 _
        have hrr := HEN.out.sn.keep hch HEN.out.rr HEN.out.ap
        have hch2 := Tch.step HEN.out.ch HEN.out.ow hch
        have hPL : Blk (wr.setCell ⟨b, 7, none⟩ (.bool true)) s 113 _ := hL.blk
        have HSL := hide hL
        have HRR := hide hrr
        have HCH := hide hch2
        have HU := hide hu
        have x6' : (wr.setCell ⟨b, 7, none⟩ (.bool true)).cell? ⟨b, 6, none⟩ = some (.int .i64 kd) := by
          obtain ⟨b0, hb0, hP⟩ := hL.nds x HX.out.1
          obtain rfl : b = b0 := by have := HX.out.2; rw [this] at hb0; injection hb0
          rw [hP.cells.2.2.1, HKD.out]
        by_cases h3 : kd = 3
        · have q3 : (kd == 3) = true := by simpa using h3
          have hwf : wn cs L q (hasB (R.take k)) wq x.id = false := by
            cases hwq : wn cs L q (hasB (R.take k)) wq x.id with
            | false => rfl
            | true => have := HEN.out.sn.wn _ hwq; rw [hu] at this; cases this
          have HWA := hide (wait_any hL HSR.out HL.out HX.out.1 (by rw [HUN.out]; exact L10.put_same _ _) hwf)
          rw [← HWP.out hu (by rw [HKD.out]; exact h3), HI.out] at HWA
          clear hu hL hch hrr hch2 hPL h3 hwf
          go_wp2_with fail
          generalize wr.setCell ⟨b, 7, none⟩ (.bool true) = wl at *
          refine HWA.out.mono ?_
          rintro e w2 ⟨rfl, wv2, hs2, hc2, ho2⟩
          have HN := hide (show ∃ wv', En w W w2 s p m f ia ic cs L q c wv wq R (some ⟨g, 0, none⟩) rc (k + 1) wv' from ⟨wv2, hs2, Tch.step HCH.out HEN.out.ow hc2, fun j hj => by
            rcases ho2 j hj with e | e
            · exact HEN.out.ow j e
            · right; have := HCH.out.size; omega, HSL.out.keep hc2 HRR.out HEN.out.ap, Sn.hop HRR.out HEN.out.ap ho2⟩)
          clear hs2 hc2 ho2 c2 k0 hlook x6 x7 xf x6'
          go_wp2
          go_roundw
          case rel => exact ⟨k + 1, HLT.out, rfl, HN.out⟩
          case measure => have := HLT.out; simp [Go.RowKit.intOf]; omega
        · have q3 : (kd == 3) = false := by simpa using h3
          have HN := hide (show ∃ wv', En w W (wr.setCell ⟨b, 7, none⟩ (.bool true)) s p m f ia ic cs L q c wv wq R (some ⟨g, 0, none⟩) rc (k + 1) wv' from ⟨wv', by rw [HWN.out (by rw [HKD.out]; exact h3)]; exact HSL.out, HCH.out, HEN.out.ow, HRR.out, HEN.out.ap⟩)
          clear hu hL hch hrr hch2 hPL h3
          go_wp2
          go_roundw
          case rel => exact ⟨k + 1, HLT.out, rfl, HN.out⟩
          case measure => have := HLT.out; simp [Go.RowKit.intOf]; omega
end
end Go.Proofs.YtjfpjnhlnoiekaaGreat.L13

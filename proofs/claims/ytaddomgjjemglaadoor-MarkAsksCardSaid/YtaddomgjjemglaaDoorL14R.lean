/- What a rescan does, by whatever function it is passed whose calls are known. Conditions: lists of at most 1000000 numbers. -/
import Derived.Test.YtaddomgjjemglaaDoorL14M
import Derived.ScopeJumps
namespace Go.Proofs.YtaddomgjjemglaaDoor.L14
open Go.ChangeShapes Go.WideShapes Go.ChangeAt Go.RowKit
open Go.Proofs.YtaddomgjjemglaaDoor.L3 (Ms Tab ms_set ms_len ms_has ms_next ms_count ms_new clamp ptr exB setI cnt cnt_le upd nx nx_cases)
set_option linter.unusedVariables false

/-- The function that is passed leads place j to the numbers E j; Inv A: it was asked of A; of the old blocks those in C alone may change. -/
structure Ed (w : World) (n : Nat) (E : Nat → List Int) (Inv : (Nat → Bool) → World → Prop) (C : Nat → Prop) (fid : Nat) (lb : Array Value) : Prop where
  eg : ∀ args W, (callFunc fid args).run Tryd.prog W = .ok (.enter fid args) W
  lt : ∀ k, C k → k < w.heap.size
  tb : ¬ C 0
  st : ∀ A W W', Inv A W → Chg (fun k => w.heap.size ≤ k) W W' → Inv A W'
  go : ∀ A W (j : Nat), j < n → Inv A W → w.heap.size ≤ W.heap.size → Calls Tryd.prog fid (#[.int .i64 j] ++ lb) W fun e W' => ∃ a c, e = .returned (.slice a (E j).length c) ∧ L1.Rd W' a (E j).length (E j) ∧ (0 < (E j).length → ∀ x : Addr, a = some x → x.block < w.heap.size ∨ W.heap.size ≤ x.block) ∧ Inv (upd A j true) W' ∧ Chg C W W'
  len : ∀ j, j < n → (E j).length ≤ 1000000
/-- What stands between two steps. -/
structure Sta (w W : World) (C : Nat → Prop) (Inv : (Nat → Bool) → World → Prop) (m p g n r : Nat) (fv v : Value) (s : St) (A : Nat → Bool) : Prop where
  ma : Mk W w.heap.size m p g n r fv v s
  iv : Inv A W
  ch : Chg (fun k => C k ∨ w.heap.size ≤ k) w W
section
variable {w W W' : World} {C : Nat → Prop} {E : Nat → List Int} {Inv : (Nat → Bool) → World → Prop} {m p g n r fid k c : Nat} {lb : Array Value} {fv v v' : Value} {s s' : St} {A : Nat → Bool} {a : Option Addr} {l xs : List Int} {j : Nat}
theorem Sta.tab (h : Sta w W C Inv m p g n r fv v s A) (hE : Ed w n E Inv C fid lb) (ht : Tab w) : Tab W :=
  ht.chg h.ch fun e => by
    rcases e with e | e
    · exact hE.tb e
    · have := cell_lt (ht 0 (by decide))
      exact absurd this (Nat.not_lt.2 e)
/-- It is asked of a place. -/
theorem Sta.ask (h : Sta w W C Inv m p g n r fv v s A) (hE : Ed w n E Inv C fid lb) (hj : j < n) :
    Calls Tryd.prog fid (#[.int .i64 j] ++ lb) W fun e W' => ∃ a c, e = .returned (.slice a (E j).length c) ∧ Sta w W' C Inv m p g n r fv v s (upd A j true) ∧
      Calls Tryd.prog 28 #[ptr m, .slice a (E j).length c] W' fun e W'' => e = .returned (.tuple #[]) ∧ ∃ v', Sta w W'' C Inv m p g n r fv v' (puts n r s (E j)) (upd A j true) := by
  refine (hE.go A W j hj h.iv h.ch.size).mono ?_
  rintro e W' ⟨a, c, rfl, hrd, hx, hi, hc⟩
  have h1 : Sta w W' C Inv m p g n r fv v s (upd A j true) := ⟨h.ma.out (hc.mono fun i _ hi => hE.lt i hi), hi, h.ch.step hc fun i _ hi => .inl hi⟩
  refine ⟨a, c, rfl, h1, ?_⟩
  have hlt := h.ma.lts
  refine (mark_any h1.ma hrd (fun h0 x e => ?_) (hE.len j hj) h1.ch.size).mono ?_
  · have hb := hx h0 x e
    have := h.ma.mb.hm
    have := h.ma.mb.hg
    refine ⟨by omega, by omega, fun e' => ?_⟩
    have := h.ma.vb e'
    omega
  · rintro e W'' ⟨rfl, v', hm, hc2⟩
    exact ⟨rfl, v', hm, hE.st _ _ _ hi hc2, h1.ch.step hc2 fun i _ e => .inr e⟩
/-- What holds at the label of a rescan that began with s and stands at t. -/
structure Rs (w W : World) (C : Nat → Prop) (E : Nat → List Int) (Inv : (Nat → Bool) → World → Prop) (zs : List Int) (m p g n r : Nat) (fv v : Value) (s s' : St) (A : Nat → Bool) (t : Int) : Prop where
  sta : Sta w W C Inv m p g n r fv v s' A
  gd : Gd n r E zs A (Dr A t) s'
  tt : t = -1 ∨ ∃ k : Nat, t = k ∧ k < n ∧ s'.S k = true
  pt : pt n s' ≤ pt n ⟨s.S, s.ws, false⟩
  sb : ∀ j, s.S j = true → s'.S j = true
variable {zs : List Int} {t : Int}
theorem nx_tt (S : Nat → Bool) (n : Nat) (i : Int) : nx S n i = -1 ∨ ∃ k : Nat, nx S n i = k ∧ k < n ∧ S k = true := by
  rcases nx_cases S n i with ⟨e, _⟩ | ⟨k, e, _, h1, h2, _⟩
  · exact .inl e
  · exact .inr ⟨k, e, h1, h2⟩
theorem Sta.grow (h : Sta w W C Inv m p g n r fv v s A) (hE : Ed w n E Inv C fid lb) (d : Grow W W') : Sta w W' C Inv m p g n r fv v s A :=
  ⟨h.ma.grow d, hE.st _ _ _ h.iv (d.mono fun _ _ e => e.elim), h.ch.step d fun _ _ e => e.elim⟩
def msr (n : Nat) : Value → Nat
  | .int _ t => if t < 0 then 0 else n - t.toNat
  | _ => 0
theorem msr_nat (n k : Nat) : msr n (.int .i64 (k : Int)) = n - k := by
  show (if (k : Int) < 0 then 0 else n - (k : Int).toNat) = _
  rw [if_neg (by omega), Int.toNat_natCast]
theorem msr_neg (n : Nat) : msr n (.int .i64 (-1)) = 0 := rfl
set_option maxRecDepth 100000 in
set_option maxHeartbeats 1000000 in
theorem rescan_any (hE : Ed w n E Inv C fid lb) (ht : Tab w) (h : Sta w W C Inv m p g n r (.func (.func fid) #[] lb) v s A) (hg : Gd n r E zs A (fun j => A j = true) s) (hlo : s.lo = true) :
    Calls Tryd.prog 30 #[ptr m] W fun e W' => e = .returned (.tuple #[]) ∧ ∃ v' s' A', Sta w W' C Inv m p g n r (.func (.func fid) #[] lb) v' s' A' ∧ Gd n r E zs A' (fun j => A' j = true) s' ∧ pt n s' < pt n s ∧ ∀ j, s.S j = true → s'.S j = true := by
  have eg := hE.eg
  have HE := hide hE
  have HT := hide ht
  have f4 := h.ma.mb.blk.frozen 4
  have c4 := h.ma.mb.blk.cell 4
  have c0 := h.ma.mb.blk.cell 0
  have HG := hide hg
  have HLO := hide hlo
  have HS := hide (show Sta w (W.setCell ⟨m, 4, none⟩ (.bool false)) C Inv m p g n r (.func (.func fid) #[] lb) v ⟨s.S, s.ws, false⟩ A from by
    have hc := (Chg.refl (· = m) W).set1 4 (.bool false)
    exact ⟨h.ma.lost false, hE.st _ _ _ h.iv (hc.mono fun i _ e => by rw [e]; exact h.ma.mb.hm), h.ch.step hc fun i _ e => .inr (by rw [e]; exact h.ma.mb.hm)⟩)
  clear hE ht h hg hlo
  go_enter Tryd.func30, Tryd.ntmps30
  go_wp2_with fail
  refine wp_scope_jumps 0 (fun a' W' => ∃ (t : Int) (v' : Value) (s' : St) (A' : Nat → Bool), Rs w W' C E Inv zs m p g n r (.func (.func fid) #[] lb) v' s s' A' t ∧ ∃ u3 u4 u5 u6 u7 u8 u9 u10 u11 u12 u13 u14 u15 u16 u17 u18 u19 u20 u21 u22 u23 u24 u25 u26 u27 : Value, a' = { tmps := #[ptr m, undef, .int .i64 t, u3, u4, u5, u6, u7, u8, u9, u10, u11, u12, u13, u14, u15, u16, u17, u18, u19, u20, u21, u22, u23, u24, u25, u26, u27], defers := [] }) (fun a' _ => msr n (a'.tmps.getD 2 undef)) rfl ?_ ?_
  · go_wp2_with fail
    generalize W.setCell ⟨m, 4, none⟩ (.bool false) = W1 at *
    refine (ms_next _ HS.out.ma.mb.ms (HS.out.tab HE.out HT.out)).mono ?_
    rintro e W2 ⟨rfl, d2⟩
    have htt := nx_tt s.S n 0
    have hrs : Rs w W2 C E Inv zs m p g n r (.func (.func fid) #[] lb) v s ⟨s.S, s.ws, false⟩ A (nx s.S n 0) := ⟨HS.out.grow HE.out d2, HG.out.begins, htt, Nat.le_refl _, fun _ h => h⟩
    dsimp only at *
    generalize nx s.S n 0 = t at *
    clear d2 c0 c4 f4 htt
    obtain ⟨s1, hs1⟩ : ∃ s1 : St, s1 = ⟨s.S, s.ws, false⟩ := ⟨_, rfl⟩
    rw [← hs1] at hrs
    clear hs1 HS
    go_wp2_with fail
    go_step3
    rcases hrs.tt with rfl | ⟨k, rfl, hk, hsk⟩
    · have q1 : decide ((-1 : Int) < 0) = true := by decide
      have HR := hide hrs
      clear hrs
      go_wp2_with fail
      simp only [Exit.jump]
      go_returns
      exact ⟨rfl, _, _, _, HR.out.sta, HR.out.gd.ended, by
        refine Nat.lt_of_le_of_lt HR.out.pt ?_
        unfold pt
        rw [HLO.out]
        exact Nat.lt_succ_self _, HR.out.sb⟩
    · have q1 : decide ((k : Int) < 0) = false := by simp
      have c0 := hrs.sta.ma.mb.blk.cell 1
      have HR := hide hrs
      have HK := hide (And.intro hk hsk)
      have hn := hrs.sta.ma.mb.ms.most
      obtain ⟨k1, hk1⟩ : ∃ k1, k + 1 = k1 := ⟨_, rfl⟩
      have HK1 := hide hk1
      have hw : IntKind.i64.wrap ((k : Int) + 1) = (k1 : Int) := (IntWalk.i64_in _ (by omega)).trans (by omega)
      clear hrs hn hsk hk hk1
      go_wp2_with fail
      refine (HR.out.sta.ask HE.out HK.out.1).mono ?_
      rintro e W2 ⟨a2, k2, rfl, h2, hmk⟩
      have HMK := hide hmk
      clear hmk h2
      go_wp2_with fail
      refine HMK.out.mono ?_
      rintro e W3 ⟨rfl, v3, h3⟩
      have H3 := hide h3
      have c3 := h3.ma.mb.blk.cell 0
      clear HMK h3 c0
      go_wp2_with fail
      refine (ms_next _ H3.out.ma.mb.ms (H3.out.tab HE.out HT.out)).mono ?_
      rintro e W4 ⟨rfl, d4⟩
      have htt := nx_tt (puts n r s1 (E k)).S n (k1 : Int)
      have HN := hide (show Rs w W4 C E Inv zs m p g n r (.func (.func fid) #[] lb) v3 s (puts n r s1 (E k)) (upd A k true) (nx (puts n r s1 (E k)).S n (k1 : Int)) from
        ⟨H3.out.grow HE.out d4, HK1.out ▸ HR.out.gd.visit HK.out.2, htt, Nat.le_trans (puts_pt _ HR.out.gd.wl) HR.out.pt, fun j hj => puts_sub _ _ (HR.out.sb j hj)⟩)
      have HMS := hide (show msr n (.int .i64 (nx (puts n r s1 (E k)).S n (k1 : Int))) < msr n (.int .i64 (k : Int)) from by
        have hk := HK.out.1
        have hk1 := HK1.out
        rw [msr_nat]
        rcases nx_cases (puts n r s1 (E k)).S n (k1 : Int) with ⟨e, _⟩ | ⟨i, e, h1, h2, _⟩
        · rw [e, msr_neg]
          omega
        · rw [e, msr_nat]
          rw [Int.toNat_natCast] at h1
          omega)
      clear htt d4 c3 hw
      generalize nx (puts n r s1 (E k)).S n (k1 : Int) = t' at *
      go_wp2_with fail
      go_step3
      (exact ⟨rfl, t', v3, _, _, HN.out, _, _, _, _, _, _, _, _, _, _, _, _, _, _, _, _, _, _, _, _, _, _, _, _, _, rfl⟩)
  · rintro a' W1 ⟨t, v1, s1, A1, hrs, u3, u4, u5, u6, u7, u8, u9, u10, u11, u12, u13, u14, u15, u16, u17, u18, u19, u20, u21, u22, u23, u24, u25, u26, u27, rfl⟩
    clear c4 f4 c0 HS
    rcases hrs.tt with rfl | ⟨k, rfl, hk, hsk⟩
    · have q1 : decide ((-1 : Int) < 0) = true := by decide
      have HR := hide hrs
      clear hrs
      go_wp2_with fail
      simp only [Exit.jump]
      go_returns
      exact ⟨rfl, _, _, _, HR.out.sta, HR.out.gd.ended, by
        refine Nat.lt_of_le_of_lt HR.out.pt ?_
        unfold pt
        rw [HLO.out]
        exact Nat.lt_succ_self _, HR.out.sb⟩
    · have q1 : decide ((k : Int) < 0) = false := by simp
      have c0 := hrs.sta.ma.mb.blk.cell 1
      have HR := hide hrs
      have HK := hide (And.intro hk hsk)
      have hn := hrs.sta.ma.mb.ms.most
      obtain ⟨k1, hk1⟩ : ∃ k1, k + 1 = k1 := ⟨_, rfl⟩
      have HK1 := hide hk1
      have hw : IntKind.i64.wrap ((k : Int) + 1) = (k1 : Int) := (IntWalk.i64_in _ (by omega)).trans (by omega)
      clear hrs hn hsk hk hk1
      go_wp2_with fail
      refine (HR.out.sta.ask HE.out HK.out.1).mono ?_
      rintro e W2 ⟨a2, k2, rfl, h2, hmk⟩
      have HMK := hide hmk
      clear hmk h2
      go_wp2_with fail
      refine HMK.out.mono ?_
      rintro e W3 ⟨rfl, v3, h3⟩
      have H3 := hide h3
      have c3 := h3.ma.mb.blk.cell 0
      clear HMK h3 c0
      go_wp2_with fail
      refine (ms_next _ H3.out.ma.mb.ms (H3.out.tab HE.out HT.out)).mono ?_
      rintro e W4 ⟨rfl, d4⟩
      have htt := nx_tt (puts n r s1 (E k)).S n (k1 : Int)
      have HN := hide (show Rs w W4 C E Inv zs m p g n r (.func (.func fid) #[] lb) v3 s (puts n r s1 (E k)) (upd A1 k true) (nx (puts n r s1 (E k)).S n (k1 : Int)) from
        ⟨H3.out.grow HE.out d4, HK1.out ▸ HR.out.gd.visit HK.out.2, htt, Nat.le_trans (puts_pt _ HR.out.gd.wl) HR.out.pt, fun j hj => puts_sub _ _ (HR.out.sb j hj)⟩)
      have HMS := hide (show msr n (.int .i64 (nx (puts n r s1 (E k)).S n (k1 : Int))) < msr n (.int .i64 (k : Int)) from by
        have hk := HK.out.1
        have hk1 := HK1.out
        rw [msr_nat]
        rcases nx_cases (puts n r s1 (E k)).S n (k1 : Int) with ⟨e, _⟩ | ⟨i, e, h1, h2, _⟩
        · rw [e, msr_neg]
          omega
        · rw [e, msr_nat]
          rw [Int.toNat_natCast] at h1
          omega)
      clear htt d4 c3 hw
      generalize nx (puts n r s1 (E k)).S n (k1 : Int) = t' at *
      go_wp2_with fail
      go_step3
      (exact ⟨rfl, ⟨t', v3, _, _, HN.out, _, _, _, _, _, _, _, _, _, _, _, _, _, _, _, _, _, _, _, _, _, _, _, _, _, rfl⟩, HMS.out⟩)
end
end Go.Proofs.YtaddomgjjemglaaDoor.L14

/- For all bounds and lists of calls CardPlays answers true: whatever is touched, taken and wiped, each answer is the plain table's, and so are the dirty cards. Conditions: the table of math/bits.TrailingZeros64 is as the program's text lays it, which the card ties. -/
import Derived.Test.YtbigdgabjjpffaaDoorL7Both
import Derived.Test.YtbigdgabjjpffaaDoorOpen
import Derived.Test.YtbigdgabjjpffaaDoorCards
import Derived.Test.YtbigdgabjjpffaaDoorTie
import Derived.SevenTiedAt
import Derived.Stop.Joined
import Derived.ShutString
import Derived.Deep.RegionHeld3
namespace Go.Proofs.YtbigdgabjjpffaaDoor.cardPlays
open Go.ChangeShapes Go.WideShapes Go.ChangeAt Go.RowKit Go.Deep Go.Proofs.YtbigdgabjjpffaaDoor.L3 Go.Proofs.YtbigdgabjjpffaaDoor.L7
set_option linter.unusedVariables false

set_option maxHeartbeats 1000000 in
set_option maxRecDepth 100000 in
theorem walk_long (f t : Int) (a2 : Option Addr) (len cap : Nat) (w : World) (ht : Tab w) (h : 200 < len) :
    Calls Tryd.prog 3 #[.int .i64 f, .int .i64 t, .slice a2 len cap] w fun e w' => e = .returned (.bool true) ∧ Below w.heap.size w w' := by
  have HT := hide ht
  clear ht
  go_enter Tryd.func3, Tryd.ntmps3
  go_wp2_with fail
  refine (awake_any _ HT.out).mono ?_
  rintro e wa ⟨rfl, ca⟩
  go_wp2_with fail
  refine (awake_any _ (HT.out.chg ca id)).mono ?_
  rintro e wb ⟨rfl, cb⟩
  go_wp2
  go_ret
  exact ⟨rfl, (ca.trans cb).under⟩

abbrev OpK : List (Option IntKind) := [some .i64, some .i64]

theorem keep1 {g : Nat} {wo W : World} {p : Addr} {v : Value} (h : wo.cell? p = some v) (hne : p.block ≠ g) (c : Chg (· = g) wo.drew W) : W.cell? p = some v := c.cell (w := wo.drew) h hne
theorem keep2 {g q : Nat} {wo W W' : World} {p : Addr} {v : Value} (h : wo.cell? p = some v) (hne : p.block ≠ g) (hnq : p.block ≠ q) (c : Chg (· = g) wo.drew W) (c' : Chg (· = q) W W') : W'.cell? p = some v := c'.cell (keep1 h hne c) hnq

set_option maxHeartbeats 4000000 in
set_option maxRecDepth 100000 in
theorem walk_main (f t : Int) (a2 : Option Addr) (len cap : Nat) (rows : List (List Value)) (w : World) (ht : Tab w) (h0 : IsRecs OpK w a2 len cap rows) (hlen : len ≤ 200) :
    Calls Tryd.prog 3 #[.int .i64 f, .int .i64 t, .slice a2 len cap] w fun e w' => e = .returned (.bool true) ∧ Below w.heap.size w w' := by
  obtain ⟨F, hF⟩ : ∃ F, clamp f = F := ⟨_, rfl⟩
  obtain ⟨T, hTT⟩ : ∃ T, tob f t = T := ⟨_, rfl⟩
  have H0 := hide h0
  have HT := hide ht
  clear h0 ht
  have hn3 : decide ((200 : Int) < len) = false := by simp; omega
  go_enter Tryd.func3, Tryd.ntmps3
  go_wp2_with fail
  refine (awake_any _ HT.out).mono ?_
  rintro e wa ⟨rfl, ca⟩
  go_wp2_with fail
  refine (tb_new f t _ hF hTT).mono ?_
  rintro e w1 ⟨p, m, g, rfl, h1, hp, hm, hg, c1⟩
  go_wp2_with fail
  refine (rnew_any f t _ hF hTT).mono ?_
  rintro e w2 ⟨rfl, h2, c2⟩
  have hp1 := h1.plt
  have hg1 := h1.glt
  have hm1 := h1.mlt
  have hbo : Both w p m g w1.heap.size F T no w2 := ⟨h1.grow c2,
    ⟨none, 0, 0, h2, ⟨⟨by rw [cds_no]; rfl, fun h => absurd h (Nat.lt_irrefl 0)⟩, fun h => absurd h (Nat.lt_irrefl 0)⟩, Nat.le_refl _, by unfold maxLen; omega, by omega, .inr rfl, h1.t4, h1.ft, fun _ => ⟨rfl, rfl⟩⟩,
    by omega, by omega, by omega, Nat.le_trans ca.size hg, Nat.le_trans ca.size c1.size, (ca.trans c1).trans c2⟩
  clear h1 h2 c1 c2 ca hp1 hg1 hm1 hp hm hg hF hTT
  generalize w1.heap.size = q at *
  go_wp2
  go_loopw [33] (fun i wr => ∃ (k : Nat) (S : Nat → Bool), k ≤ len ∧ i = .int .i64 k ∧ Both w p m g q F T S wr) (fun i _ => len - (intOf i).toNat)
  case atStart => exact ⟨0, no, Nat.zero_le _, rfl, hbo⟩
  case round =>
    clear hbo
    obtain ⟨k, S, hk, rfl, hb⟩ := hrel
    by_cases hlt : k < len
    · have hlt' : (k : Int) < (len : Int) := by omega
      obtain ⟨b, off, rfl, hcells, hfit⟩ := H0.out.at_ hlt
      generalize rows.getD k [] = cs at *
      obtain ⟨K, cs, rfl, hK, hfit⟩ := fits_int hfit
      obtain ⟨A, cs, rfl, hA, hfit⟩ := fits_int hfit
      obtain rfl := fits_nil hfit
      clear hfit
      have hbl := cell_lt (hcells 0 _ rfl)
      have x0 : wr.cell? ⟨b, off + k * 2, none⟩ = some (.int .i64 K) := hb.cc.cell (hcells 0 _ rfl)
      have x1 : wr.cell? ⟨b, off + k * 2 + 1, none⟩ = some (.int .i64 A) := hb.cc.cell (hcells 1 _ rfl)
      have HBG : Hid (b ≠ g) := hide (by have := hb.newg; exact Nat.ne_of_lt (Nat.lt_of_lt_of_le hbl this))
      have HBQ : Hid (b ≠ q) := hide (by have := hb.newq; exact Nat.ne_of_lt (Nat.lt_of_lt_of_le hbl this))
      clear hcells hK hA hbl
      have HBO := hide hb
      clear hb
      by_cases k1 : K = 1
      · as_aux_lemma =>
        subst k1
        obtain ⟨bb, hbb⟩ : ∃ bb, isnew S F T A = bb := ⟨_, rfl⟩
        have HS1 := hide (tb_touch (HBO.out.hm.grow (Chg.refl (fun _ => False) wr).drew) A hbb rfl)
        have HS2 := hide (fun W (c : Chg (· = g) wr.drew W) => rs_touch (b := bb) ((HBO.out.hr.grow (Chg.refl (fun _ => False) wr).drew).chg c (Ne.symm HBO.out.gq) (fun i hi => .inl hi)) A (fun i hi => Nat.lt_of_lt_of_le (by rcases hi with rfl | rfl; exact HBO.out.hm.glt; exact HBO.out.qlt) c.size) hbb rfl)
        have HK1 := hide (fun W (c : Chg (· = g) wr.drew W) => keep1 x1 HBG.out c)
        have HK2 := hide (fun W W' (c : Chg (· = g) wr.drew W) (c' : Chg (· = q) W W') => keep2 x1 HBG.out HBQ.out c c')
        clear hbb
        go_wp2_with fail
        clear x0
        go_region_held3 (fun W => W.cell? ⟨b, off + k * 2 + 1, none⟩ = some (.int .i64 A)) (first | exact HK2.out _ _ c3 c4 | exact HK1.out _ c3 | go_keep) (first | (go_at_call 12; refine HS1.out.mono ?_; rintro e w3 ⟨rfl, h3, c3⟩) | (go_at_call 13; refine (HS2.out _ c3).mono ?_; rintro e w4 ⟨rfl, h4, c4⟩))
        have HBN0 := hide (Both.two (HBO.out.grow (Chg.refl (fun _ => False) wr).drew) h3 c3 h4 c4)
        clear h3 c3 h4 c4 HS1 HS2 HK1 HK2 HBO x1
        obtain ⟨ra, rn, rc, hrt⟩ := HBN0.out.hr
        have HRT := hide hrt
        have y2 : w4.cell? ⟨q, 2, none⟩ = some (.slice ra rn rc) := hrt.hd.cell 2
        have HB2 := HBN0
        have HRD := hide hrt.ro.1
        have hrl : rn ≤ 4096 := hrt.n4
        obtain ⟨lst, hlst⟩ : ∃ lst, cds (tset S F T A) F (nc F T) = lst := ⟨_, rfl⟩
        rw [hlst] at HRD
        have hlen3 : lst.length = rn := HRD.out.1
        have HLN := hide hlen3
        have HALL := hide fun W (c : Grow w4 W) => tb_all (HB2.out.hm.grow c) (HT.out.chg (HB2.out.cc.trans c) id) hlst
        have HK1 := hide (fun W (c : Grow w4.drew W) => (Grow.cell c y2 : W.cell? ⟨q, 2, none⟩ = some (.slice ra rn rc)))
        have HRO := hide (show ∀ W, Grow w4.drew W → L1.Rd W ra rn lst from fun W c => (Ro.chg (G := fun _ => False) ⟨HRD.out, fun _ _ _ h => h⟩ ((Chg.refl (fun _ => False) w4).drew.trans c) (fun _ h => h)).1)
        clear hrt HRT hlst hlen3
        go_wp2_with fail
        go_region_held3 (fun W => W.cell? ⟨q, 2, none⟩ = some (.slice ra rn rc)) (first | exact HK1.out _ c5 | exact HK1.out _ (c5.trans c6) | go_keep) (first | (go_at_call 20; refine (HALL.out _ ((Chg.refl (fun _ => False) w4).drew)).mono ?_; rintro e w5 ⟨v5, rfl, own5, c5⟩; (rw [HLN.out] at own5); obtain ⟨pa, pcap, rfl⟩ := own_len own5) | (go_at_call 19; refine (L1.same_yes _ _ rn _ _ lst _ (own_rd own5) (HRO.out _ c5) (by omega)).mono ?_; rintro e w6 ⟨rfl, c6⟩))
        have HBN := hide (HB2.out.grow ((Chg.refl (fun _ => False) w4).drew.trans (c5.trans c6)))
        clear HRD HLN HALL HK1 HRO c5 c6 own5 HB2 y2 HBN0
        go_wp2
        go_roundw
        case rel => exact ⟨k + 1, (tset S F T A), by omega, by go_num, HBN.out⟩
        case measure => simp [intOf]; omega
      by_cases k2 : K = 2
      · as_aux_lemma =>
        clear k1
        subst k2
        obtain ⟨bb, hbb⟩ : ∃ bb, isd S F T A = bb := ⟨_, rfl⟩
        have H1 := hide fun W (c : Grow wr W) => tb_dirty (HBO.out.hm.grow c) A hbb
        have H2 := hide fun W (c : Grow wr W) => rs_dirty (HBO.out.hr.grow c) A hbb
        clear hbb
        go_wp2_with fail
        clear x0
        refine wp_region_grow (by kernel_rfl) (by kernel_rfl) ?_
        repeat (
          with_reducible refine wpQuiet_step ?_
          intro K hK
          first
            | ((with_reducible refine quiet_offT rfl ?_ (hK _ ?_)); focus (refine ⟨_, rfl, ?_⟩; with_reducible rfl))
            | ((with_reducible refine quiet_offF rfl ?_ (hK _ ?_)); focus (refine ⟨_, rfl, ?_⟩; with_reducible rfl))
            | ((with_reducible refine quiet_offN rfl ?_ (hK _ ?_)); focus (exact rfl))
            | ((first | with_reducible refine quiet_free rfl ?_ | ((with_reducible refine quiet_on rfl ?_ ?_); focus (refine ⟨_, rfl, ?_⟩; with_reducible rfl)))
               apply Exists.intro
               refine ⟨fun Wq hW => ?_, hK _ ?_⟩
               focus (have q0 := Grow.cell hW x1; go_simp; first | done | with_reducible rfl | (go_at_call 14; (first | with_reducible exact grown_call hW (H1.out _ hW) | with_reducible exact grown_same hW (H1.out _ hW))) | (go_at_call 15; (first | with_reducible exact grown_call hW (H2.out _ hW) | with_reducible exact grown_same hW (H2.out _ hW)))))
          clear hK K
          simp only [Act.put, List.setIfInBounds_toArray, List.set_cons_zero, List.set_cons_succ])
        with_reducible refine wpQuiet_nil ?_
        intro w4 c4
        have HBN0 := hide (HBO.out.grow c4)
        clear H1 H2 HBO x1 c4
        obtain ⟨ra, rn, rc, hrt⟩ := HBN0.out.hr
        have HRT := hide hrt
        have y2 : w4.cell? ⟨q, 2, none⟩ = some (.slice ra rn rc) := hrt.hd.cell 2
        have HB2 := HBN0
        have HRD := hide hrt.ro.1
        have hrl : rn ≤ 4096 := hrt.n4
        obtain ⟨lst, hlst⟩ : ∃ lst, cds S F (nc F T) = lst := ⟨_, rfl⟩
        rw [hlst] at HRD
        have hlen3 : lst.length = rn := HRD.out.1
        have HLN := hide hlen3
        have HALL := hide fun W (c : Grow w4 W) => tb_all (HB2.out.hm.grow c) (HT.out.chg (HB2.out.cc.trans c) id) hlst
        have HK1 := hide (fun W (c : Grow w4.drew W) => (Grow.cell c y2 : W.cell? ⟨q, 2, none⟩ = some (.slice ra rn rc)))
        have HRO := hide (show ∀ W, Grow w4.drew W → L1.Rd W ra rn lst from fun W c => (Ro.chg (G := fun _ => False) ⟨HRD.out, fun _ _ _ h => h⟩ ((Chg.refl (fun _ => False) w4).drew.trans c) (fun _ h => h)).1)
        clear hrt HRT hlst hlen3
        go_wp2_with fail
        go_region_held3 (fun W => W.cell? ⟨q, 2, none⟩ = some (.slice ra rn rc)) (first | exact HK1.out _ c5 | exact HK1.out _ (c5.trans c6) | go_keep) (first | (go_at_call 20; refine (HALL.out _ ((Chg.refl (fun _ => False) w4).drew)).mono ?_; rintro e w5 ⟨v5, rfl, own5, c5⟩; (rw [HLN.out] at own5); obtain ⟨pa, pcap, rfl⟩ := own_len own5) | (go_at_call 19; refine (L1.same_yes _ _ rn _ _ lst _ (own_rd own5) (HRO.out _ c5) (by omega)).mono ?_; rintro e w6 ⟨rfl, c6⟩))
        have HBN := hide (HB2.out.grow ((Chg.refl (fun _ => False) w4).drew.trans (c5.trans c6)))
        clear HRD HLN HALL HK1 HRO c5 c6 own5 HB2 y2 HBN0
        go_wp2
        go_roundw
        case rel => exact ⟨k + 1, S, by omega, by go_num, HBN.out⟩
        case measure => simp [intOf]; omega
      by_cases k3 : K = 3
      · subst k3
        clear k1 k2 x1
        rcases nx_cases S (nc F T) 0 with ⟨hn, hno⟩ | ⟨j, hn, hj0, hj, hsj, hbe⟩
        · as_aux_lemma =>
          have hno' : ∀ i, i < nc F T → S i = false := fun i hi => hno i (by simp) hi
          have HNO := hide hno'
          clear hn hno hno'
          go_wp2_with fail
          refine (tb_take0 HBO.out.hm (HT.out.chg HBO.out.cc id) HNO.out).mono ?_
          rintro e w3 ⟨rfl, c3⟩
          have HB3 := hide (HBO.out.grow c3)
          clear HBO c3 x0
          go_wp2_with fail
          refine (rs_take0 HB3.out.hr HNO.out).mono ?_
          rintro e w' ⟨rfl, rfl⟩
          clear HNO
          obtain ⟨ra, rn, rc, hrt⟩ := HB3.out.hr
          have HRT := hide hrt
          have y2 : w3.cell? ⟨q, 2, none⟩ = some (.slice ra rn rc) := hrt.hd.cell 2
          have HB2 := HB3
          have HRD := hide hrt.ro.1
          have hrl : rn ≤ 4096 := hrt.n4
          obtain ⟨lst, hlst⟩ : ∃ lst, cds S F (nc F T) = lst := ⟨_, rfl⟩
          rw [hlst] at HRD
          have hlen3 : lst.length = rn := HRD.out.1
          have HLN := hide hlen3
          have HALL := hide fun W (c : Grow w3 W) => tb_all (HB2.out.hm.grow c) (HT.out.chg (HB2.out.cc.trans c) id) hlst
          have HK1 := hide (fun W (c : Grow w3.drew W) => (Grow.cell c y2 : W.cell? ⟨q, 2, none⟩ = some (.slice ra rn rc)))
          have HRO := hide (show ∀ W, Grow w3.drew W → L1.Rd W ra rn lst from fun W c => (Ro.chg (G := fun _ => False) ⟨HRD.out, fun _ _ _ h => h⟩ ((Chg.refl (fun _ => False) w3).drew.trans c) (fun _ h => h)).1)
          clear hrt HRT hlst hlen3
          go_wp2_with fail
          go_region_held3 (fun W => W.cell? ⟨q, 2, none⟩ = some (.slice ra rn rc)) (first | exact HK1.out _ c5 | exact HK1.out _ (c5.trans c6) | go_keep) (first | (go_at_call 20; refine (HALL.out _ ((Chg.refl (fun _ => False) w3).drew)).mono ?_; rintro e w5 ⟨v5, rfl, own5, c5⟩; (rw [HLN.out] at own5); obtain ⟨pa, pcap, rfl⟩ := own_len own5) | (go_at_call 19; refine (L1.same_yes _ _ rn _ _ lst _ (own_rd own5) (HRO.out _ c5) (by omega)).mono ?_; rintro e w6 ⟨rfl, c6⟩))
          have HBN := hide (HB2.out.grow ((Chg.refl (fun _ => False) w3).drew.trans (c5.trans c6)))
          clear HRD HLN HALL HK1 HRO c5 c6 own5 HB2 y2 HB3
          go_wp2
          go_roundw
          case rel => exact ⟨k + 1, S, by omega, by go_num, HBN.out⟩
          case measure => simp [intOf]; omega
        · as_aux_lemma =>
          have hbe' : ∀ i, i < j → S i = false := fun i hi => hbe i (by simp) hi
          have HBE := hide hbe'
          have HSJ := hide hsj
          have HJ := hide hj
          obtain ⟨x, hx⟩ : ∃ x, x = F + 16 * j := ⟨_, rfl⟩
          obtain ⟨y, hy⟩ : ∃ y, y = min (x + 16) T := ⟨_, rfl⟩
          have HX := hide hx
          have HY := hide hy
          clear hn hj0 hbe hbe' hsj hj hx hy
          go_wp2_with fail
          refine (tb_take1 HBO.out.hm (HT.out.chg HBO.out.cc id) HJ.out HSJ.out HBE.out HX.out HY.out).mono ?_
          rintro e w3 ⟨rfl, h3, c3⟩
          have HR3 := hide (HBO.out.hr.chg c3 (Ne.symm HBO.out.gq) (fun i hi => .inl hi))
          have HM3 := hide h3
          have HC3 := hide c3
          clear c3 h3 x0
          go_wp2_with fail
          refine (rs_take1 HR3.out HJ.out HSJ.out HBE.out HX.out HY.out).mono ?_
          rintro e w4 ⟨rfl, h4, c4⟩
          have HBN0 := hide (HBO.out.two HM3.out HC3.out h4 c4)
          clear h4 c4 HR3 HM3 HC3 HBE HSJ HJ HX HY HBO
          obtain ⟨ra, rn, rc, hrt⟩ := HBN0.out.hr
          have HRT := hide hrt
          have y2 : w4.cell? ⟨q, 2, none⟩ = some (.slice ra rn rc) := hrt.hd.cell 2
          have HB2 := HBN0
          have HRD := hide hrt.ro.1
          have hrl : rn ≤ 4096 := hrt.n4
          obtain ⟨lst, hlst⟩ : ∃ lst, cds (upd S j false) F (nc F T) = lst := ⟨_, rfl⟩
          rw [hlst] at HRD
          have hlen3 : lst.length = rn := HRD.out.1
          have HLN := hide hlen3
          have HALL := hide fun W (c : Grow w4 W) => tb_all (HB2.out.hm.grow c) (HT.out.chg (HB2.out.cc.trans c) id) hlst
          have HK1 := hide (fun W (c : Grow w4.drew W) => (Grow.cell c y2 : W.cell? ⟨q, 2, none⟩ = some (.slice ra rn rc)))
          have HRO := hide (show ∀ W, Grow w4.drew W → L1.Rd W ra rn lst from fun W c => (Ro.chg (G := fun _ => False) ⟨HRD.out, fun _ _ _ h => h⟩ ((Chg.refl (fun _ => False) w4).drew.trans c) (fun _ h => h)).1)
          clear hrt HRT hlst hlen3
          go_wp2_with fail
          go_region_held3 (fun W => W.cell? ⟨q, 2, none⟩ = some (.slice ra rn rc)) (first | exact HK1.out _ c5 | exact HK1.out _ (c5.trans c6) | go_keep) (first | (go_at_call 20; refine (HALL.out _ ((Chg.refl (fun _ => False) w4).drew)).mono ?_; rintro e w5 ⟨v5, rfl, own5, c5⟩; (rw [HLN.out] at own5); obtain ⟨pa, pcap, rfl⟩ := own_len own5) | (go_at_call 19; refine (L1.same_yes _ _ rn _ _ lst _ (own_rd own5) (HRO.out _ c5) (by omega)).mono ?_; rintro e w6 ⟨rfl, c6⟩))
          have HBN := hide (HB2.out.grow ((Chg.refl (fun _ => False) w4).drew.trans (c5.trans c6)))
          clear HRD HLN HALL HK1 HRO c5 c6 own5 HB2 y2 HBN0
          go_wp2
          go_roundw
          case rel => exact ⟨k + 1, (upd S j false), by omega, by go_num, HBN.out⟩
          case measure => simp [intOf]; omega
      by_cases k4 : K = 4
      · as_aux_lemma =>
        subst k4
        clear k1 k2 k3 x1
        go_wp2_with fail
        refine (tb_wipe HBO.out.hm).mono ?_
        rintro e w3 ⟨rfl, h3, c3⟩
        have HR3 := hide (HBO.out.hr.chg c3 (Ne.symm HBO.out.gq) (fun i hi => .inl hi))
        obtain ⟨sa, sn, sc, hrt⟩ := HR3.out
        have y2 : w3.cell? ⟨q, 2, none⟩ = some (.slice sa sn sc) := hrt.hd.cell 2
        have yf := hrt.hd.frozen 2
        have HBN0 := hide (show Both w p m g q F T no (w3.setCell ⟨q, 2, none⟩ (.slice none 0 0)) from
          HBO.out.two h3 c3 ⟨none, 0, 0, hrt.hd.set_ 2 _, ⟨⟨by rw [cds_no]; rfl, fun h => absurd h (Nat.lt_irrefl 0)⟩, fun h => absurd h (Nat.lt_irrefl 0)⟩, Nat.le_refl _, by unfold maxLen; omega, by omega, .inr rfl, hrt.t4, hrt.ft, fun _ => ⟨rfl, rfl⟩⟩ ((Chg.refl (· = q) w3).set1 2 _))
        have HY2 := hide y2
        clear HR3 hrt h3 c3 HBO x0
        go_wp2_with fail
        clear y2 yf HY2
        generalize w3.setCell ⟨q, 2, none⟩ (.slice none 0 0) = w4 at *
        obtain ⟨ra, rn, rc, hrt⟩ := HBN0.out.hr
        have HRT := hide hrt
        have y2 : w4.cell? ⟨q, 2, none⟩ = some (.slice ra rn rc) := hrt.hd.cell 2
        have HB2 := HBN0
        have HRD := hide hrt.ro.1
        have hrl : rn ≤ 4096 := hrt.n4
        obtain ⟨lst, hlst⟩ : ∃ lst, cds no F (nc F T) = lst := ⟨_, rfl⟩
        rw [hlst] at HRD
        have hlen3 : lst.length = rn := HRD.out.1
        have HLN := hide hlen3
        have HALL := hide fun W (c : Grow w4 W) => tb_all (HB2.out.hm.grow c) (HT.out.chg (HB2.out.cc.trans c) id) hlst
        have HK1 := hide (fun W (c : Grow w4.drew W) => (Grow.cell c y2 : W.cell? ⟨q, 2, none⟩ = some (.slice ra rn rc)))
        have HRO := hide (show ∀ W, Grow w4.drew W → L1.Rd W ra rn lst from fun W c => (Ro.chg (G := fun _ => False) ⟨HRD.out, fun _ _ _ h => h⟩ ((Chg.refl (fun _ => False) w4).drew.trans c) (fun _ h => h)).1)
        clear hrt HRT hlst hlen3
        go_wp2_with fail
        go_region_held3 (fun W => W.cell? ⟨q, 2, none⟩ = some (.slice ra rn rc)) (first | exact HK1.out _ c5 | exact HK1.out _ (c5.trans c6) | go_keep) (first | (go_at_call 20; refine (HALL.out _ ((Chg.refl (fun _ => False) w4).drew)).mono ?_; rintro e w5 ⟨v5, rfl, own5, c5⟩; (rw [HLN.out] at own5); obtain ⟨pa, pcap, rfl⟩ := own_len own5) | (go_at_call 19; refine (L1.same_yes _ _ rn _ _ lst _ (own_rd own5) (HRO.out _ c5) (by omega)).mono ?_; rintro e w6 ⟨rfl, c6⟩))
        have HBN := hide (HB2.out.grow ((Chg.refl (fun _ => False) w4).drew.trans (c5.trans c6)))
        clear HRD HLN HALL HK1 HRO c5 c6 own5 HB2 y2 HBN0
        go_wp2
        go_roundw
        case rel => exact ⟨k + 1, no, by omega, by go_num, HBN.out⟩
        case measure => simp [intOf]; omega
      · as_aux_lemma =>
        have k1' : (K == 1) = false := by simpa using k1
        have k2' : (K == 2) = false := by simpa using k2
        have k3' : (K == 3) = false := by simpa using k3
        have k4' : (K == 4) = false := by simpa using k4
        clear k1 k2 k3 k4
        obtain ⟨ra, rn, rc, hrt⟩ := HBO.out.hr
        have HRT := hide hrt
        have y2 : wr.cell? ⟨q, 2, none⟩ = some (.slice ra rn rc) := hrt.hd.cell 2
        have HB2 := HBO
        have HRD := hide hrt.ro.1
        have hrl : rn ≤ 4096 := hrt.n4
        obtain ⟨lst, hlst⟩ : ∃ lst, cds S F (nc F T) = lst := ⟨_, rfl⟩
        rw [hlst] at HRD
        have hlen3 : lst.length = rn := HRD.out.1
        have HLN := hide hlen3
        have HALL := hide fun W (c : Grow wr W) => tb_all (HB2.out.hm.grow c) (HT.out.chg (HB2.out.cc.trans c) id) hlst
        have HK1 := hide (fun W (c : Grow wr.drew W) => (Grow.cell c y2 : W.cell? ⟨q, 2, none⟩ = some (.slice ra rn rc)))
        have HRO := hide (show ∀ W, Grow wr.drew W → L1.Rd W ra rn lst from fun W c => (Ro.chg (G := fun _ => False) ⟨HRD.out, fun _ _ _ h => h⟩ ((Chg.refl (fun _ => False) wr).drew.trans c) (fun _ h => h)).1)
        clear hrt HRT hlst hlen3
        go_wp2_with fail
        go_region_held3 (fun W => W.cell? ⟨q, 2, none⟩ = some (.slice ra rn rc)) (first | exact HK1.out _ c5 | exact HK1.out _ (c5.trans c6) | go_keep) (first | (go_at_call 20; refine (HALL.out _ ((Chg.refl (fun _ => False) wr).drew)).mono ?_; rintro e w5 ⟨v5, rfl, own5, c5⟩; (rw [HLN.out] at own5); obtain ⟨pa, pcap, rfl⟩ := own_len own5) | (go_at_call 19; refine (L1.same_yes _ _ rn _ _ lst _ (own_rd own5) (HRO.out _ c5) (by omega)).mono ?_; rintro e w6 ⟨rfl, c6⟩))
        have HBN := hide (HB2.out.grow ((Chg.refl (fun _ => False) wr).drew.trans (c5.trans c6)))
        clear HRD HLN HALL HK1 HRO c5 c6 own5 HB2 y2 HBO
        go_wp2
        go_roundw
        case rel => exact ⟨k + 1, S, by omega, by go_num, HBN.out⟩
        case measure => simp [intOf]; omega
    · obtain rfl : len = k := by omega
      have HCC := hide hb.cc.under
      clear hb
      go_wp2
      go_ret
      exact ⟨rfl, HCC.out⟩

theorem walk (f t : Int) (a2 : Option Addr) (len cap : Nat) (rows : List (List Value)) (w : World) (ht : Tab w) (w0 : (Lit.int .i64 f).wf = true) (w1 : (Lit.int .i64 t).wf = true) (h0 : IsRecs OpK w a2 len cap rows) :
    Calls Tryd.prog 3 #[.int .i64 f, .int .i64 t, .slice a2 len cap] w fun e w' => e = .returned (.bool true) ∧ Below w.heap.size w w' := by
  by_cases h : 200 < len
  · exact walk_long f t a2 len cap w ht h
  · exact walk_main f t a2 len cap rows w ht h0 (by omega)


theorem own : ownKnob Tryd.prog.godebug = none := by kernel_rfl
theorem laidOut : laidOutB Tryd.prog = true := by kernel_rfl
theorem door_met (os : Os) (args : Array Value) : laidMetH Tryd.prog Rows.cardPlaysRow.laid ((World.doorLaid Tryd.prog 400 os).forCall (fun _ _ => 0) ⟨#[], args, []⟩).memory :=
  laidMetH_of_parts3 (fuel := 8) (laidMet_of_run' 8 (by kernel_rfl) (by kernel_rfl)) (by kernel_rfl) (by kernel_rfl)

set_option maxRecDepth 100000 in
theorem lifted (os : Os) (started : os.Started) (H : Type) (enc : TypeId × Value → H) :
    ReturnsInHanded {} Tryd.checked os 3 .any (fun w args => (Rows.cardPlaysSpec.pre enc Tryd.prog Tryd.f3 [] false w args ∧ laidMetH Tryd.prog Rows.cardPlaysRow.laid w) ∧ sizedMet enc Tryd.prog Tryd.f3 (OpenSpec.ofChange Rows.cardPlaysSpec) false w args) (Rows.cardPlaysSpec.post enc Tryd.prog Tryd.f3 false true false false) := by
  refine returnsInHanded_of_change_and (C := Tryd.checked) (X := fun w _ => laidMetH Tryd.prog Rows.cardPlaysRow.laid w) (fun _ _ _ hh h => h.of_heap hh) own started (by kernel_rfl) Tryd.func3
    (ChangeSpec.witness_shaped (enc := enc) (C := Tryd.checked) (os := os) (X := fun w _ => laidMetH Tryd.prog Rows.cardPlaysRow.laid w) false (World.doorLaid Tryd.prog 400 os) #[.int .i64 0, .int .i64 0, .slice none 0 0] 8 rfl (World.shaped_of_RefB (by kernel_rfl) (by kernel_rfl)) (by kernel_rfl) (by kernel_rfl) (by kernel_rfl) (door_met os _)) ?_
  intro W base args ds gs before hval0 hW _ _ hL _
  have hval : ∀ (j : Nat) t v, Tryd.f3.params[j]? = some t → args[j]? = some v → Value.okWide Tryd.prog W .any base t v := hval0
  have hW' := hW
  obtain ⟨p, q, hA0, hV, rfl, hfz, hnd⟩ := hW
  have hA : DataW.TrodAll enc Tryd.prog W 0 (fun _ => true) true Tryd.f3.params.toList args.toList ds p := hA0
  rw [Tryd.params3] at hA hval
  obtain ⟨v0, vs0, d0, ds0, p0, q0, hargs, rfl, rfl, h0, r0⟩ := trodAll_cons hA
  obtain ⟨v1, vs1, d1, ds1, p1, q1, rfl, rfl, rfl, h1, r1⟩ := trodAll_cons r0
  obtain ⟨v2, vs2, d2, ds2, p2, q2, rfl, rfl, rfl, h2, r2⟩ := trodAll_cons r1
  obtain ⟨rfl, rfl, rfl⟩ := trodAll_nil r2
  obtain rfl : args = #[v0, v1, v2] := by cases args; simp_all
  obtain ⟨rfl, rfl⟩ := trodVars_none hV
  obtain ⟨a0, rfl, rfl, rfl, w0⟩ := open_int Tryd.underlying3 (hval 0 3 v0 rfl rfl) h0
  obtain ⟨a1, rfl, rfl, rfl, w1⟩ := open_int Tryd.underlying3 (hval 1 3 v1 rfl rfl) h1
  have k2 := h2
  have lt2 : ∀ x ∈ p2, x.block < W.heap.size := by obtain ⟨m, hm⟩ := k2; exact DataW.trod_lt m _ _ _ hm
  obtain ⟨a2, len2, cap2, rows2, rfl, w2⟩ := open_recs OpK Tryd.underlying22 Tryd.underlying29 (by kernel_rfl) (by kernel_rfl) (by kernel_rfl) (by decide) (hval 2 22 v2 rfl rfl) h2
  clear hA0 hval0
  refine (walk a0 a1 a2 len2 cap2 rows2 W (tab_of_laid hL) w0 w1 w2).mono fun e W' ⟨he, bel⟩ => ?_
  subst he
  exact ⟨_, rfl, _, _, _, [], _, [], hW', trodAll_mk1 (shut_bool Tryd.underlying4 _), (trodAll_cons_mk (shut_int Tryd.underlying3 w0) (trodAll_cons_mk (shut_int Tryd.underlying3 w1) (trodAll_cons_mk (Below.trod laidOut (by kernel_rfl) (of_decide_eq_true (by kernel_rfl)) k2 bel lt2) trodAll_mk0))), rfl, bel.frame _, fun h => by cases h⟩

theorem over : Rows.cardPlaysRow.holds Tryd.pinned (OpenSpec.ofChange Rows.cardPlaysSpec) :=
  OpenClaim.holds_of_wide 3 Tryd.f3 rfl rfl rfl rfl rfl rfl rfl ⟨rfl, rfl, rfl, rfl, rfl⟩ rfl rfl rfl rfl rfl (by kernel_rfl) Tryd.func3 (by kernel_rfl)
    (of_decide_eq_true (by kernel_rfl)) (by unfold Func.isWrapper; first | (rw [if_pos (by decide +kernel)]; kernel_rfl) | (rw [if_neg (by decide +kernel)]; exact ⟨rfl, rfl⟩))
    (fun os started H enc _ => lifted os started H enc)

/-- The statement. -/
theorem proved : Rows.CardPlaysCardSaid :=
  Claim7.holds_tied_plain_at .later [] [.data] true Rows.cardPlaysCard.stood.harness false
    over (fun _ h => by cases h) (by kernel_rfl) (fun _ h => by cases h) cardPlays_row_tie rfl ⟨rfl, rfl⟩ (by kernel_rfl) rfl
    (fun f fn hf hfn => by
      obtain rfl : f = 3 := Option.some.inj ((show Tryd.prog.funcNamed "gleaning/gleaninglaw07.CardPlays" = some 3 by kernel_rfl).symm.trans hf) |>.symm
      obtain rfl : fn = Tryd.f3 := (Option.some.inj (Tryd.func3.symm.trans hfn)).symm
      exact ⟨by kernel_rfl, fun j t ht => by
        rw [Tryd.params3] at ht
        have hm : t ∈ [3, 3, 22] := by simpa using Array.mem_of_getElem? ht
        have hall : ([3, 3, 22].all fun u => !Tryd.prog.wantsStandIn u) = true := by kernel_rfl
        exact (show Tryd.prog.wantsStandIn t = false by simpa using List.all_eq_true.1 hall t hm)⟩)
    (by kernel_rfl)
#print axioms proved
end Go.Proofs.YtbigdgabjjpffaaDoor.cardPlays


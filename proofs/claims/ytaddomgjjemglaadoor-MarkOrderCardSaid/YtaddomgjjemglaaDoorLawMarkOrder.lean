/- For all arguments MarkOrder answers true: what is marked does not hang on the room, nor on any order. Conditions: the table of math/bits.TrailingZeros64 is as the program's text lays it, which the card ties. -/
import Derived.Test.YtaddomgjjemglaaDoorL14F
import Derived.Test.YtaddomgjjemglaaDoorL14A
import Derived.Test.YtaddomgjjemglaaDoorCards
import Derived.Test.YtaddomgjjemglaaDoorTie
import Derived.SevenTiedAt
import Derived.Stop.Joined
import Derived.ShutString
namespace Go.Proofs.YtaddomgjjemglaaDoor.markOrder
open Go.ChangeShapes Go.WideShapes Go.ChangeAt Go.RowKit Go.Proofs.YtaddomgjjemglaaDoor.L14
open Go.Proofs.YtaddomgjjemglaaDoor.L3 (Ms Tab ms_set ms_len ms_has ms_next ms_count ms_new clamp ptr exB exB_in exB_out exB_nat setI cnt cnt_le cnt_congr cnt_on cnt_none upd upd_at upd_ne hasI has_is count_is nx nx_cases tab_of_laid)
set_option linter.unusedVariables false

theorem rev_take {zs : List Int} {j : Nat} (hj : j < zs.length) : zs.reverse.take (j + 1) = zs.reverse.take j ++ [zs.getD (zs.length - 1 - j) 0] := by
  rw [List.take_add_one, List.getElem?_eq_getElem (by rw [List.length_reverse]; exact hj), List.getElem_reverse, List.getD_eq_getElem?_getD, List.getElem?_eq_getElem (by omega)]
  rfl
theorem rev_nums {k j : Nat} (hj : j < k) (hk : k ≤ 1000) : ∃ k1 t : Nat, k - 1 = k1 ∧ k - 1 - j = t ∧ t < k ∧ IntKind.i64.wrap ((k : Int) - 1) = (k1 : Int) ∧ wrap64 ((k : Int) - 1) = (k1 : Int) ∧ IntKind.i64.wrap ((k1 : Int) - (j : Int)) = (t : Int) ∧ wrap64 ((k1 : Int) - (j : Int)) = (t : Int) ∧ IntKind.i64.wrap ((j : Int) + 1) = ((j + 1 : Nat) : Int) :=
  ⟨k - 1, k - 1 - j, rfl, rfl, by omega, (IntWalk.i64_in _ (by omega)).trans (by omega), (wrap64_id _ (by omega)).trans (by omega), (IntWalk.i64_in _ (by omega)).trans (by omega), (wrap64_id _ (by omega)).trans (by omega), (IntWalk.i64_in _ (by omega)).trans (by omega)⟩
theorem incs {j m : Nat} (h : j ≤ m) (hm : m ≤ 5000) : IntKind.i64.wrap ((j : Int) + 1) = ((j + 1 : Nat) : Int) := (IntWalk.i64_in _ (by omega)).trans (by omega)
theorem ol_rd {W : World} {b q c : Nat} {a : Option Addr} {xs : List Int} (h : OL W b (.slice a q c) xs) (hq : xs.length = q) : L1.Rd W a q xs := by
  unfold OL at h
  rw [hq] at h
  exact own_rd h
theorem ol_lt {W : World} {b q c : Nat} {x : Addr} {xs : List Int} (h : OL W b (.slice (some x) q c) xs) : b ≤ x.block := (h.lt x.block rfl).1
section
variable {W : World} {B b len cap j : Nat} {a : Option Addr} {L : List (List Int)}
set_option maxRecDepth 100000 in
set_option maxHeartbeats 1000000 in
theorem turned_any (hb : W.cell? ⟨b, 0, none⟩ = some (.slice a len cap)) (h : IsLs B W a len L) (hl : ∀ j, (eL L j).length ≤ 30) (j : Nat) :
    Calls Tryd.prog 16 #[.int .i64 j, ptr b] W fun e W' => ∃ a' c', e = .returned (.slice a' (eL L j).length c') ∧ L1.Rd W' a' (eL L j).length (eL L j).reverse ∧ (0 < (eL L j).length → ∀ x : Addr, a' = some x → W.heap.size ≤ x.block) ∧ Grow W W' := by
  have eg : ∀ args w, (callFunc 31 args).run Tryd.prog w = .ok (.enter 31 args) w := enters_of Tryd.func31 (by kernel_rfl) rfl
  have HL := hide h
  have HLL := hide (hl j)
  clear h hl
  go_enter Tryd.func16, Tryd.ntmps16
  go_wp2_with fail
  refine (by_is _).mono ?_
  rintro e w1 ⟨b1, rfl, hb1, c1, -⟩
  have HB1 := hide hb1
  have HC1 := hide c1
  clear hb1 c1
  go_wp2_with fail
  refine (byF_any HB1.out (HL.out.grow HC1.out) j).mono ?_
  rintro e w2 ⟨a2, c2, rfl, h2, -, rfl⟩
  obtain ⟨zs, hzs⟩ : ∃ zs, eL L j = zs := ⟨_, rfl⟩
  obtain ⟨k, hk⟩ : ∃ k, (eL L j).length = k := ⟨_, rfl⟩
  have HE := hide (show eL L j = zs ∧ zs.length = k from ⟨hzs, by rw [← hzs]; exact hk⟩)
  have HZ := hide (show L1.Rd w1 a2 k zs from hzs ▸ hk ▸ h2)
  have HK := hide (show k ≤ 1000 by have := HLL.out; omega)
  have HG1 := hide HC1.out
  rw [hk] at h2 ⊢
  clear h2 HLL HB1 HL HC1 hk hzs
  go_wp2_with fail
  go_loopw [13, 4] (fun v u wr => ∃ (j : Nat) (va : Option Addr) (q vc : Nat), j ≤ k ∧ v = .int .i64 j ∧ u = .slice va q vc ∧ q = j ∧ OL wr w1.heap.size (.slice va q vc) (zs.reverse.take j) ∧ Grow w1 wr) (fun v _ _ => k - (Go.RowKit.intOf v).toNat)
  case atStart => exact ⟨0, none, 0, 0, Nat.zero_le _, rfl, rfl, rfl, ol_nil _ _, Chg.refl _ _⟩
  case round =>
    obtain ⟨j, va, q, vc, hj, rfl, rfl, hqj, hol, hg⟩ := hrel
    rcases Nat.eq_or_lt_of_le hj with hje | hlt
    · have hje2 := hje.symm
      subst hje2
      clear hje
      have q1 : decide ((k : Int) < k) = false := by simp
      have hrl : zs.reverse.length = k := by rw [List.length_reverse]; exact HZ.out.1
      rw [List.take_of_length_le (Nat.le_of_eq hrl)] at hol
      have hqk : q = k := hqj
      subst hqk
      have HOL := hide hol
      have HG := hide hg
      have HRL := hide hrl
      clear hol hg hj hqj hrl
      go_wp2
      go_returns
      rw [HE.out.1, HE.out.2]
      exact ⟨va, vc, rfl, ol_rd HOL.out HRL.out, (fun h0 x e => by subst e; exact Nat.le_trans HG1.out.size (ol_lt HOL.out)), HG1.out.trans HG.out⟩
    · have q1 : decide ((j : Int) < k) = true := decide_eq_true (by omega)
      have q2 : (j : Int) < k := by omega
      obtain ⟨k1, t, e1, e2, ht, f1, f2, f3, f4, hw⟩ := rev_nums hlt HK.out
      have hx := (HZ.out.grow hg).at_ ht
      obtain ⟨ad, had, hcx⟩ := hx
      have hrt := rev_take (zs := zs) (j := j) (by rw [HZ.out.1]; exact hlt)
      rw [HZ.out.1, e2] at hrt
      have q3 : (t : Int) < k := by clear f1 f2 f3 f4 hw; omega
      have q4 : (0 : Int) ≤ (t : Int) := by clear f1 f2 f3 f4 hw; omega
      have hol' : OL wr w1.heap.size (.slice va q vc) (zs.reverse.take j) := hol
      obtain ⟨a5, c5, W5, hr5, ho5, hg5, -⟩ := app_new hg hol' (by rw [List.length_take, List.length_reverse, HZ.out.1]; clear f1 f2 f3 f4 hw; omega) (by have := HK.out; clear f1 f2 f3 f4 hw; omega) (zs.getD t 0)
      rw [← hrt] at ho5
      have KA := hide hr5
      have HO5 := hide ho5
      have HG5 := hide hg5
      have HQJ := hide (show q + 1 = j + 1 by clear f1 f2 f3 f4 hw; omega)
      have HJ := hide hlt
      generalize zs.getD t 0 = x at *
      clear hol hol' hg hj hqj hlt ht e1 e2 hr5 ho5 hg5 hrt
      subst had
      go_wp2_with (at_builtin; refine wpList_app rfl _ _ 23 rfl (.slice va q vc) (.slice (some ⟨wr.heap.size, 0, none⟩) 1 1) (.slice a5 (q + 1) c5) _ W5 rfl rfl KA.out ?_)
      go_roundw
      case rel => exact ⟨j + 1, a5, q + 1, c5, HJ.out, rfl, rfl, HQJ.out, HO5.out, HG5.out⟩
      case measure => have := HJ.out; clear hw f1 f2 f3 f4; simp [Go.RowKit.intOf]; omega
end
set_option maxRecDepth 100000 in
set_option maxHeartbeats 2000000 in
theorem walk (places : Int) (a : Option Addr) (len cap : Nat) (L : List (List Int)) (a2 : Option Addr) (k cap2 : Nat) (zs : List Int) (room other : Int) (w : World) (ht : Tab w) (w0 : (Lit.int .i64 places).wf = true) (hl : IsLs w.heap.size w a len L) (hz : IsRow .i64 w a2 k cap2 zs) (w3 : (Lit.int .i64 room).wf = true) (w4 : (Lit.int .i64 other).wf = true) :
    Calls Tryd.prog 4 #[.int .i64 places, .slice a len cap, .slice a2 k cap2, .int .i64 room, .int .i64 other] w fun e w' => e = .returned (.bool true) ∧ Below w.heap.size w w' := by
  have HT := hide ht
  have HL := hide hl
  have HB0 := hide (And.intro (show (w.alloc (.cells #[.slice a len cap] 22)).cell? ⟨w.heap.size, 0, none⟩ = some (.slice a len cap) from (Blk.new w _ [.slice a len cap]).cell 0) (Grow.box w (.cells #[.slice a len cap] 22)))
  clear w0 w3 w4
  cases hf : fewB L k with
  | false =>
    have HF := hide hf
    clear ht hl hz hf
    go_enter Tryd.func4, Tryd.ntmps4
    go_wp2_with fail
    generalize w.alloc (.cells #[.slice a len cap] 22) = w1 at *
    obtain ⟨bx, hbx⟩ : ∃ bx, w.heap.size = bx := ⟨_, rfl⟩
    rw [hbx] at HB0 ⊢
    clear hbx
    go_wp2_with fail
    refine (awake_any (HT.out.chg HB0.out.2 id)).mono ?_
    rintro e wa ⟨rfl, ca⟩
    have HCA := hide (HB0.out.2.trans ca)
    have HBA := hide (Grow.cell ca HB0.out.1)
    have HTA := hide (HT.out.chg HCA.out id)
    have HLA := hide (HL.out.grow HCA.out)
    have hba := HBA.out
    clear ca HB0
    go_wp2_with fail
    refine (few_any HLA.out).mono ?_
    rintro e wb ⟨rfl, rfl⟩
    rw [HF.out]
    go_wp2_with fail
    refine (awake_any HTA.out).mono ?_
    rintro e wc ⟨rfl, cc⟩
    go_wp2
    go_returns
    exact ⟨rfl, (HCA.out.trans cc).under⟩
  | true =>
    by_cases hp : places > 300
    · have q0 : decide (places > 300) = true := decide_eq_true hp
      have HF := hide hf
      clear ht hl hz hf hp
      go_enter Tryd.func4, Tryd.ntmps4
      go_wp2_with fail
      generalize w.alloc (.cells #[.slice a len cap] 22) = w1 at *
      obtain ⟨bx, hbx⟩ : ∃ bx, w.heap.size = bx := ⟨_, rfl⟩
      rw [hbx] at HB0 ⊢
      clear hbx
      go_wp2_with fail
      refine (awake_any (HT.out.chg HB0.out.2 id)).mono ?_
      rintro e wa ⟨rfl, ca⟩
      have HCA := hide (HB0.out.2.trans ca)
      have HBA := hide (Grow.cell ca HB0.out.1)
      have HTA := hide (HT.out.chg HCA.out id)
      have HLA := hide (HL.out.grow HCA.out)
      have hba := HBA.out
      clear ca HB0
      go_wp2_with fail
      refine (few_any HLA.out).mono ?_
      rintro e wb ⟨rfl, rfl⟩
      rw [HF.out]
      go_wp2_with fail
      refine (awake_any HTA.out).mono ?_
      rintro e wc ⟨rfl, cc⟩
      go_wp2
      go_returns
      exact ⟨rfl, (HCA.out.trans cc).under⟩
    · have q0 : decide (places > 300) = false := decide_eq_false hp
      have hk : k ≤ 100 := (of_decide_eq_true hf).2.1
      have HF := hide hf
      have HZ0 := hide (rd_row hz)
      obtain ⟨n, hn⟩ : ∃ n, clamp places = n := ⟨_, rfl⟩
      obtain ⟨S, hS⟩ := ex_rch n (eL L) zs
      have HS2 := hide (show ∀ j, S j = true ↔ Rch n (fun j => (eL L j).reverse) zs.reverse j from fun j => (hS j).trans (rch_same (fun x => List.mem_reverse.symm) fun i x _ => List.mem_reverse.symm))
      obtain ⟨r, hr⟩ : ∃ r : Nat, max room 1 = (r : Int) := ⟨(max room 1).toNat, by omega⟩
      obtain ⟨r2, hr2⟩ : ∃ r2 : Nat, max other 1 = (r2 : Int) := ⟨(max other 1).toNat, by omega⟩
      have HN := hide hn
      have HS1 := hide hS
      have HR := hide (And.intro hr hr2)
      have HK := hide (show k ≤ 1000 by omega)
      clear ht hl hz hf hp hn hS hr hr2 hk
      go_enter Tryd.func4, Tryd.ntmps4
      go_wp2_with fail
      generalize w.alloc (.cells #[.slice a len cap] 22) = w1 at *
      obtain ⟨bx, hbx⟩ : ∃ bx, w.heap.size = bx := ⟨_, rfl⟩
      rw [hbx] at HB0 ⊢
      clear hbx
      go_wp2_with fail
      refine (awake_any (HT.out.chg HB0.out.2 id)).mono ?_
      rintro e wa ⟨rfl, ca⟩
      have HCA := hide (HB0.out.2.trans ca)
      have HBA := hide (Grow.cell ca HB0.out.1)
      have HTA := hide (HT.out.chg HCA.out id)
      have HLA := hide (HL.out.grow HCA.out)
      have hba := HBA.out
      clear ca HB0
      go_wp2_with fail
      refine (few_any HLA.out).mono ?_
      rintro e wb ⟨rfl, rfl⟩
      rw [HF.out]
      have HZ := hide (HZ0.out.grow HCA.out)
      clear hba
      go_wp2_with fail
      go_loopw [34, 11] (fun v u wr => ∃ (j : Nat) (va : Option Addr) (q vc : Nat), j ≤ k ∧ v = .int .i64 j ∧ u = .slice va q vc ∧ q = j ∧ OL wr wa.heap.size (.slice va q vc) (zs.reverse.take j) ∧ Grow wa wr) (fun v _ _ => k - (Go.RowKit.intOf v).toNat)
      case atStart => exact ⟨0, none, 0, 0, Nat.zero_le _, rfl, rfl, rfl, ol_nil _ _, Chg.refl _ _⟩
      case round =>
        obtain ⟨j, va, q, vc, hj, rfl, rfl, hqj, hol, hg⟩ := hrel
        rcases Nat.eq_or_lt_of_le hj with hje | hlt
        · have hje2 := hje.symm
          subst hje2
          clear hje
          have q1 : decide ((k : Int) < k) = false := by simp
          have hrl : zs.reverse.length = k := by rw [List.length_reverse]; exact HZ.out.1
          rw [List.take_of_length_le (Nat.le_of_eq hrl)] at hol
          have hqk : q = k := hqj
          subst hqk
          have HOL := hide hol
          have HG := hide hg
          have HRL := hide hrl
          clear hol hg hj hqj hrl
          have HRO := hide (ol_rd HOL.out HRL.out)
          have hba := Grow.cell HG.out HBA.out
          have HBG := hide hba
          have HCG := hide (HCA.out.trans HG.out)
          clear HOL
          go_wp2_with fail
          refine (by_is _).mono ?_
          rintro e w3 ⟨b3, rfl, hb3, c3, -⟩
          have HB3 := hide hb3
          have HC3 := hide (HCG.out.trans c3)
          have HD3 := hide c3
          clear hb3 c3 hba
          go_wp2_with fail
          refine (reach_by (r := r) HB3.out HL.out (Nat.le_refl _) HC3.out HF.out HT.out HZ0.out (by have := HK.out; omega) HS1.out HN.out HR.out.1).mono ?_
          rintro e w4 ⟨p1, g1, rn1, rfl, hm1, -, c4⟩
          have HM1 := hide hm1
          have HC4 := hide (HC3.out.trans c4)
          have HD4 := hide (HD3.out.trans c4)
          have HB4 := hide (Grow.cell HD4.out HBG.out)
          have HRO4 := hide (HRO.out.grow HD4.out)
          have HLL := hide (eL_len HF.out)
          clear hm1 c4
          go_wp2_with fail
          refine (reach_fun (r := r2) (n := n) (E := fun j => (eL L j).reverse) (fid := 16) (lb := #[ptr bx]) (enters_of Tryd.func16 (by kernel_rfl) rfl) (fun W j hj g => (turned_any (Grow.cell g HB4.out) (HL.out.grow (HC4.out.trans g)) HLL.out j).mono fun e W' ⟨a', c', he, h1, h2, h3⟩ => ⟨a', c', by rw [List.length_reverse]; exact he, by rw [List.length_reverse]; exact h1, fun h0 x e => .inr (h2 (by rwa [List.length_reverse] at h0) x e), h3⟩) (fun j _ => by rw [List.length_reverse]; exact Nat.le_trans (HLL.out j) (by decide)) (HT.out.chg HC4.out id) HRO4.out (by have := HK.out; omega) HS2.out HN.out HR.out.2).mono ?_
          rintro e w5 ⟨p2, g2, rn2, rfl, hm2, -, c5⟩
          have HM2 := hide hm2
          have HM1' := hide (HM1.out.grow c5)
          have HC5 := hide (HC4.out.trans c5)
          have hn := hm2.most
          have HN4 := hide hn
          clear hm2 c5 HM1 hn
          go_wp2_with fail
          refine (ms_len HM1'.out).mono ?_
          rintro e w6 ⟨rfl, rfl⟩
          go_wp2_with fail
          refine (ms_len HM2.out).mono ?_
          rintro e w6 ⟨rfl, rfl⟩
          go_wp2_with fail
          refine (ms_len HM1'.out).mono ?_
          rintro e w6 ⟨rfl, rfl⟩
          go_wp2_with fail
          go_loopw [82] (fun v wr => ∃ i : Nat, i ≤ n ∧ v = .int .i64 i ∧ Grow w5 wr) (fun v _ => n - (Go.RowKit.intOf v).toNat)
          case atStart => exact ⟨0, Nat.zero_le _, rfl, Chg.refl _ _⟩
          case round =>
            obtain ⟨i, hi, rfl, hg⟩ := hrel
            rcases Nat.eq_or_lt_of_le hi with hie | hlt
            · have hie2 := hie.symm
              subst hie2
              clear hie
              have q3 : decide ((n : Int) < n) = false := by simp
              have HG6 := hide (HC5.out.trans hg)
              clear hg hi
              go_wp2
              go_returns
              exact ⟨rfl, HG6.out.under⟩
            · have q3 : decide ((i : Int) < n) = true := decide_eq_true (by omega)
              have hw := incs hi (Nat.le_trans HN4.out (by decide))
              have HI := hide hlt
              have HH1 := hide (has_is (i := (i : Int)) (HM1'.out.grow hg) (show hasI S n (i : Int) = S i by unfold hasI; rw [exB_in hlt]; rfl))
              have HH2 := hide (fun V (d : Grow wr V) => has_is (i := (i : Int)) (HM2.out.grow (hg.trans d)) (show hasI S n (i : Int) = S i by unfold hasI; rw [exB_in hlt]; rfl))
              have HG6 := hide hg
              clear hg hi hlt
              cases hs : S i with
              | true =>
                rw [hs] at HH1 HH2
                clear hs
                go_wp2_with fail
                refine HH1.out.mono ?_
                rintro e w7 ⟨rfl, c7⟩
                go_wp2_with fail
                refine (HH2.out _ c7).mono ?_
                rintro e w8 ⟨rfl, c8⟩
                have HG8 := hide (HG6.out.trans (c7.trans c8))
                clear c7 c8
                go_wp2
                go_roundw
                case rel => exact ⟨i + 1, HI.out, rfl, HG8.out⟩
                case measure => have := HI.out; clear hw; simp [Go.RowKit.intOf]; omega
              | false =>
                rw [hs] at HH1 HH2
                clear hs
                go_wp2_with fail
                refine HH1.out.mono ?_
                rintro e w7 ⟨rfl, c7⟩
                go_wp2_with fail
                refine (HH2.out _ c7).mono ?_
                rintro e w8 ⟨rfl, c8⟩
                have HG8 := hide (HG6.out.trans (c7.trans c8))
                clear c7 c8
                go_wp2
                go_roundw
                case rel => exact ⟨i + 1, HI.out, rfl, HG8.out⟩
                case measure => have := HI.out; clear hw; simp [Go.RowKit.intOf]; omega
        · have q1 : decide ((j : Int) < k) = true := decide_eq_true (by omega)
          have q2 : (j : Int) < k := by omega
          obtain ⟨k1, t, e1, e2, ht, f1, f2, f3, f4, hw⟩ := rev_nums hlt HK.out
          have hx := (HZ.out.grow hg).at_ ht
          obtain ⟨ad, had, hcx⟩ := hx
          have hrt := rev_take (zs := zs) (j := j) (by rw [HZ.out.1]; exact hlt)
          rw [HZ.out.1, e2] at hrt
          have q3 : (t : Int) < k := by clear f1 f2 f3 f4 hw; omega
          have q4 : (0 : Int) ≤ (t : Int) := by clear f1 f2 f3 f4 hw; omega
          have hol' : OL wr wa.heap.size (.slice va q vc) (zs.reverse.take j) := hol
          obtain ⟨a5, c5, W5, hr5, ho5, hg5, -⟩ := app_new hg hol' (by rw [List.length_take, List.length_reverse, HZ.out.1]; clear f1 f2 f3 f4 hw; omega) (by have := HK.out; clear f1 f2 f3 f4 hw; omega) (zs.getD t 0)
          rw [← hrt] at ho5
          have KA := hide hr5
          have HO5 := hide ho5
          have HG5 := hide hg5
          have HQJ := hide (show q + 1 = j + 1 by clear f1 f2 f3 f4 hw; omega)
          have HJ := hide hlt
          generalize zs.getD t 0 = x at *
          clear hol hol' hg hj hqj hlt ht e1 e2 hr5 ho5 hg5 hrt
          subst had
          go_wp2_with (at_builtin; refine wpList_app rfl _ _ 23 rfl (.slice va q vc) (.slice (some ⟨wr.heap.size, 0, none⟩) 1 1) (.slice a5 (q + 1) c5) _ W5 rfl rfl KA.out ?_)
          go_roundw
          case rel => exact ⟨j + 1, a5, q + 1, c5, HJ.out, rfl, rfl, HQJ.out, HO5.out, HG5.out⟩
          case measure => have := HJ.out; clear hw f1 f2 f3 f4; simp [Go.RowKit.intOf]; omega

theorem own : ownKnob Tryd.prog.godebug = none := by kernel_rfl
theorem laidOut : laidOutB Tryd.prog = true := by kernel_rfl
theorem door_met (os : Os) (args : Array Value) : laidMetH Tryd.prog Rows.markOrderRow.laid ((World.doorLaid Tryd.prog 400 os).forCall (fun _ _ => 0) ⟨#[], args, []⟩).memory :=
  laidMetH_of_parts3 (fuel := 8) (laidMet_of_run' 8 (by kernel_rfl) (by kernel_rfl)) (by kernel_rfl) (by kernel_rfl)

set_option maxRecDepth 100000 in
theorem lifted (os : Os) (started : os.Started) (H : Type) (enc : TypeId × Value → H) :
    ReturnsInHanded {} Tryd.checked os 4 .any (fun w args => (Rows.markOrderSpec.pre enc Tryd.prog Tryd.f4 [] false w args ∧ laidMetH Tryd.prog Rows.markOrderRow.laid w) ∧ sizedMet enc Tryd.prog Tryd.f4 (OpenSpec.ofChange Rows.markOrderSpec) false w args) (Rows.markOrderSpec.post enc Tryd.prog Tryd.f4 false true false false) := by
  refine returnsInHanded_of_change_and (C := Tryd.checked) (X := fun w _ => laidMetH Tryd.prog Rows.markOrderRow.laid w) (fun _ _ _ hh h => h.of_heap hh) own started (by kernel_rfl) Tryd.func4
    (ChangeSpec.witness_shaped (enc := enc) (C := Tryd.checked) (os := os) (X := fun w _ => laidMetH Tryd.prog Rows.markOrderRow.laid w) false (World.doorLaid Tryd.prog 400 os) #[.int .i64 0, .slice none 0 0, .slice none 0 0, .int .i64 0, .int .i64 0] 8 rfl (World.shaped_of_RefB (by kernel_rfl) (by kernel_rfl)) (by kernel_rfl) (by kernel_rfl) (by kernel_rfl) (door_met os _)) ?_
  intro W base args ds gs before hval0 hW _ _ hL _
  have hval : ∀ (j : Nat) t v, Tryd.f4.params[j]? = some t → args[j]? = some v → Value.okWide Tryd.prog W .any base t v := hval0
  have hW' := hW
  obtain ⟨p, q, hA0, hV, rfl, hfz, hnd⟩ := hW
  have hA : DataW.TrodAll enc Tryd.prog W 0 (fun _ => true) true Tryd.f4.params.toList args.toList ds p := hA0
  rw [Tryd.params4] at hA hval
  obtain ⟨v0, vs0, d0, ds0, p0, q0, hargs, rfl, rfl, h0, r0⟩ := trodAll_cons hA
  obtain ⟨v1, vs1, d1, ds1, p1, q1, rfl, rfl, rfl, h1, r1⟩ := trodAll_cons r0
  obtain ⟨v2, vs2, d2, ds2, p2, q2, rfl, rfl, rfl, h2, r2⟩ := trodAll_cons r1
  obtain ⟨v3, vs3, d3, ds3, p3, q3, rfl, rfl, rfl, h3, r3⟩ := trodAll_cons r2
  obtain ⟨v4, vs4, d4, ds4, p4, q4, rfl, rfl, rfl, h4, r4⟩ := trodAll_cons r3
  obtain ⟨rfl, rfl, rfl⟩ := trodAll_nil r4
  obtain rfl : args = #[v0, v1, v2, v3, v4] := by cases args; simp_all
  obtain ⟨rfl, rfl⟩ := trodVars_none hV
  obtain ⟨a0, rfl, rfl, rfl, w0⟩ := open_int Tryd.underlying3 (hval 0 3 v0 rfl rfl) h0
  have k1 := h1
  have lt1 : ∀ x ∈ p1, x.block < W.heap.size := by obtain ⟨m, hm⟩ := k1; exact DataW.trod_lt m _ _ _ hm
  obtain ⟨a1, len1, cap1, L1, rfl, w1⟩ := open_lists (hval 1 22 v1 rfl rfl) h1
  obtain ⟨a2, len2, cap2, rfl⟩ := okWide_slice Tryd.underlying23 (hval 2 23 v2 rfl rfl)
  have k2 := h2
  have lt2 : ∀ x ∈ p2, x.block < W.heap.size := by obtain ⟨m, hm⟩ := k2; exact DataW.trod_lt m _ _ _ hm
  obtain ⟨z2, w2⟩ : ∃ zs, IsRow .i64 W a2 len2 cap2 zs := open_row Tryd.underlying23 Tryd.underlying3 (by kernel_rfl) h2
  obtain ⟨a3, rfl, rfl, rfl, w3⟩ := open_int Tryd.underlying3 (hval 3 3 v3 rfl rfl) h3
  obtain ⟨a4, rfl, rfl, rfl, w4⟩ := open_int Tryd.underlying3 (hval 4 3 v4 rfl rfl) h4
  clear hA0 hval0
  refine (walk a0 a1 len1 cap1 L1 a2 len2 cap2 z2 a3 a4 W (tab_of_laid hL) w0 w1 w2 w3 w4).mono fun e W' ⟨he, bel⟩ => ?_
  subst he
  exact ⟨_, rfl, _, _, _, [], _, [], hW', trodAll_mk1 (shut_bool Tryd.underlying4 _), (trodAll_cons_mk (shut_int Tryd.underlying3 w0) (trodAll_cons_mk (Below.trod laidOut (by kernel_rfl) (of_decide_eq_true (by kernel_rfl)) k1 bel lt1) (trodAll_cons_mk (Below.trod laidOut (by kernel_rfl) (of_decide_eq_true (by kernel_rfl)) k2 bel lt2) (trodAll_cons_mk (shut_int Tryd.underlying3 w3) (trodAll_cons_mk (shut_int Tryd.underlying3 w4) trodAll_mk0))))), rfl, bel.frame _, fun h => by cases h⟩

theorem over : Rows.markOrderRow.holds Tryd.pinned (OpenSpec.ofChange Rows.markOrderSpec) :=
  OpenClaim.holds_of_wide 4 Tryd.f4 rfl rfl rfl rfl rfl rfl rfl ⟨rfl, rfl, rfl, rfl, rfl⟩ rfl rfl rfl rfl rfl (by kernel_rfl) Tryd.func4 (by kernel_rfl)
    (of_decide_eq_true (by kernel_rfl)) (by unfold Func.isWrapper; first | (rw [if_pos (by decide +kernel)]; kernel_rfl) | (rw [if_neg (by decide +kernel)]; exact ⟨rfl, rfl⟩))
    (fun os started H enc _ => lifted os started H enc)

/-- The statement. -/
theorem proved : Rows.MarkOrderCardSaid :=
  Claim7.holds_tied_plain_at .later [] [.data] true Rows.markOrderCard.stood.harness false
    over (fun _ h => by cases h) (by kernel_rfl) (fun _ h => by cases h) markOrder_row_tie rfl ⟨rfl, rfl⟩ (by kernel_rfl) rfl
    (fun f fn hf hfn => by
      obtain rfl : f = 4 := Option.some.inj ((show Tryd.prog.funcNamed "gleaning/gleaninglaw14.MarkOrder" = some 4 by kernel_rfl).symm.trans hf) |>.symm
      obtain rfl : fn = Tryd.f4 := (Option.some.inj (Tryd.func4.symm.trans hfn)).symm
      exact ⟨by kernel_rfl, fun j t ht => by
        rw [Tryd.params4] at ht
        have hm : t ∈ [3, 22, 23, 3, 3] := by simpa using Array.mem_of_getElem? ht
        have hall : ([3, 22, 23, 3, 3].all fun u => !Tryd.prog.wantsStandIn u) = true := by kernel_rfl
        exact (show Tryd.prog.wantsStandIn t = false by simpa using List.all_eq_true.1 hall t hm)⟩)
    (by kernel_rfl)
#print axioms proved
end Go.Proofs.YtaddomgjjemglaaDoor.markOrder


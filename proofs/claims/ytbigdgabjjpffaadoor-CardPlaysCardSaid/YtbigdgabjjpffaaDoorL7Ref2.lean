/- Touch of the plain table of cards. Conditions: addresses are at most 4096. -/
import Derived.Test.YtbigdgabjjpffaaDoorL7Ref
namespace Go.Proofs.YtbigdgabjjpffaaDoor.L7
open Go.ChangeShapes Go.WideShapes Go.ChangeAt Go.RowKit
open Go.Proofs.YtbigdgabjjpffaaDoor.L3
set_option linter.unusedVariables false

section
variable {w w' : World} {q f t n c : Nat} {a : Option Addr} {l : List Int} {G C : Nat → Prop}
theorem rtouch_out (h : Rt w q f t a n c l G) (x : Int) (hi : inn f t x = false) : Calls Tryd.prog 13 #[ptr q, .int .i64 x] w fun e w' => e = .returned (.bool false) ∧ w = w' := by
  have HC := hide (rcard_any h x)
  rw [show kc f t x = -1 by unfold kc; rw [hi]; rfl] at HC
  clear h hi
  go_enter Tryd.func13, Tryd.ntmps13
  go_wp2_with fail
  refine HC.out.mono ?_
  rintro e w' ⟨rfl, rfl⟩
  go_wp2
  go_ret
  exact ⟨rfl, rfl⟩
theorem rtouch_had (h : Rt w q f t a n c l G) (x : Int) {K : Nat} (hk : kc f t x = (K : Int)) (hin : ∃ j, j < n ∧ l.getD j 0 = (K : Int)) : Calls Tryd.prog 13 #[ptr q, .int .i64 x] w fun e w' => e = .returned (.bool false) ∧ w = w' := by
  have HC := hide (rcard_any h x)
  have HD := hide (rdirty_any h x true (by rw [hk]; exact ⟨fun _ => hin, fun _ => rfl⟩))
  rw [hk] at HC
  have q0 : decide ((K : Int) < 0) = false := by simp
  clear h hk hin
  go_enter Tryd.func13, Tryd.ntmps13
  go_wp2_with fail
  refine HC.out.mono ?_
  rintro e w' ⟨rfl, rfl⟩
  go_wp2_with fail
  refine HD.out.mono ?_
  rintro e w' ⟨rfl, rfl⟩
  go_wp2
  go_ret
  exact ⟨rfl, rfl⟩

set_option maxHeartbeats 4000000 in
theorem rtouch_new {ad : Addr} (h : Rt w q f t (some ad) n c l G) (x : Int) {K m : Nat} (hk : kc f t x = (K : Int)) (hno : ¬ ∃ j, j < n ∧ l.getD j 0 = (K : Int)) (hm : m ≤ n) (hlo : ∀ i, i < m → l.getD i 0 < (K : Int)) (hhi : m < n → ¬ l.getD m 0 < (K : Int)) (hn : n + 1 ≤ 4096) (hG : ∀ i, G i → i < w.heap.size) :
    Calls Tryd.prog 13 #[ptr q, .int .i64 x] w fun e w' => e = .returned (.bool true) ∧ (∃ a' c', Rt w' q f t a' (n + 1) c' (l.take m ++ [(K : Int)] ++ l.drop m) G) ∧ Chg (· = q) w w' := by
  have HC := hide (rcard_any h x)
  have HD := hide (rdirty_any h x false (by rw [hk]; exact ⟨(fun h => nomatch h), fun h => absurd h hno⟩))
  rw [hk] at HC
  have q0 : decide ((K : Int) < 0) = false := by simp
  obtain ⟨i0, hi0, hz0, hz1, hz2⟩ := info_parts Tryd.infoInt
  have HI := hide hi0
  have HZ0 := hide hz0
  have HZ1 := hide hz1
  have HZ2 := hide hz2
  have H := hide h
  have HG := hide hG
  have hn4 := h.n4
  have hnc := h.nc
  have c2 : w.cell? ⟨q, 2, none⟩ = some (.slice (some ad) n c) := h.hd.cell 2
  have HQL := hide h.hd.lt
  clear h hk hno hi0 hz0 hz1 hz2 hG
  have HLO := hide hlo
  have HHI := hide hhi
  clear hlo hhi
  go_enter Tryd.func13, Tryd.ntmps13
  go_wp2_with fail
  refine HC.out.mono ?_
  rintro e w' ⟨rfl, rfl⟩
  go_wp2_with fail
  refine HD.out.mono ?_
  rintro e w' ⟨rfl, rfl⟩
  go_wp2
  go_loopw [6] (fun i wr => ∃ k : Nat, k ≤ m ∧ i = .int .i64 k ∧ w = wr) (fun i _ => m - (intOf i).toNat)
  case atStart => exact ⟨0, Nat.zero_le _, rfl, rfl⟩
  case round =>
    obtain ⟨k, hk, rfl, rfl⟩ := hrel
    by_cases hlt : k < m
    · obtain ⟨ad', e', hc⟩ := H.out.ro.at_ (show k < n by omega)
      injection e' with e'
      subst e'
      have hlt' : (k : Int) < (n : Int) := by omega
      have hl := HLO.out k hlt
      generalize l.getD k 0 = y at *
      have q1 : decide (y < (K : Int)) = true := by simpa using hl
      have u1 : IntKind.i64.wrap ((k : Int) + 1) = ((k + 1 : Nat) : Int) := by rw [wrap_i64_id _ (by omega)]; omega
      clear hl
      go_wp2
      go_roundw
      case rel => exact ⟨k + 1, by omega, rfl, by first | rfl | trivial⟩
      case measure => simp [intOf]; omega
    · obtain rfl : m = k := by omega
      clear hk hlt
      by_cases hmn : m < n
      · obtain ⟨ad', e', hc⟩ := H.out.ro.at_ hmn
        injection e' with e'
        subst e'
        have hl := HHI.out hmn
        generalize l.getD m 0 = y at *
        have q1 : decide (y < (K : Int)) = false := by simpa using hl
        have hlt' : (m : Int) < (n : Int) := by omega
        clear hl
        have HTK := hide (show ∀ j u, (ints (l.take m))[j]? = some u → w.cell? (ad.add j) = some u from fun j u hj => by
          have hj1 : j < m := by have := (List.getElem?_eq_some_iff.1 hj).1; rw [ints_length, List.length_take] at this; omega
          obtain ⟨ad', e', hc'⟩ := H.out.ro.at_ (show j < n by omega)
          injection e' with e'
          subst e'
          rw [hc', ← hj, ints_get _ _ (by have := H.out.ro.1.1; rw [List.length_take]; omega)]
          simp [List.getD_eq_getElem?_getD, hj1])
        have HLT := hide (show (l.take m).length = m by have := H.out.ro.1.1; rw [List.length_take]; omega)
        have HNIL := hide (World.ownsRow_nil w w.heap.size 3 1)
        go_wp2_with (at_builtin; refine wpList_append_own _ rfl _ _ 33 rfl w.heap.size 3 i0 (.int .i64 0) 1 8 Tryd.underlying33 HI.out HZ0.out HZ1.out HZ2.out rfl (by decide) _ _ _ rfl HNIL.out ad m c (ints (l.take m)) rfl ?c0 HTK.out (ints_one _) ?c3 ?c4 (Nat.le_refl _) ?_)
        case c0 => rw [ints_length, HLT.out, Nat.mul_one]
        case c3 => unfold maxLen; omega
        case c4 => omega
        intro v1 w1 hown hgrow _
        have HC1 := hide (Chg.grownOwn (Chg.refl (fun _ => False) w) HNIL.out (Nat.le_refl _) hgrow)
        have HO1 := hide (hown.alloc (.cells [.int .i64 K].toArray 3))
        have HBK := hide (Blk.new w1 3 [.int .i64 K])
        have HC2 := hide (HC1.out.alloc (.cells [.int .i64 K].toArray 3))
        clear hown hgrow c2 HTK HNIL
        go_wp2_with (at_builtin; refine wpList_append_own _ rfl _ _ 33 rfl w.heap.size 3 i0 (.int .i64 0) 1 8 Tryd.underlying33 HI.out HZ0.out HZ1.out HZ2.out rfl (by decide) _ _ _ rfl HO1.out ⟨w1.heap.size, 0, none⟩ 1 1 [.int .i64 K] rfl rfl ?d1 ?d2 ?d3 ?d4 ?d5 ?_)
        case d1 => intro j u hj; rw [addr_add, Nat.zero_add, HBK.out.cell]; exact hj
        case d2 => intro u hu; simp at hu; subst hu; rfl
        case d3 => unfold maxLen; omega
        case d4 => omega
        case d5 => exact HC2.out.size
        intro v2 w2 hown hgrow _
        have HC3 := hide (Chg.grownOwn HC2.out HO1.out (Nat.le_refl _) hgrow)
        have HO2 := hide (show w2.ownsRow w.heap.size 3 1 v2 (m + 1) (ints (l.take m ++ [(K : Int)])) by simpa [ints] using hown)
        clear hown hgrow HBK HC2 HO1 HC1
        have c2 : w2.cell? ⟨q, 2, none⟩ = some (.slice (some ad) n c) := HC3.out.cell (H.out.hd.cell 2)
        have HDL := hide (show (l.drop m).length = n - m by have := H.out.ro.1.1; rw [List.length_drop]; omega)
        have hf2 := (H.out.hd.chg HC3.out id).frozen 2
        go_wp2_with (at_builtin; (refine wpList_append_own _ rfl _ _ 33 rfl w.heap.size 3 i0 (.int .i64 0) 1 8 Tryd.underlying33 HI.out HZ0.out HZ1.out HZ2.out rfl (by decide) _ _ _ rfl HO2.out (ad.add m) (n - m) (c - m) (ints (l.drop m)) rfl ?e0 ?e1 (ints_one _) ?e3 ?e4 ?e5 ?_))
        case e0 => rw [ints_length, HDL.out]; omega
        case e1 =>
          intro j u hj
          have hj1 : j < n - m := by have := (List.getElem?_eq_some_iff.1 hj).1; rw [ints_length, HDL.out] at this; exact this
          first
            | exact absurd hj1 (by omega)
            | (obtain ⟨ad', e', hc'⟩ := (H.out.ro.chg HC3.out (fun _ h => h.elim)).at_ (show m + j < n by omega)
               injection e' with e'
               subst e'
               rw [add_add, hc', ← hj, ints_get _ _ (by rw [HDL.out]; exact hj1)]
               simp [List.getD_eq_getElem?_getD, List.getElem?_drop])
        case e3 => unfold maxLen; omega
        case e4 => omega
        case e5 => exact HC3.out.size
        intro v3 w3 hown hgrow _
        have HC4 := hide (Chg.grownOwn HC3.out HO2.out (Nat.le_refl _) hgrow)
        have HO3 := hide (show w3.ownsRow w.heap.size 3 1 v3 (n + 1) (ints (l.take m ++ [(K : Int)] ++ l.drop m)) by
          have h1 := hown
          first
            | rw [show m + 1 + (n - m) = n + 1 by omega] at h1
            | rw [show m + 1 = n + 1 by omega] at h1
          simpa [ints] using h1)
        clear hown hgrow HO2 HC3 c2 hf2
        obtain ⟨g3, cap3, rfl, hb3, hl3, hn3, hm3⟩ := own_form HO3.out (Nat.succ_pos n)
        have hf3 := (H.out.hd.chg HC4.out id).frozen 2
        have c3 : w3.cell? ⟨q, 2, none⟩ = some (.slice (some ad) n c) := (H.out.hd.chg HC4.out id).cell 2
        have HB3 := hide (show Blk (w3.setCell ⟨q, 2, none⟩ (.slice (some ⟨g3, 0, none⟩) (n + 1) cap3)) q 35 [.int .i64 f, .int .i64 t, .slice (some ⟨g3, 0, none⟩) (n + 1) cap3] from (H.out.hd.chg HC4.out id).set_ 2 _)
        have HC5 := hide ((HC4.out.mono (S := (· = q)) (fun _ _ h => h.elim)).set1 2 (.slice (some ⟨g3, 0, none⟩) (n + 1) cap3))
        have HRO := hide (Ro.of_own (G := G) HO3.out (fun i hi => .inl (HG.out i hi)))
        have HRO2 := hide (HRO.out.chg ((Chg.refl (· = q) w3).set1 2 (.slice (some ⟨g3, 0, none⟩) (n + 1) cap3)) (fun i (hi : i = q) => hi ▸ H.out.Gq))
        have HF := hide (show Rt (w3.setCell ⟨q, 2, none⟩ (.slice (some ⟨g3, 0, none⟩) (n + 1) cap3)) q f t (some ⟨g3, 0, none⟩) (n + 1) cap3 (l.take m ++ [(K : Int)] ++ l.drop m) G from ⟨HB3.out, HRO2.out, hn3, hm3, hn, H.out.Gq, H.out.t4, H.out.ft, fun h => by cases h⟩)
        clear hb3 hl3 hn3 hm3 HO3 HRO HRO2 HB3 HC4
        go_wp2
        go_ret
        exact ⟨rfl, ⟨_, _, HF.out⟩, HC5.out⟩
      · have hnl : decide ((m : Int) < (n : Int)) = false := by simp; omega
        have hnl2 : decide (m < n) = false := by simp; omega
        by_cases hcm : c = m
        · replace hcm := hcm.symm
          subst hcm
          have HTK := hide (show ∀ j u, (ints (l.take m))[j]? = some u → w.cell? (ad.add j) = some u from fun j u hj => by
            have hj1 : j < m := by have := (List.getElem?_eq_some_iff.1 hj).1; rw [ints_length, List.length_take] at this; omega
            obtain ⟨ad', e', hc'⟩ := H.out.ro.at_ (show j < n by omega)
            injection e' with e'
            subst e'
            rw [hc', ← hj, ints_get _ _ (by have := H.out.ro.1.1; rw [List.length_take]; omega)]
            simp [List.getD_eq_getElem?_getD, hj1])
          have HLT := hide (show (l.take m).length = m by have := H.out.ro.1.1; rw [List.length_take]; omega)
          have HNIL := hide (World.ownsRow_nil w w.heap.size 3 1)
          go_wp2_with (at_builtin; refine wpList_append_own _ rfl _ _ 33 rfl w.heap.size 3 i0 (.int .i64 0) 1 8 Tryd.underlying33 HI.out HZ0.out HZ1.out HZ2.out rfl (by decide) _ _ _ rfl HNIL.out ad m m (ints (l.take m)) rfl ?c0 HTK.out (ints_one _) ?c3 ?c4 (Nat.le_refl _) ?_)
          case c0 => rw [ints_length, HLT.out, Nat.mul_one]
          case c3 => unfold maxLen; omega
          case c4 => omega
          intro v1 w1 hown hgrow _
          have HC1 := hide (Chg.grownOwn (Chg.refl (fun _ => False) w) HNIL.out (Nat.le_refl _) hgrow)
          have HO1 := hide (hown.alloc (.cells [.int .i64 K].toArray 3))
          have HBK := hide (Blk.new w1 3 [.int .i64 K])
          have HC2 := hide (HC1.out.alloc (.cells [.int .i64 K].toArray 3))
          clear hown hgrow c2 HTK HNIL
          go_wp2_with (at_builtin; refine wpList_append_own _ rfl _ _ 33 rfl w.heap.size 3 i0 (.int .i64 0) 1 8 Tryd.underlying33 HI.out HZ0.out HZ1.out HZ2.out rfl (by decide) _ _ _ rfl HO1.out ⟨w1.heap.size, 0, none⟩ 1 1 [.int .i64 K] rfl rfl ?d1 ?d2 ?d3 ?d4 ?d5 ?_)
          case d1 => intro j u hj; rw [addr_add, Nat.zero_add, HBK.out.cell]; exact hj
          case d2 => intro u hu; simp at hu; subst hu; rfl
          case d3 => unfold maxLen; omega
          case d4 => omega
          case d5 => exact HC2.out.size
          intro v2 w2 hown hgrow _
          have HC3 := hide (Chg.grownOwn HC2.out HO1.out (Nat.le_refl _) hgrow)
          have HO2 := hide (show w2.ownsRow w.heap.size 3 1 v2 (m + 1) (ints (l.take m ++ [(K : Int)])) by simpa [ints] using hown)
          clear hown hgrow HBK HC2 HO1 HC1
          have c2 : w2.cell? ⟨q, 2, none⟩ = some (.slice (some ad) n m) := HC3.out.cell (H.out.hd.cell 2)
          have HDL := hide (show (l.drop m).length = n - m by have := H.out.ro.1.1; rw [List.length_drop]; omega)
          have hf2 := (H.out.hd.chg HC3.out id).frozen 2
          go_wp2_with (at_builtin; (refine wpList_append_own _ rfl _ _ 33 rfl w.heap.size 3 i0 (.int .i64 0) 1 8 Tryd.underlying33 HI.out HZ0.out HZ1.out HZ2.out rfl (by decide) _ _ _ rfl HO2.out _ _ _ (ints (l.drop m)) rfl ?e0 ?e1 (ints_one _) ?e3 ?e4 ?e5 ?_))
          case e0 => rw [ints_length, HDL.out]; omega
          case e1 =>
            intro j u hj
            have hj1 : j < n - m := by have := (List.getElem?_eq_some_iff.1 hj).1; rw [ints_length, HDL.out] at this; exact this
            first
              | exact absurd hj1 (by omega)
              | (obtain ⟨ad', e', hc'⟩ := (H.out.ro.chg HC3.out (fun _ h => h.elim)).at_ (show m + j < n by omega)
                 injection e' with e'
                 subst e'
                 rw [add_add, hc', ← hj, ints_get _ _ (by rw [HDL.out]; exact hj1)]
                 simp [List.getD_eq_getElem?_getD, List.getElem?_drop])
          case e3 => unfold maxLen; omega
          case e4 => omega
          case e5 => exact HC3.out.size
          intro v3 w3 hown hgrow _
          have HC4 := hide (Chg.grownOwn HC3.out HO2.out (Nat.le_refl _) hgrow)
          have HO3 := hide (show w3.ownsRow w.heap.size 3 1 v3 (n + 1) (ints (l.take m ++ [(K : Int)] ++ l.drop m)) by
            have h1 := hown
            first
              | rw [show m + 1 + (n - m) = n + 1 by omega] at h1
              | rw [show m + 1 = n + 1 by omega] at h1
            simpa [ints] using h1)
          clear hown hgrow HO2 HC3 c2 hf2
          obtain ⟨g3, cap3, rfl, hb3, hl3, hn3, hm3⟩ := own_form HO3.out (Nat.succ_pos n)
          have hf3 := (H.out.hd.chg HC4.out id).frozen 2
          have c3 : w3.cell? ⟨q, 2, none⟩ = some (.slice (some ad) n m) := (H.out.hd.chg HC4.out id).cell 2
          have HB3 := hide (show Blk (w3.setCell ⟨q, 2, none⟩ (.slice (some ⟨g3, 0, none⟩) (n + 1) cap3)) q 35 [.int .i64 f, .int .i64 t, .slice (some ⟨g3, 0, none⟩) (n + 1) cap3] from (H.out.hd.chg HC4.out id).set_ 2 _)
          have HC5 := hide ((HC4.out.mono (S := (· = q)) (fun _ _ h => h.elim)).set1 2 (.slice (some ⟨g3, 0, none⟩) (n + 1) cap3))
          have HRO := hide (Ro.of_own (G := G) HO3.out (fun i hi => .inl (HG.out i hi)))
          have HRO2 := hide (HRO.out.chg ((Chg.refl (· = q) w3).set1 2 (.slice (some ⟨g3, 0, none⟩) (n + 1) cap3)) (fun i (hi : i = q) => hi ▸ H.out.Gq))
          have HF := hide (show Rt (w3.setCell ⟨q, 2, none⟩ (.slice (some ⟨g3, 0, none⟩) (n + 1) cap3)) q f t (some ⟨g3, 0, none⟩) (n + 1) cap3 (l.take m ++ [(K : Int)] ++ l.drop m) G from ⟨HB3.out, HRO2.out, hn3, hm3, hn, H.out.Gq, H.out.t4, H.out.ft, fun h => by cases h⟩)
          clear hb3 hl3 hn3 hm3 HO3 HRO HRO2 HB3 HC4
          go_wp2
          go_ret
          exact ⟨rfl, ⟨_, _, HF.out⟩, HC5.out⟩
        · skip
          have HTK := hide (show ∀ j u, (ints (l.take m))[j]? = some u → w.cell? (ad.add j) = some u from fun j u hj => by
            have hj1 : j < m := by have := (List.getElem?_eq_some_iff.1 hj).1; rw [ints_length, List.length_take] at this; omega
            obtain ⟨ad', e', hc'⟩ := H.out.ro.at_ (show j < n by omega)
            injection e' with e'
            subst e'
            rw [hc', ← hj, ints_get _ _ (by have := H.out.ro.1.1; rw [List.length_take]; omega)]
            simp [List.getD_eq_getElem?_getD, hj1])
          have HLT := hide (show (l.take m).length = m by have := H.out.ro.1.1; rw [List.length_take]; omega)
          have HNIL := hide (World.ownsRow_nil w w.heap.size 3 1)
          go_wp2_with (at_builtin; refine wpList_append_own _ rfl _ _ 33 rfl w.heap.size 3 i0 (.int .i64 0) 1 8 Tryd.underlying33 HI.out HZ0.out HZ1.out HZ2.out rfl (by decide) _ _ _ rfl HNIL.out ad m c (ints (l.take m)) rfl ?c0 HTK.out (ints_one _) ?c3 ?c4 (Nat.le_refl _) ?_)
          case c0 => rw [ints_length, HLT.out, Nat.mul_one]
          case c3 => unfold maxLen; omega
          case c4 => omega
          intro v1 w1 hown hgrow _
          have HC1 := hide (Chg.grownOwn (Chg.refl (fun _ => False) w) HNIL.out (Nat.le_refl _) hgrow)
          have HO1 := hide (hown.alloc (.cells [.int .i64 K].toArray 3))
          have HBK := hide (Blk.new w1 3 [.int .i64 K])
          have HC2 := hide (HC1.out.alloc (.cells [.int .i64 K].toArray 3))
          clear hown hgrow c2 HTK HNIL
          go_wp2_with (at_builtin; refine wpList_append_own _ rfl _ _ 33 rfl w.heap.size 3 i0 (.int .i64 0) 1 8 Tryd.underlying33 HI.out HZ0.out HZ1.out HZ2.out rfl (by decide) _ _ _ rfl HO1.out ⟨w1.heap.size, 0, none⟩ 1 1 [.int .i64 K] rfl rfl ?d1 ?d2 ?d3 ?d4 ?d5 ?_)
          case d1 => intro j u hj; rw [addr_add, Nat.zero_add, HBK.out.cell]; exact hj
          case d2 => intro u hu; simp at hu; subst hu; rfl
          case d3 => unfold maxLen; omega
          case d4 => omega
          case d5 => exact HC2.out.size
          intro v2 w2 hown hgrow _
          have HC3 := hide (Chg.grownOwn HC2.out HO1.out (Nat.le_refl _) hgrow)
          have HO2 := hide (show w2.ownsRow w.heap.size 3 1 v2 (m + 1) (ints (l.take m ++ [(K : Int)])) by simpa [ints] using hown)
          clear hown hgrow HBK HC2 HO1 HC1
          have c2 : w2.cell? ⟨q, 2, none⟩ = some (.slice (some ad) n c) := HC3.out.cell (H.out.hd.cell 2)
          have HDL := hide (show (l.drop m).length = n - m by have := H.out.ro.1.1; rw [List.length_drop]; omega)
          have hf2 := (H.out.hd.chg HC3.out id).frozen 2
          go_wp2_with (at_builtin; (refine wpList_append_own _ rfl _ _ 33 rfl w.heap.size 3 i0 (.int .i64 0) 1 8 Tryd.underlying33 HI.out HZ0.out HZ1.out HZ2.out rfl (by decide) _ _ _ rfl HO2.out (ad.add m) (n - m) (c - m) (ints (l.drop m)) rfl ?e0 ?e1 (ints_one _) ?e3 ?e4 ?e5 ?_))
          case e0 => rw [ints_length, HDL.out]; omega
          case e1 =>
            intro j u hj
            have hj1 : j < n - m := by have := (List.getElem?_eq_some_iff.1 hj).1; rw [ints_length, HDL.out] at this; exact this
            first
              | exact absurd hj1 (by omega)
              | (obtain ⟨ad', e', hc'⟩ := (H.out.ro.chg HC3.out (fun _ h => h.elim)).at_ (show m + j < n by omega)
                 injection e' with e'
                 subst e'
                 rw [add_add, hc', ← hj, ints_get _ _ (by rw [HDL.out]; exact hj1)]
                 simp [List.getD_eq_getElem?_getD, List.getElem?_drop])
          case e3 => unfold maxLen; omega
          case e4 => omega
          case e5 => exact HC3.out.size
          intro v3 w3 hown hgrow _
          have HC4 := hide (Chg.grownOwn HC3.out HO2.out (Nat.le_refl _) hgrow)
          have HO3 := hide (show w3.ownsRow w.heap.size 3 1 v3 (n + 1) (ints (l.take m ++ [(K : Int)] ++ l.drop m)) by
            have h1 := hown
            first
              | rw [show m + 1 + (n - m) = n + 1 by omega] at h1
              | rw [show m + 1 = n + 1 by omega] at h1
            simpa [ints] using h1)
          clear hown hgrow HO2 HC3 c2 hf2
          obtain ⟨g3, cap3, rfl, hb3, hl3, hn3, hm3⟩ := own_form HO3.out (Nat.succ_pos n)
          have hf3 := (H.out.hd.chg HC4.out id).frozen 2
          have c3 : w3.cell? ⟨q, 2, none⟩ = some (.slice (some ad) n c) := (H.out.hd.chg HC4.out id).cell 2
          have HB3 := hide (show Blk (w3.setCell ⟨q, 2, none⟩ (.slice (some ⟨g3, 0, none⟩) (n + 1) cap3)) q 35 [.int .i64 f, .int .i64 t, .slice (some ⟨g3, 0, none⟩) (n + 1) cap3] from (H.out.hd.chg HC4.out id).set_ 2 _)
          have HC5 := hide ((HC4.out.mono (S := (· = q)) (fun _ _ h => h.elim)).set1 2 (.slice (some ⟨g3, 0, none⟩) (n + 1) cap3))
          have HRO := hide (Ro.of_own (G := G) HO3.out (fun i hi => .inl (HG.out i hi)))
          have HRO2 := hide (HRO.out.chg ((Chg.refl (· = q) w3).set1 2 (.slice (some ⟨g3, 0, none⟩) (n + 1) cap3)) (fun i (hi : i = q) => hi ▸ H.out.Gq))
          have HF := hide (show Rt (w3.setCell ⟨q, 2, none⟩ (.slice (some ⟨g3, 0, none⟩) (n + 1) cap3)) q f t (some ⟨g3, 0, none⟩) (n + 1) cap3 (l.take m ++ [(K : Int)] ++ l.drop m) G from ⟨HB3.out, HRO2.out, hn3, hm3, hn, H.out.Gq, H.out.t4, H.out.ft, fun h => by cases h⟩)
          clear hb3 hl3 hn3 hm3 HO3 HRO HRO2 HB3 HC4
          go_wp2
          go_ret
          exact ⟨rfl, ⟨_, _, HF.out⟩, HC5.out⟩
theorem _root_.Go.Proofs.YtbigdgabjjpffaaDoor.L7.Ro.empty {w : World} {l : List Int} {n : Nat} (h : Ro w none n l G) (hn : n = 0) : l = [] := by
  subst hn
  exact List.eq_nil_of_length_eq_zero h.1.1
set_option maxHeartbeats 4000000 in
theorem rtouch_nil (h : Rt w q f t none 0 0 [] G) (x : Int) {K : Nat} (hk : kc f t x = (K : Int)) (hG : ∀ i, G i → i < w.heap.size) :
    Calls Tryd.prog 13 #[ptr q, .int .i64 x] w fun e w' => e = .returned (.bool true) ∧ (∃ a' c', Rt w' q f t a' 1 c' [(K : Int)] G) ∧ Chg (· = q) w w' := by
  have hno : ¬ ∃ j, j < 0 ∧ ([] : List Int).getD j 0 = (K : Int) := fun ⟨j, h, _⟩ => absurd h (Nat.not_lt_zero j)
  have HC := hide (rcard_any h x)
  have HD := hide (rdirty_any h x false (by rw [hk]; exact ⟨(fun h => nomatch h), fun h => absurd h hno⟩))
  rw [hk] at HC
  have q0 : decide ((K : Int) < 0) = false := by simp
  obtain ⟨i0, hi0, hz0, hz1, hz2⟩ := info_parts Tryd.infoInt
  have HI := hide hi0
  have HZ0 := hide hz0
  have HZ1 := hide hz1
  have HZ2 := hide hz2
  have H := hide h
  have HG := hide hG
  have c2 : w.cell? ⟨q, 2, none⟩ = some (.slice none 0 0) := h.hd.cell 2
  have HNIL := hide (World.ownsRow_nil (w.alloc (.cells [.int .i64 K].toArray 3)) w.heap.size 3 1)
  have HBK := hide (Blk.new w 3 [.int .i64 K])
  have HC2 := hide (Grow.box w (.cells [.int .i64 K].toArray 3))
  clear h hk hno hi0 hz0 hz1 hz2 hG
  go_enter Tryd.func13, Tryd.ntmps13
  go_wp2_with fail
  refine HC.out.mono ?_
  rintro e w' ⟨rfl, rfl⟩
  go_wp2_with fail
  refine HD.out.mono ?_
  rintro e w' ⟨rfl, rfl⟩
  go_wp2
  refine wp_loop_rounds 1 ?_
  rw [rounds_succ]
  go_wp2_with (at_builtin; first | (refine wpList_append_own _ rfl _ _ 33 rfl w.heap.size 3 i0 (.int .i64 0) 1 8 Tryd.underlying33 HI.out HZ0.out HZ1.out HZ2.out rfl (by decide) _ _ _ rfl HNIL.out ⟨w.heap.size, 0, none⟩ 1 1 [.int .i64 K] rfl rfl ?d1 ?d2 ?d3 ?d4 ?d5 ?_))
  case d1 => intro j u hj; rw [addr_add, Nat.zero_add, HBK.out.cell]; exact hj
  case d2 => intro u hu; simp at hu; subst hu; rfl
  case d3 => unfold maxLen; omega
  case d4 => omega
  case d5 => exact HC2.out.size
  intro v2 w2 hown hgrow _
  have HC3 := hide (Chg.grownOwn HC2.out HNIL.out (Nat.le_refl _) hgrow)
  have HO3 := hide (show w2.ownsRow w.heap.size 3 1 v2 1 (ints [(K : Int)]) by simpa [ints] using hown)
  clear hown hgrow HBK HC2 HNIL
  have c2 : w2.cell? ⟨q, 2, none⟩ = some (.slice none 0 0) := HC3.out.cell (H.out.hd.cell 2)
  have hf3 := (H.out.hd.chg HC3.out id).frozen 2
  obtain ⟨g3, cap3, rfl, hb3, hl3, hn3, hm3⟩ := own_form HO3.out (Nat.succ_pos 0)
  have HB3 := hide (show Blk (w2.setCell ⟨q, 2, none⟩ (.slice (some ⟨g3, 0, none⟩) 1 cap3)) q 35 [.int .i64 f, .int .i64 t, .slice (some ⟨g3, 0, none⟩) 1 cap3] from (H.out.hd.chg HC3.out id).set_ 2 _)
  have HC5 := hide ((HC3.out.mono (S := (· = q)) (fun _ _ h => h.elim)).set1 2 (.slice (some ⟨g3, 0, none⟩) 1 cap3))
  have HRO := hide (Ro.of_own (G := G) HO3.out (fun i hi => .inl (HG.out i hi)))
  have HRO2 := hide (HRO.out.chg ((Chg.refl (· = q) w2).set1 2 (.slice (some ⟨g3, 0, none⟩) 1 cap3)) (fun i (hi : i = q) => hi ▸ H.out.Gq))
  have HF := hide (show Rt (w2.setCell ⟨q, 2, none⟩ (.slice (some ⟨g3, 0, none⟩) 1 cap3)) q f t (some ⟨g3, 0, none⟩) 1 cap3 [(K : Int)] G from ⟨HB3.out, HRO2.out, hn3, hm3, by omega, H.out.Gq, H.out.t4, H.out.ft, fun h => by cases h⟩)
  have HO4 := hide HO3.out
  have HIN := hide (fun t W => run_append_owned_none (P := Tryd.prog) (w := W) w.heap.size 33 t 3 i0 1 Tryd.underlying33 HI.out)
  clear hb3 hl3 hm3 HRO HRO2 HB3 HC3 HO3
  go_wp2_with (at_builtin; refine wpList_append_own_none rfl _ _ 33 rfl w.heap.size 3 i0 1 Tryd.underlying33 HI.out _ _ _ rfl HO4.out rfl ?_)
  go_wp2
  go_ret
  exact ⟨rfl, ⟨_, _, HF.out⟩, HC5.out⟩
end
end Go.Proofs.YtbigdgabjjpffaaDoor.L7

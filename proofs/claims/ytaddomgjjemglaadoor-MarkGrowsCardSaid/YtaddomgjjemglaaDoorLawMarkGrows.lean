/- For all arguments MarkGrows answers true: with one root more nothing less is marked. Conditions: the table of math/bits.TrailingZeros64 is as the program's text lays it, which the card ties. -/
import Derived.Test.YtaddomgjjemglaaDoorL14F
import Derived.Test.YtaddomgjjemglaaDoorL14A
import Derived.Test.YtaddomgjjemglaaDoorCards
import Derived.Test.YtaddomgjjemglaaDoorTie
import Derived.SevenTiedAt
import Derived.Stop.Joined
import Derived.ShutString
namespace Go.Proofs.YtaddomgjjemglaaDoor.markGrows
open Go.ChangeShapes Go.WideShapes Go.ChangeAt Go.RowKit Go.Proofs.YtaddomgjjemglaaDoor.L14
open Go.Proofs.YtaddomgjjemglaaDoor.L3 (Ms Tab ms_set ms_len ms_has ms_next ms_count ms_new clamp ptr exB exB_in exB_out exB_nat setI cnt cnt_le cnt_congr cnt_on cnt_none upd upd_at upd_ne hasI has_is count_is nx nx_cases tab_of_laid)
set_option linter.unusedVariables false

theorem incs {j m : Nat} (h : j ≤ m) (hm : m ≤ 5000) : IntKind.i64.wrap ((j : Int) + 1) = ((j + 1 : Nat) : Int) := (IntWalk.i64_in _ (by omega)).trans (by omega)
theorem ol_rd {W : World} {b q c : Nat} {a : Option Addr} {xs : List Int} (h : OL W b (.slice a q c) xs) (hq : xs.length = q) : L1.Rd W a q xs := by
  unfold OL at h
  rw [hq] at h
  exact own_rd h
/-- A copy of a list, with one number more. -/
theorem app_two {W : World} {a2 : Option Addr} {k cap2 : Nat} {zs : List Int} (hz : L1.Rd W a2 k zs) (hk : k ≤ 1000) (x : Int) : ∃ a5 c5 W5 a7 c7 W7,
    (Builtin.append_ #[23, 23] 23 #[.slice (some ⟨W.heap.size, 0, none⟩) 0 0, .slice a2 k cap2]).run Tryd.prog (W.alloc (.cells #[] 3)) = .ok (.slice a5 k c5) W5 ∧
    (Builtin.append_ #[23, 23] 23 #[.slice a5 k c5, .slice (some ⟨W5.heap.size, 0, none⟩) 1 1]).run Tryd.prog (W5.alloc (.cells #[.int .i64 x] 3)) = .ok (.slice a7 (k + 1) c7) W7 ∧ L1.Rd W7 a7 (k + 1) (zs ++ [x]) ∧ Grow W W7 := by
  have gB := Grow.box W (.cells #[] 3)
  have hl : OL (W.alloc (.cells #[] 3)) W.heap.size (.slice (some ⟨W.heap.size, 0, none⟩) 0 0) [] := OL.lit W [] (by decide)
  obtain ⟨v5, W5, h1, h2, h3, -⟩ := app_more (c0 := cap2) gB hl (hz.grow gB) (by show 0 + k ≤ _; omega)
  obtain ⟨a5, c5, rfl⟩ := own_len h2
  have e : ([] ++ zs : List Int).length = k := by rw [List.nil_append, hz.1]
  rw [e] at h1 h2
  obtain ⟨a7, c7, W7, h4, h5, h6, -⟩ := app_new h3 h2 e (by omega) x
  exact ⟨a5, c5, W5, a7, c7, W7, h1, h4, ol_rd h5 (by rw [List.length_append, hz.1]; rfl), h6⟩
/-- What is marked below j, in order. -/
def allL (S : Nat → Bool) (j : Nat) : List Int := ((List.range j).filter S).map fun i : Nat => (i : Int)
theorem allL_yes {S : Nat → Bool} {j : Nat} (h : S j = true) : allL S (j + 1) = allL S j ++ [(j : Int)] := by unfold allL; rw [List.range_succ, List.filter_append]; simp [h]
theorem allL_no {S : Nat → Bool} {j : Nat} (h : S j = false) : allL S (j + 1) = allL S j := by unfold allL; rw [List.range_succ, List.filter_append]; simp [h]
theorem allL_len (S : Nat → Bool) (j : Nat) : (allL S j).length ≤ j := by
  unfold allL
  rw [List.length_map]
  exact Nat.le_trans (List.length_filter_le _ _) (by simp)
theorem all_same {n : Nat} {E : Nat → List Int} {zs : List Int} {S : Nat → Bool} (h : ∀ j, S j = true ↔ Rch n E zs j) (j : Nat) : S j = true ↔ Rch n E (allL S n) j := by
  constructor
  · intro hs
    have hn := ((h j).1 hs).lt
    exact .st (by unfold allL; exact List.mem_map.2 ⟨j, List.mem_filter.2 ⟨List.mem_range.2 hn, hs⟩, rfl⟩) hn
  · intro hr
    induction hr with
    | st h1 h2 =>
      obtain ⟨i, hi, e⟩ := List.mem_map.1 h1
      rw [← Int.ofNat.inj e]
      exact (List.mem_filter.1 hi).2
    | go _ h2 h3 ih => exact (h _).2 (.go ((h _).1 ih) h2 h3)
theorem eL_nil : eL [] = fun _ => [] := by
  funext j
  simp [eL]
set_option maxRecDepth 100000 in
set_option maxHeartbeats 2000000 in
theorem walk (places : Int) (a : Option Addr) (len cap : Nat) (L : List (List Int)) (a2 : Option Addr) (k cap2 : Nat) (zs : List Int) (more room : Int) (w : World) (ht : Tab w) (w0 : (Lit.int .i64 places).wf = true) (hl : IsLs w.heap.size w a len L) (hz : IsRow .i64 w a2 k cap2 zs) (w3 : (Lit.int .i64 more).wf = true) (w4 : (Lit.int .i64 room).wf = true) :
    Calls Tryd.prog 5 #[.int .i64 places, .slice a len cap, .slice a2 k cap2, .int .i64 more, .int .i64 room] w fun e w' => e = .returned (.bool true) ∧ Below w.heap.size w w' := by
  have HT := hide ht
  have HL := hide hl
  clear w0 w3 w4
  cases hf : fewB L k with
  | false =>
    have HF := hide hf
    clear ht hl hz hf
    go_enter Tryd.func5, Tryd.ntmps5
    go_wp2_with fail
    refine (awake_any HT.out).mono ?_
    rintro e wa ⟨rfl, ca⟩
    have HTA := hide (HT.out.chg ca id)
    have HLA := hide (HL.out.grow ca)
    have HCA := hide ca
    clear ca
    go_wp2_with fail
    refine (few_any HLA.out).mono ?_
    rintro e wb ⟨rfl, rfl⟩
    rw [HF.out]
    go_wp2_with fail
    refine (awake_any HTA.out).mono ?_
    rintro e wc ⟨rfl, cc⟩
    go_wp2
    go_returns
    exact ⟨rfl, (HCA.out.trans cc).under⟩
  | true =>
    by_cases hp : places > 300
    · have q0 : decide (places > 300) = true := decide_eq_true hp
      have HF := hide hf
      clear ht hl hz hf hp
      go_enter Tryd.func5, Tryd.ntmps5
      go_wp2_with fail
      refine (awake_any HT.out).mono ?_
      rintro e wa ⟨rfl, ca⟩
      have HTA := hide (HT.out.chg ca id)
      have HLA := hide (HL.out.grow ca)
      have HCA := hide ca
      clear ca
      go_wp2_with fail
      refine (few_any HLA.out).mono ?_
      rintro e wb ⟨rfl, rfl⟩
      rw [HF.out]
      go_wp2_with fail
      refine (awake_any HTA.out).mono ?_
      rintro e wc ⟨rfl, cc⟩
      go_wp2
      go_returns
      exact ⟨rfl, (HCA.out.trans cc).under⟩
    · have q0 : decide (places > 300) = false := decide_eq_false hp
      have hk : k ≤ 100 := (of_decide_eq_true hf).2.1
      have HF := hide hf
      have HF0 := hide (show fewB [] k = true from decide_eq_true ⟨Nat.zero_le _, hk, fun xs hx => by cases hx⟩)
      have HLL := hide (eL_len hf)
      have HZ := hide (rd_row hz)
      obtain ⟨n, hn⟩ : ∃ n, clamp places = n := ⟨_, rfl⟩
      obtain ⟨S1, hS1⟩ := ex_rch n (eL L) zs
      obtain ⟨S2, hS2⟩ := ex_rch n (eL L) (zs ++ [more])
      obtain ⟨S4, hS4⟩ := ex_rch n (fun _ => []) zs
      have HS12 := hide (show ∀ i, S1 i = true → S2 i = true from fun i hi => (hS2 i).2 (rch_mono (fun x hx => List.mem_append_left _ hx) ((hS1 i).1 hi)))
      obtain ⟨r, hr⟩ : ∃ r : Nat, max room 1 = (r : Int) := ⟨(max room 1).toNat, by omega⟩
      have HN := hide hn
      have HS1 := hide hS1
      have HS2 := hide hS2
      have HS4 := hide hS4
      have HR := hide hr
      have HK := hide (show k ≤ 1000 by omega)
      clear ht hl hz hf hp hn hS1 hS2 hS4 hr hk
      go_enter Tryd.func5, Tryd.ntmps5
      go_wp2_with fail
      refine (awake_any HT.out).mono ?_
      rintro e wa ⟨rfl, ca⟩
      have HTA := hide (HT.out.chg ca id)
      have HLA := hide (HL.out.grow ca)
      have HCA := hide ca
      clear ca
      go_wp2_with fail
      refine (few_any HLA.out).mono ?_
      rintro e wb ⟨rfl, rfl⟩
      rw [HF.out]
      go_wp2_with fail
      refine (by_is _).mono ?_
      rintro e w1 ⟨b1, rfl, hb1, c1, -⟩
      have HB1 := hide hb1
      have HC1 := hide (HCA.out.trans c1)
      clear hb1 c1
      go_wp2_with fail
      refine (reach_by (r := r) HB1.out HL.out (Nat.le_refl _) HC1.out HF.out HT.out HZ.out (by have := HK.out; omega) HS1.out HN.out HR.out).mono ?_
      rintro e w2 ⟨p1, g1, rn1, rfl, hm1, -, c2⟩
      have HM0 := hide hm1
      have HC2 := hide (HC1.out.trans c2)
      clear hm1 c2
      go_wp2_with fail
      refine (by_is _).mono ?_
      rintro e w3 ⟨b3, rfl, hb3, c3, -⟩
      obtain ⟨a5, c5, W5, a7, c7, W7, hr5, hr7, hrd7, hg7⟩ := app_two (cap2 := cap2) (HZ.out.grow (HC2.out.trans c3)) HK.out more
      have KA := hide hr5
      have KB := hide hr7
      have HRD := hide hrd7
      have HC3 := hide (HC2.out.trans (c3.trans hg7))
      have HB3 := hide (Grow.cell hg7 hb3)
      have HD3 := hide (c3.trans hg7)
      clear hb3 c3 hr5 hr7 hrd7 hg7
      go_wp2_with (first
        | (at_builtin; refine wpList_app rfl _ _ 23 rfl (.slice (some ⟨w3.heap.size, 0, none⟩) 0 0) (.slice a2 k cap2) (.slice a5 k c5) _ W5 rfl rfl KA.out ?_)
        | (at_builtin; refine wpList_app rfl _ _ 23 rfl (.slice a5 k c5) (.slice (some ⟨W5.heap.size, 0, none⟩) 1 1) (.slice a7 (k + 1) c7) _ W7 rfl rfl KB.out ?_))
      refine (reach_fun (r := r) (n := n) (E := eL L) (fid := 31) (lb := #[ptr b3]) (enters_of Tryd.func31 (by kernel_rfl) rfl) (fun W j hj g => (byF_any (Grow.cell g HB3.out) (HL.out.grow (HC3.out.trans g)) j).mono fun e W' ⟨a', c', he, h1, h2, h3⟩ => by subst h3; exact ⟨a', c', he, h1, fun h0 x e => .inl (Nat.lt_of_lt_of_le (h2 h0 x e) HC3.out.size), Chg.refl _ _⟩) (fun j _ => Nat.le_trans (HLL.out j) (by decide)) (HT.out.chg HC3.out id) HRD.out (by have := HK.out; omega) HS2.out HN.out HR.out).mono ?_
      rintro e w6 ⟨p2, g2, rn2, rfl, hm2, -, c6⟩
      have HM2 := hide hm2
      have HM1 := hide (HM0.out.grow (HD3.out.trans c6))
      have HC6 := hide (HC3.out.trans c6)
      have hn := hm2.most
      have HN4 := hide hn
      clear hm2 c6 HM0 hn
      go_wp2_with fail
      refine (ms_len HM1.out).mono ?_
      rintro e w7 ⟨rfl, rfl⟩
      go_wp2_with fail
      go_loopw [65, 15] (fun v u wr => ∃ (i : Nat) (va : Option Addr) (q vc : Nat), i ≤ n ∧ v = .int .i64 i ∧ u = .slice va q vc ∧ (allL S1 i).length = q ∧ OL wr w6.heap.size (.slice va q vc) (allL S1 i) ∧ Grow w6 wr) (fun v _ _ => n - (Go.RowKit.intOf v).toNat)
      case atStart => exact ⟨0, none, 0, 0, Nat.zero_le _, rfl, rfl, rfl, ol_nil _ _, Chg.refl _ _⟩
      case round =>
        obtain ⟨i, va, q, vc, hi, rfl, rfl, hq, hol, hg⟩ := hrel
        rcases Nat.eq_or_lt_of_le hi with hie | hlt
        · have hie2 := hie.symm
          subst hie2
          clear hie
          have q1 : decide ((n : Int) < n) = false := by simp
          have HOL := hide hol
          have HQL := hide hq
          have HG := hide hg
          have HQ5 := hide (show q ≤ 1000000 by have := allL_len S1 n; have := HN4.out; omega)
          clear hol hq hg hi
          have HRO := hide (ol_rd HOL.out HQL.out)
          have HMA := hide (HM1.out.grow HG.out)
          have HMB := hide (HM2.out.grow HG.out)
          have HC7 := hide (HC6.out.trans HG.out)
          clear HOL HM1 HM2
          go_wp2_with fail
          refine (by_is _).mono ?_
          rintro e w8 ⟨b8, rfl, hb8, c8, -⟩
          have HB8 := hide hb8
          have HC8 := hide (HC7.out.trans c8)
          have HRO8 := hide (HRO.out.grow c8)
          have HD8 := hide c8
          clear hb8 c8
          go_wp2_with fail
          refine (reach_fun (r := r) (n := n) (E := eL L) (fid := 31) (lb := #[ptr b8]) (enters_of Tryd.func31 (by kernel_rfl) rfl) (fun W j hj g => (byF_any (Grow.cell g HB8.out) (HL.out.grow (HC8.out.trans g)) j).mono fun e W' ⟨a', c', he, h1, h2, h3⟩ => by subst h3; exact ⟨a', c', he, h1, fun h0 x e => .inl (Nat.lt_of_lt_of_le (h2 h0 x e) HC8.out.size), Chg.refl _ _⟩) (fun j _ => Nat.le_trans (HLL.out j) (by decide)) (HT.out.chg HC8.out id) HRO8.out HQ5.out (all_same HS1.out) HN.out HR.out).mono ?_
          rintro e w9 ⟨p3, g3, rn3, rfl, hm3, -, c9⟩
          have HM3 := hide hm3
          have HC9 := hide (HC8.out.trans c9)
          have HD9 := hide (HD8.out.trans c9)
          clear hm3 c9
          go_wp2_with fail
          refine (reach_none (r := r) (n := n) (HT.out.chg HC9.out id) (HZ.out.grow HC9.out) (by have := HK.out; omega) HS4.out HN.out HR.out).mono ?_
          rintro e w10 ⟨p4, g4, rn4, rfl, hm4, hr4, c10⟩
          have HM4 := hide hm4
          have HR4 := hide hr4
          have HM5 := hide (HM3.out.grow c10)
          have HMA2 := hide (HMA.out.grow (HD9.out.trans c10))
          have HMB2 := hide (HMB.out.grow (HD9.out.trans c10))
          have HC10 := hide (HC9.out.trans c10)
          clear hm4 hr4 c10 HM3 HMA HMB
          go_wp2_with fail
          refine (ms_count HM5.out).mono ?_
          rintro e w11 ⟨rfl, c11⟩
          have HMA3 := hide (HMA2.out.grow c11)
          have HMB3 := hide (HMB2.out.grow c11)
          have HMD3 := hide (HM4.out.grow c11)
          have HC11' := hide (HC10.out.trans c11)
          clear c11
          go_wp2_with fail
          refine (ms_count HMA3.out).mono ?_
          rintro e w11b ⟨rfl, c11⟩
          have HM6 := hide (HMB3.out.grow c11)
          have HMD := hide (HMD3.out.grow c11)
          have HC11 := hide (HC11'.out.trans c11)
          clear c11
          by_cases h0 : 0 ≤ more
          · have q4 : decide (more ≥ 0) = true := decide_eq_true h0
            by_cases h1 : more < (n : Int)
            · have q5 : decide (more < (n : Int)) = true := decide_eq_true h1
              have HHM := hide (show hasI S2 n more = true by
                have hx : exB n more = true := by unfold exB; exact decide_eq_true ⟨h0, h1⟩
                obtain ⟨i, rfl, hi⟩ := exB_nat hx
                unfold hasI
                rw [hx]
                exact (HS2.out i).2 (.st (by simp) hi))
              clear h0 h1
              go_wp2_with fail
              refine (has_is HM6.out HHM.out).mono ?_
              rintro e w12 ⟨rfl, c12⟩
              have HM12 := hide (HM6.out.grow c12)
              have HMd := hide (HMD.out.grow c12)
              have HC12 := hide (HC11.out.trans c12)
              clear c12
              go_wp2_with fail
              refine (ms_len HM12.out).mono ?_
              rintro e w12' ⟨rfl, rfl⟩
              go_wp2_with fail
              refine (ref_any (cap := 0) (L := []) (len := 0) (a := none) (k := k) (B := 0) ⟨rfl, fun h => absurd h (by omega)⟩ HF0.out (HZ.out.grow HC12.out) (eL_nil ▸ HS4.out) HN.out).mono ?_
              rintro e w13 ⟨rfl, hb13, c13⟩
              obtain ⟨h13, hh13⟩ : ∃ h13, w12.heap.size = h13 := ⟨_, rfl⟩
              rw [hh13] at hb13 ⊢
              have HB13 := hide hb13
              have HMe := hide (HMd.out.grow c13)
              have HC13 := hide (HC12.out.trans c13)
              clear hb13 c13 hh13
              go_wp2_with fail
              refine (same_any HMe.out HB13.out).mono ?_
              rintro e w14 ⟨rfl, c14⟩
              have HMf := hide (HMe.out.grow c14)
              have HC14 := hide (HC13.out.trans c14)
              clear c14
              by_cases h10 : rn4 = 0
              · subst h10
                go_wp2
                go_returns
                exact ⟨rfl, HC14.out.under⟩
              · have q2 : ((rn4 : Int) == 0) = false := by simpa using h10
                have q3 : decide (room < (n : Int)) = true := decide_eq_true (by
                  have h1 := HR4.out.resolve_left h10
                  have := cnt_le S4 n
                  have := HR.out
                  omega)
                clear h10
                go_wp2_with fail
                refine (ms_len HMf.out).mono ?_
                rintro e w15 ⟨rfl, rfl⟩
                go_wp2
                go_returns
                exact ⟨rfl, HC14.out.under⟩
            · have q5 : decide (more < (n : Int)) = false := decide_eq_false h1
              have HHM := hide (show hasI S2 n more = false by unfold hasI; rw [exB_out (.inr (by omega))]; rfl)
              clear h0 h1
              go_wp2_with fail
              refine (has_is HM6.out HHM.out).mono ?_
              rintro e w12 ⟨rfl, c12⟩
              have HM12 := hide (HM6.out.grow c12)
              have HMd := hide (HMD.out.grow c12)
              have HC12 := hide (HC11.out.trans c12)
              clear c12
              go_wp2_with fail
              refine (ms_len HM12.out).mono ?_
              rintro e w12' ⟨rfl, rfl⟩
              go_wp2_with fail
              refine (ref_any (cap := 0) (L := []) (len := 0) (a := none) (k := k) (B := 0) ⟨rfl, fun h => absurd h (by omega)⟩ HF0.out (HZ.out.grow HC12.out) (eL_nil ▸ HS4.out) HN.out).mono ?_
              rintro e w13 ⟨rfl, hb13, c13⟩
              obtain ⟨h13, hh13⟩ : ∃ h13, w12.heap.size = h13 := ⟨_, rfl⟩
              rw [hh13] at hb13 ⊢
              have HB13 := hide hb13
              have HMe := hide (HMd.out.grow c13)
              have HC13 := hide (HC12.out.trans c13)
              clear hb13 c13 hh13
              go_wp2_with fail
              refine (same_any HMe.out HB13.out).mono ?_
              rintro e w14 ⟨rfl, c14⟩
              have HMf := hide (HMe.out.grow c14)
              have HC14 := hide (HC13.out.trans c14)
              clear c14
              by_cases h10 : rn4 = 0
              · subst h10
                go_wp2
                go_returns
                exact ⟨rfl, HC14.out.under⟩
              · have q2 : ((rn4 : Int) == 0) = false := by simpa using h10
                have q3 : decide (room < (n : Int)) = true := decide_eq_true (by
                  have h1 := HR4.out.resolve_left h10
                  have := cnt_le S4 n
                  have := HR.out
                  omega)
                clear h10
                go_wp2_with fail
                refine (ms_len HMf.out).mono ?_
                rintro e w15 ⟨rfl, rfl⟩
                go_wp2
                go_returns
                exact ⟨rfl, HC14.out.under⟩
          · have q4 : decide (more ≥ 0) = false := decide_eq_false h0
            have HHM := hide (show hasI S2 n more = false by unfold hasI; rw [exB_out (.inl (by omega))]; rfl)
            clear h0
            go_wp2_with fail
            refine (has_is HM6.out HHM.out).mono ?_
            rintro e w12 ⟨rfl, c12⟩
            have HM12 := hide (HM6.out.grow c12)
            have HMd := hide (HMD.out.grow c12)
            have HC12 := hide (HC11.out.trans c12)
            clear c12
            go_wp2_with fail
            refine (ref_any (cap := 0) (L := []) (len := 0) (a := none) (k := k) (B := 0) ⟨rfl, fun h => absurd h (by omega)⟩ HF0.out (HZ.out.grow HC12.out) (eL_nil ▸ HS4.out) HN.out).mono ?_
            rintro e w13 ⟨rfl, hb13, c13⟩
            obtain ⟨h13, hh13⟩ : ∃ h13, w12.heap.size = h13 := ⟨_, rfl⟩
            rw [hh13] at hb13 ⊢
            have HB13 := hide hb13
            have HMe := hide (HMd.out.grow c13)
            have HC13 := hide (HC12.out.trans c13)
            clear hb13 c13 hh13
            go_wp2_with fail
            refine (same_any HMe.out HB13.out).mono ?_
            rintro e w14 ⟨rfl, c14⟩
            have HMf := hide (HMe.out.grow c14)
            have HC14 := hide (HC13.out.trans c14)
            clear c14
            by_cases h10 : rn4 = 0
            · subst h10
              go_wp2
              go_returns
              exact ⟨rfl, HC14.out.under⟩
            · have q2 : ((rn4 : Int) == 0) = false := by simpa using h10
              have q3 : decide (room < (n : Int)) = true := decide_eq_true (by
                have h1 := HR4.out.resolve_left h10
                have := cnt_le S4 n
                have := HR.out
                omega)
              clear h10
              go_wp2_with fail
              refine (ms_len HMf.out).mono ?_
              rintro e w15 ⟨rfl, rfl⟩
              go_wp2
              go_returns
              exact ⟨rfl, HC14.out.under⟩
        · have q1 : decide ((i : Int) < n) = true := decide_eq_true (by omega)
          have hw := incs hi (Nat.le_trans HN4.out (by decide))
          have HI := hide hlt
          have HH1 := hide (has_is (i := (i : Int)) (HM1.out.grow hg) (show hasI S1 n (i : Int) = S1 i by unfold hasI; rw [exB_in hlt]; rfl))
          cases hs : S1 i with
          | true =>
            rw [hs] at HH1
            have HH2 := hide (fun V (d : Grow wr V) => has_is (i := (i : Int)) (HM2.out.grow (hg.trans d)) (show hasI S2 n (i : Int) = true by unfold hasI; rw [exB_in hlt]; exact HS12.out i hs))
            have HQ := hide (show q ≤ 1000000 by have := allL_len S1 i; have := HN4.out; clear hw; omega)
            have HAL := hide (allL_yes hs)
            have HOL := hide hol
            have HQL := hide hq
            have HG := hide hg
            clear hol hq hg hi hlt hs
            go_wp2_with fail
            refine HH1.out.mono ?_
            rintro e w7 ⟨rfl, c7⟩
            obtain ⟨a8, c8, W8, hr8, ho8, hg8, hc8⟩ := app_new (HG.out.trans c7) (HOL.out.grow c7) HQL.out HQ.out (i : Int)
            rw [← HAL.out] at ho8
            have KC := hide hr8
            have HO8 := hide ho8
            have HG8 := hide hg8
            have HM28 := hide (show Ms W8 p2 g2 n S2 from HM2.out.grow hg8)
            have HHB := hide (has_is (i := (i : Int)) HM28.out (show hasI S2 n (i : Int) = true by unfold hasI; rw [exB_in HI.out]; exact HS12.out i (by
              have := HAL.out
              cases h : S1 i with
              | true => rfl
              | false => rw [allL_no h] at this; have := congrArg List.length this; simp at this)))
            have HQL2 := hide (show (allL S1 (i + 1)).length = q + 1 by rw [HAL.out, List.length_append, HQL.out]; rfl)
            clear hr8 ho8 hg8 hc8 c7 HH2
            go_wp2_with (at_builtin; refine wpList_app rfl _ _ 23 rfl (.slice va q vc) (.slice (some ⟨w7.heap.size, 0, none⟩) 1 1) (.slice a8 (q + 1) c8) _ W8 rfl rfl KC.out ?_)
            refine HHB.out.mono ?_
            rintro e w9 ⟨rfl, c9⟩
            have HO9 := hide (HO8.out.grow c9)
            have HG9 := hide (HG8.out.trans c9)
            clear c9
            go_wp2
            go_roundw
            case rel => exact ⟨i + 1, a8, q + 1, c8, HI.out, rfl, rfl, HQL2.out, HO9.out, HG9.out⟩
            case measure => have := HI.out; clear hw; simp [Go.RowKit.intOf]; omega
          | false =>
            rw [hs] at HH1
            have HAL := hide (allL_no hs)
            have HOL := hide hol
            have HQL := hide hq
            have HG := hide hg
            clear hol hq hg hi hlt hs
            go_wp2_with fail
            refine HH1.out.mono ?_
            rintro e w7 ⟨rfl, c7⟩
            have HO9 := hide (HOL.out.grow c7)
            have HG9 := hide (HG.out.trans c7)
            clear c7
            go_wp2
            go_roundw
            case rel => exact ⟨i + 1, va, q, vc, HI.out, rfl, rfl, by rw [HAL.out]; exact HQL.out, by rw [HAL.out]; exact HO9.out, HG9.out⟩
            case measure => have := HI.out; clear hw; simp [Go.RowKit.intOf]; omega

theorem own : ownKnob Tryd.prog.godebug = none := by kernel_rfl
theorem laidOut : laidOutB Tryd.prog = true := by kernel_rfl
theorem door_met (os : Os) (args : Array Value) : laidMetH Tryd.prog Rows.markGrowsRow.laid ((World.doorLaid Tryd.prog 400 os).forCall (fun _ _ => 0) ⟨#[], args, []⟩).memory :=
  laidMetH_of_parts3 (fuel := 8) (laidMet_of_run' 8 (by kernel_rfl) (by kernel_rfl)) (by kernel_rfl) (by kernel_rfl)

set_option maxRecDepth 100000 in
theorem lifted (os : Os) (started : os.Started) (H : Type) (enc : TypeId × Value → H) :
    ReturnsInHanded {} Tryd.checked os 5 .any (fun w args => (Rows.markGrowsSpec.pre enc Tryd.prog Tryd.f5 [] false w args ∧ laidMetH Tryd.prog Rows.markGrowsRow.laid w) ∧ sizedMet enc Tryd.prog Tryd.f5 (OpenSpec.ofChange Rows.markGrowsSpec) false w args) (Rows.markGrowsSpec.post enc Tryd.prog Tryd.f5 false true false false) := by
  refine returnsInHanded_of_change_and (C := Tryd.checked) (X := fun w _ => laidMetH Tryd.prog Rows.markGrowsRow.laid w) (fun _ _ _ hh h => h.of_heap hh) own started (by kernel_rfl) Tryd.func5
    (ChangeSpec.witness_shaped (enc := enc) (C := Tryd.checked) (os := os) (X := fun w _ => laidMetH Tryd.prog Rows.markGrowsRow.laid w) false (World.doorLaid Tryd.prog 400 os) #[.int .i64 0, .slice none 0 0, .slice none 0 0, .int .i64 0, .int .i64 0] 8 rfl (World.shaped_of_RefB (by kernel_rfl) (by kernel_rfl)) (by kernel_rfl) (by kernel_rfl) (by kernel_rfl) (door_met os _)) ?_
  intro W base args ds gs before hval0 hW _ _ hL _
  have hval : ∀ (j : Nat) t v, Tryd.f5.params[j]? = some t → args[j]? = some v → Value.okWide Tryd.prog W .any base t v := hval0
  have hW' := hW
  obtain ⟨p, q, hA0, hV, rfl, hfz, hnd⟩ := hW
  have hA : DataW.TrodAll enc Tryd.prog W 0 (fun _ => true) true Tryd.f5.params.toList args.toList ds p := hA0
  rw [Tryd.params5] at hA hval
  obtain ⟨v0, vs0, d0, ds0, p0, q0, hargs, rfl, rfl, h0, r0⟩ := trodAll_cons hA
  obtain ⟨v1, vs1, d1, ds1, p1, q1, rfl, rfl, rfl, h1, r1⟩ := trodAll_cons r0
  obtain ⟨v2, vs2, d2, ds2, p2, q2, rfl, rfl, rfl, h2, r2⟩ := trodAll_cons r1
  obtain ⟨v3, vs3, d3, ds3, p3, q3, rfl, rfl, rfl, h3, r3⟩ := trodAll_cons r2
  obtain ⟨v4, vs4, d4, ds4, p4, q4, rfl, rfl, rfl, h4, r4⟩ := trodAll_cons r3
  obtain ⟨rfl, rfl, rfl⟩ := trodAll_nil r4
  obtain rfl : args = #[v0, v1, v2, v3, v4] := by cases args; simp_all
  obtain ⟨rfl, rfl⟩ := trodVars_none hV
  obtain ⟨a0, rfl, rfl, rfl, w0⟩ := open_int Tryd.underlying3 (hval 0 3 v0 rfl rfl) h0
  have k1 := h1
  have lt1 : ∀ x ∈ p1, x.block < W.heap.size := by obtain ⟨m, hm⟩ := k1; exact DataW.trod_lt m _ _ _ hm
  obtain ⟨a1, len1, cap1, L1, rfl, w1⟩ := open_lists (hval 1 22 v1 rfl rfl) h1
  obtain ⟨a2, len2, cap2, rfl⟩ := okWide_slice Tryd.underlying23 (hval 2 23 v2 rfl rfl)
  have k2 := h2
  have lt2 : ∀ x ∈ p2, x.block < W.heap.size := by obtain ⟨m, hm⟩ := k2; exact DataW.trod_lt m _ _ _ hm
  obtain ⟨z2, w2⟩ : ∃ zs, IsRow .i64 W a2 len2 cap2 zs := open_row Tryd.underlying23 Tryd.underlying3 (by kernel_rfl) h2
  obtain ⟨a3, rfl, rfl, rfl, w3⟩ := open_int Tryd.underlying3 (hval 3 3 v3 rfl rfl) h3
  obtain ⟨a4, rfl, rfl, rfl, w4⟩ := open_int Tryd.underlying3 (hval 4 3 v4 rfl rfl) h4
  clear hA0 hval0
  refine (walk a0 a1 len1 cap1 L1 a2 len2 cap2 z2 a3 a4 W (tab_of_laid hL) w0 w1 w2 w3 w4).mono fun e W' ⟨he, bel⟩ => ?_
  subst he
  exact ⟨_, rfl, _, _, _, [], _, [], hW', trodAll_mk1 (shut_bool Tryd.underlying4 _), (trodAll_cons_mk (shut_int Tryd.underlying3 w0) (trodAll_cons_mk (Below.trod laidOut (by kernel_rfl) (of_decide_eq_true (by kernel_rfl)) k1 bel lt1) (trodAll_cons_mk (Below.trod laidOut (by kernel_rfl) (of_decide_eq_true (by kernel_rfl)) k2 bel lt2) (trodAll_cons_mk (shut_int Tryd.underlying3 w3) (trodAll_cons_mk (shut_int Tryd.underlying3 w4) trodAll_mk0))))), rfl, bel.frame _, fun h => by cases h⟩

theorem over : Rows.markGrowsRow.holds Tryd.pinned (OpenSpec.ofChange Rows.markGrowsSpec) :=
  OpenClaim.holds_of_wide 5 Tryd.f5 rfl rfl rfl rfl rfl rfl rfl ⟨rfl, rfl, rfl, rfl, rfl⟩ rfl rfl rfl rfl rfl (by kernel_rfl) Tryd.func5 (by kernel_rfl)
    (of_decide_eq_true (by kernel_rfl)) (by unfold Func.isWrapper; first | (rw [if_pos (by decide +kernel)]; kernel_rfl) | (rw [if_neg (by decide +kernel)]; exact ⟨rfl, rfl⟩))
    (fun os started H enc _ => lifted os started H enc)

/-- The statement. -/
theorem proved : Rows.MarkGrowsCardSaid :=
  Claim7.holds_tied_plain_at .later [] [.data] true Rows.markGrowsCard.stood.harness false
    over (fun _ h => by cases h) (by kernel_rfl) (fun _ h => by cases h) markGrows_row_tie rfl ⟨rfl, rfl⟩ (by kernel_rfl) rfl
    (fun f fn hf hfn => by
      obtain rfl : f = 5 := Option.some.inj ((show Tryd.prog.funcNamed "gleaning/gleaninglaw14.MarkGrows" = some 5 by kernel_rfl).symm.trans hf) |>.symm
      obtain rfl : fn = Tryd.f5 := (Option.some.inj (Tryd.func5.symm.trans hfn)).symm
      exact ⟨by kernel_rfl, fun j t ht => by
        rw [Tryd.params5] at ht
        have hm : t ∈ [3, 22, 23, 3, 3] := by simpa using Array.mem_of_getElem? ht
        have hall : ([3, 22, 23, 3, 3].all fun u => !Tryd.prog.wantsStandIn u) = true := by kernel_rfl
        exact (show Tryd.prog.wantsStandIn t = false by simpa using List.all_eq_true.1 hall t hm)⟩)
    (by kernel_rfl)
#print axioms proved
end Go.Proofs.YtaddomgjjemglaaDoor.markGrows


/- For all lists BitsBack answers true: what is set, and cleared again, in whatever order, is as it was; and wiped nothing is set. Conditions: the table of math/bits.TrailingZeros64 is as the program's text lays it, which the card ties. -/
import Derived.Test.YtobecefikkgelaaDoorIs
import Derived.Test.YtobecefikkgelaaDoorOwn
import Derived.Test.YtobecefikkgelaaDoorCards
import Derived.Test.YtobecefikkgelaaDoorTie
import Derived.SevenTiedAt
import Derived.Stop.Joined
import Derived.ShutString
namespace Go.Proofs.YtobecefikkgelaaDoor.bitsBack
open Go.ChangeShapes Go.WideShapes Go.ChangeAt Go.RowKit
set_option linter.unusedVariables false

set_option maxHeartbeats 1000000 in
set_option maxRecDepth 100000 in
theorem walk_long (a1 : Option Addr) (len cap : Nat) (a2 : Option Addr) (len2 cap2 : Nat) (w : World) (ht : Tab w) (h : 200 < len) :
    Calls Tryd.prog 5 #[.slice a1 len cap, .slice a2 len2 cap2] w fun e w' => e = .returned (.bool true) ∧ Below w.heap.size w w' := by
  have HT := hide ht
  clear ht
  go_enter Tryd.func5, Tryd.ntmps5
  go_wp2_with fail
  refine (awake_any _ HT.out).mono ?_
  rintro e wa ⟨rfl, ca⟩
  go_wp2_with fail
  refine (awake_any _ (HT.out.chg ca id)).mono ?_
  rintro e wb ⟨rfl, cb⟩
  go_wp2
  go_ret
  exact ⟨rfl, (ca.trans cb).under⟩

set_option maxHeartbeats 1000000 in
set_option maxRecDepth 100000 in
theorem walk_long2 (a1 : Option Addr) (len cap : Nat) (a2 : Option Addr) (len2 cap2 : Nat) (w : World) (ht : Tab w) (h0 : ¬ 200 < len) (h : 200 < len2) :
    Calls Tryd.prog 5 #[.slice a1 len cap, .slice a2 len2 cap2] w fun e w' => e = .returned (.bool true) ∧ Below w.heap.size w w' := by
  have HT := hide ht
  have h1 : decide ((200 : Int) < len) = false := by simp; omega
  clear ht h0
  go_enter Tryd.func5, Tryd.ntmps5
  go_wp2_with fail
  refine (awake_any _ HT.out).mono ?_
  rintro e wa ⟨rfl, ca⟩
  go_wp2_with fail
  refine (awake_any _ (HT.out.chg ca id)).mono ?_
  rintro e wb ⟨rfl, cb⟩
  go_wp2
  go_ret
  exact ⟨rfl, (ca.trans cb).under⟩

/-- S with the first of a list set. -/
def addL (S : Nat → Bool) (xs : List Int) : Nat → Nat → Bool
  | 0 => S
  | k + 1 => upd (addL S xs k) (xs.getD k 0).toNat true
/-- Each is there, and was not set when its turn came. -/
def Fresh (S : Nat → Bool) (xs : List Int) : Prop := ∀ j, j < xs.length → exB 4096 (xs.getD j 0) = true ∧ addL S xs j (xs.getD j 0).toNat = false
theorem addL_snoc (S : Nat → Bool) (xs : List Int) (x : Int) : ∀ k, k ≤ xs.length → addL S (xs ++ [x]) k = addL S xs k
  | 0, _ => rfl
  | k + 1, h => by
    show upd (addL S (xs ++ [x]) k) ((xs ++ [x]).getD k 0).toNat true = upd (addL S xs k) (xs.getD k 0).toNat true
    rw [addL_snoc S xs x k (by omega), List.getD_eq_getElem?_getD, List.getD_eq_getElem?_getD, List.getElem?_append_left (by omega)]
theorem getD_last (xs : List Int) (x : Int) : (xs ++ [x]).getD xs.length 0 = x := by simp [List.getD_eq_getElem?_getD]
theorem getD_first (xs : List Int) (x : Int) {j : Nat} (h : j < xs.length) : (xs ++ [x]).getD j 0 = xs.getD j 0 := by simp [List.getD_eq_getElem?_getD, List.getElem?_append_left h]
theorem Fresh.snoc {S : Nat → Bool} {xs : List Int} (h : Fresh S xs) {x : Int} (h1 : exB 4096 x = true) (h2 : addL S xs xs.length x.toNat = false) : Fresh S (xs ++ [x]) := by
  intro j hj
  rw [List.length_append, List.length_singleton] at hj
  rcases Nat.lt_or_ge j xs.length with h3 | h3
  · rw [getD_first xs x h3, addL_snoc S xs x j (by omega)]
    exact h j h3
  · obtain rfl : j = xs.length := by omega
    rw [getD_last, addL_snoc S xs x _ (Nat.le_refl _)]
    exact ⟨h1, h2⟩
theorem addL_more {S : Nat → Bool} {xs : List Int} {x : Int} (h1 : exB 4096 x = true) : addL S (xs ++ [x]) (xs ++ [x]).length = setI (addL S xs xs.length) 4096 x true := by
  rw [List.length_append, List.length_singleton]
  show upd (addL S (xs ++ [x]) xs.length) ((xs ++ [x]).getD xs.length 0).toNat true = _
  rw [addL_snoc S xs x _ (Nat.le_refl _), getD_last]
  unfold setI
  rw [if_pos h1]
theorem setI_no {S : Nat → Bool} {x : Int} (h : (exB 4096 x && !S x.toNat) = false) : setI S 4096 x true = S := by
  unfold setI
  split
  · rename_i h1
    rw [h1, Bool.true_and] at h
    exact upd_same (by simpa using h)
  · rfl
theorem addL_cnt {S : Nat → Bool} {xs : List Int} {n : Nat} (hn : 4096 = n) (h : Fresh S xs) : ∀ k, k ≤ xs.length → cnt (addL S xs k) n = cnt S n + k
  | 0, _ => rfl
  | k + 1, hk => by
    obtain ⟨h1, h2⟩ := h k (by omega)
    obtain ⟨a, e, ha⟩ := exB_nat h1
    have hc := cnt_on (S := addL S xs k) (T := addL S xs (k + 1)) (i := (xs.getD k 0).toNat) (n := n) (by omega) h2 (upd_at _ _ _) fun j hj => upd_ne hj
    rw [hc, addL_cnt hn h k (by omega)]
    omega
theorem addL_back {S : Nat → Bool} {xs : List Int} (h : Fresh S xs) {k : Nat} (hk : k < xs.length) : hasI (addL S xs (k + 1)) 4096 (xs.getD k 0) = true ∧ setI (addL S xs (k + 1)) 4096 (xs.getD k 0) false = addL S xs k := by
  obtain ⟨h1, h2⟩ := h k hk
  unfold hasI setI
  rw [if_pos h1, h1]
  show (true && upd (addL S xs k) (xs.getD k 0).toNat true _) = true ∧ upd (upd (addL S xs k) (xs.getD k 0).toNat true) _ false = _
  rw [upd_at, upd_upd]
  exact ⟨rfl, upd_same h2⟩

set_option maxHeartbeats 4000000 in
set_option maxRecDepth 100000 in
theorem walk_main (a1 : Option Addr) (len cap : Nat) (zs : List Int) (a2 : Option Addr) (len2 cap2 : Nat) (ys : List Int) (w : World) (ht : Tab w) (h0 : IsRow .u16 w a1 len cap zs) (h1 : IsRow .u16 w a2 len2 cap2 ys) (hlen : len ≤ 200) (hlen2 : len2 ≤ 200) :
    Calls Tryd.prog 5 #[.slice a1 len cap, .slice a2 len2 cap2] w fun e w' => e = .returned (.bool true) ∧ Below w.heap.size w w' := by
  have hl1 : decide ((200 : Int) < len) = false := by simp; omega
  have hl2 : decide ((200 : Int) < len2) = false := by simp; omega
  have HT := hide ht
  have H0 := hide h0
  have H1 := hide h1
  clear ht h0 h1
  obtain ⟨i0, hi0, hz0, hz1, hz2⟩ := info_parts Tryd.infoInt
  have HI := hide hi0
  have HZ0 := hide hz0
  have HZ1 := hide hz1
  have HZ2 := hide hz2
  clear hi0 hz0 hz1 hz2
  go_enter Tryd.func5, Tryd.ntmps5
  go_wp2_with fail
  refine (awake_any _ HT.out).mono ?_
  rintro e wa ⟨rfl, ca⟩
  go_wp2_with fail
  refine (ms_new 4096 _).mono ?_
  rintro e w1 ⟨rfl, hm, c1⟩
  rw [show clamp 4096 = 4096 from rfl] at hm
  have cc := ca.trans c1
  have HG := hide ca.size
  have HP := hide hm.plt
  have HGB := hide hm.glt
  have HB0 := hide cc.size
  generalize wa.heap.size + 1 = p at *
  generalize wa.heap.size = g at *
  obtain ⟨b0, hb0⟩ : ∃ b0, b0 = w1.heap.size := ⟨_, rfl⟩
  have HSZ := hide (Nat.le_of_eq hb0)
  rw [← hb0] at HP HGB HB0
  clear hb0
  clear ca c1
  go_wp2
  go_loopw [29] (fun i wr => ∃ (k : Nat), k ≤ len ∧ i = .int .i64 k ∧ Ms wr p g 4096 (setTo no zs k) ∧ Grow w wr ∧ b0 ≤ wr.heap.size) (fun i _ => len - (intOf i).toNat)
  case atStart => exact ⟨0, Nat.zero_le _, rfl, hm, cc, HSZ.out⟩
  case round =>
    clear hm cc
    obtain ⟨k, hk, rfl, hm, cc, hsz⟩ := hrel
    have HSZ := hide hsz
    clear hsz
    by_cases hlt : k < len
    · obtain ⟨ad, rfl, hcell, hwf⟩ := (H0.out.grow cc).at_ hlt
      have hzz := bounds_u16 hwf
      obtain ⟨S', hS'⟩ : ∃ S', S' = setTo no zs (k + 1) := ⟨_, rfl⟩
      have HS := hide (hS'.trans (show setTo no zs (k + 1) = setI (setTo no zs k) 4096 (zs.getD k 0) true from rfl))
      have HS' := hide hS'
      clear hS'
      generalize setTo no zs k = S at *
      generalize zs.getD k 0 = zk at *
      have vk : IntKind.i64.wrap zk = zk := wrap_i64_id _ (by omega)
      clear hzz hwf
      go_wp2_with fail
      refine (set_is hm rfl HS.out.symm).mono ?_
      rintro e w2 ⟨rfl, hm2, c2⟩
      have cc2 := cc.new HG.out c2
      have HSZ2 := hide (Nat.le_trans HSZ.out c2.size)
      clear c2 hm cc hcell
      go_wp2
      go_roundw
      case rel => exact ⟨k + 1, by omega, by go_num, hm2.at_ HS'.out.symm, cc2, HSZ2.out⟩
      case measure => simp [intOf]; omega
    · obtain rfl : len = k := by omega
      obtain ⟨S, hS⟩ : ∃ S, S = setTo no zs len := ⟨_, rfl⟩
      rw [← hS] at hm
      have HS := hide hS
      obtain ⟨n0, hn0⟩ : ∃ n0, n0 = cnt S 4096 := ⟨_, rfl⟩
      have hn4 : n0 ≤ 4096 := by rw [hn0]; exact cnt_le _ _
      have HN0 := hide hn0
      clear hS hn0
      have HC1 := hide fun W (h : Ms W p g 4096 S) => count_is (v := n0) h (by rw [HN0.out])
      go_wp2_with fail
      refine (HC1.out _ hm).mono ?_
      rintro e w' ⟨rfl, c'⟩
      have HSZ3 := hide (Nat.le_trans HSZ.out c'.size)
      replace hm := hm.grow c'
      replace cc := cc.trans c'
      clear c' HSZ
      go_wp2
      have atS : ∃ xs : List Int, Fresh S xs ∧ xs.length ≤ 0 ∧ Ms w' p g 4096 (addL S xs xs.length) ∧ w'.ownsRow b0 3 1 (.slice none 0 0) xs.length (ints xs) := ⟨[], fun j hj => by simp at hj, Nat.le_refl _, hm, World.ownsRow_nil _ _ _ _⟩
      have AT := hide atS
      clear atS hm
      go_loopw [8, 44] (fun v i wq => ∃ (k : Nat) (xs : List Int), k ≤ len2 ∧ i = .int .i64 k ∧ Fresh S xs ∧ xs.length ≤ k ∧ Ms wq p g 4096 (addL S xs xs.length) ∧ wq.ownsRow b0 3 1 v xs.length (ints xs) ∧ Grow w wq ∧ b0 ≤ wq.heap.size) (fun _ i _ => len2 - (intOf i).toNat)
      case atStart => exact by obtain ⟨xs, q1, q2, q3, q4⟩ := AT.out; exact ⟨0, xs, Nat.zero_le _, rfl, q1, q2, q3, q4, cc, HSZ3.out⟩
      case round =>
        clear cc AT
        obtain ⟨k, xs, hk, rfl, hfr, hxl, hm, hown, cc, hsz⟩ := hrel
        have HFR := hide hfr
        have HXL := hide hxl
        clear hfr hxl
        by_cases hlt : k < len2
        · obtain ⟨ad, rfl, hcell, hwf⟩ := (H1.out.grow cc).at_ hlt
          have hzz := bounds_u16 hwf
          generalize ys.getD k 0 = zk at *
          have vk : IntKind.i64.wrap zk = zk := wrap_i64_id _ (by omega)
          clear hwf
          obtain ⟨T, hT⟩ : ∃ T, T = addL S xs xs.length := ⟨_, rfl⟩
          rw [← hT] at hm
          have HTT := hide hT
          clear hT
          cases hc : (exB 4096 zk && !T zk.toNat) with
          | false =>
            have HS1 := hide fun W (h : Ms W p g 4096 T) => set_is (c := false) (T := T) h hc (setI_no hc)
            have HO := hide hown
            have HSZ := hide hsz
            clear hzz hc hown hsz
            as_aux_lemma =>
            go_wp2_with fail
            refine (HS1.out _ hm).mono ?_
            rintro e w2 ⟨rfl, hm2, c2⟩
            have cc2 := cc.new HG.out c2
            have HO2 := hide (own_chg HO.out c2 fun j hj => by have := (HO.out.lt j hj).1; have := HGB.out; omega)
            have HSZ2 := hide (Nat.le_trans HSZ.out c2.size)
            clear c2 hm cc hcell
            go_wp2
            go_roundw
            case rel => exact ⟨k + 1, xs, by omega, by go_num, HFR.out, Nat.le_succ_of_le HXL.out, hm2.at_ HTT.out.symm, HO2.out, cc2, HSZ2.out⟩
            case measure => simp [intOf]; omega
          | true =>
            have hx : exB 4096 zk = true := by rw [Bool.and_eq_true] at hc; exact hc.1
            have hx2 : T zk.toNat = false := by rw [Bool.and_eq_true] at hc; simpa using hc.2
            have HFR2 := hide (HFR.out.snoc hx (HTT.out ▸ hx2))
            have HAM := hide (addL_more (S := S) (xs := xs) hx)
            have HS1 := hide fun W (h : Ms W p g 4096 T) => set_is (c := true) (T := setI T 4096 zk true) h hc rfl
            have HO := hide hown
            have HSZ := hide hsz
            clear hzz hc hown hsz hx hx2
            as_aux_lemma =>
            go_wp2_with fail
            refine (HS1.out _ hm).mono ?_
            rintro e w2 ⟨rfl, hm2, c2⟩
            have cc2 := cc.new HG.out c2
            have HO2 := hide ((own_chg HO.out c2 fun j hj => by have := (HO.out.lt j hj).1; have := HGB.out; omega).alloc (.cells [.int .i64 zk].toArray 3))
            have HSZ2 := hide (Nat.le_trans HSZ.out c2.size)
            have hcell2 := c2.cell hcell (by
              rw [add_block]
              intro e
              obtain ⟨ad', e', h2, _⟩ := H1.out.at_ hlt
              injection e' with e'
              subst e'
              have := cell_lt h2
              rw [add_block] at this
              have := HG.out
              omega)
            clear c2 hm cc hcell
            have HB := hide (Blk.new w2 3 [.int .i64 zk])
            have HC := hide (cc2.alloc (.cells [.int .i64 zk].toArray 3))
            have HM2 := hide (hm2.grow (Grow.box w2 (.cells [.int .i64 zk].toArray 3)))
            clear hm2
            go_wp2_with (at_builtin; refine wpList_append_own _ rfl _ _ 42 rfl b0 3 i0 (.int .i64 0) 1 8 Tryd.underlying42 HI.out HZ0.out HZ1.out HZ2.out rfl (by decide) _ _ _ rfl HO2.out ⟨w2.heap.size, 0, none⟩ 1 1 [.int .i64 zk] rfl rfl ?c1 ?c2 ?c3 ?c4 ?c5 ?_)
            case c1 => intro j u hj; rw [addr_add, Nat.zero_add, HB.out.cell]; exact hj
            case c2 => intro u hu; simp at hu; subst hu; rfl
            case c3 => have := HXL.out; unfold maxLen; omega
            case c4 => have := HXL.out; omega
            case c5 => rw [World.size_alloc]; have := HSZ2.out; omega
            intro v' w3 hown3 hgrow _
            have HC3 := hide (Chg.grownOwn HC.out HO2.out HB0.out hgrow)
            have HM3 := hide ((HM2.out.chg (Chg.grown (Chg.refl (fun i => b0 ≤ i) _) hgrow fun j _ e => (HO2.out.lt j e).1) (by have := HP.out; omega) (by have := HGB.out; omega)).at_ (HAM.out.trans (by rw [← HTT.out])))
            have HO3 := hide hown3
            have HSZ3 := hide (show b0 ≤ w3.heap.size from Nat.le_trans (Nat.le_trans HSZ2.out (by rw [World.size_alloc]; omega)) hgrow.size)
            clear hgrow hown3 HC HO2 HB hcell2 HM2 cc2
            go_wp2
            go_roundw
            case rel => exact ⟨k + 1, xs ++ [zk], by omega, by go_num, HFR2.out, by rw [List.length_append, List.length_singleton]; exact Nat.succ_le_succ HXL.out, HM3.out, by rw [List.length_append, List.length_singleton]; have := HO3.out; simpa [ints] using this, HC3.out, HSZ3.out⟩
            case measure => simp [intOf]; omega
        · obtain rfl : len2 = k := by omega
          obtain ⟨L, hL⟩ : ∃ L, L = xs.length := ⟨_, rfl⟩
          rw [← hL] at hown hm
          have hL2 : L ≤ 200 := by rw [hL]; exact Nat.le_trans HXL.out hlen2
          have HC2 := hide fun W (h : Ms W p g 4096 (addL S xs L)) => count_is (v := (n0 : Int) + (L : Int)) h (by rw [addL_cnt rfl HFR.out L (Nat.le_of_eq hL), ← HN0.out]; omega)
          have v1 : IntKind.i64.wrap ((n0 : Int) + (L : Int)) = (n0 : Int) + (L : Int) := wrap_i64_id _ (by omega)
          have v2 : IntKind.i64.wrap ((L : Int) - 1) = (L : Int) - 1 := wrap_i64_id _ (by omega)
          have HLL := hide hL
          clear hL HXL
          obtain ⟨oa, ocap, rfl⟩ := own_len hown
          have HO := hide hown
          clear hown hsz
          go_wp2_with fail
          refine (HC2.out _ hm).mono ?_
          rintro e w4 ⟨rfl, c'⟩
          have HO4 := hide (own_grow HO.out c')
          replace hm := hm.grow c'
          replace cc := cc.trans c'
          clear c' HO HC2
          go_wp2
          go_loopw [72] (fun i wq => ∃ (k : Nat), k ≤ L ∧ i = .int .i64 k ∧ Ms wq p g 4096 (addL S xs (L - k)) ∧ wq.ownsRow b0 3 1 (.slice oa L ocap) L (ints xs) ∧ Grow w wq) (fun i _ => L - (intOf i).toNat)
          case atStart => exact ⟨0, Nat.zero_le _, rfl, hm, HO4.out, cc⟩
          case round =>
            clear hm cc HO4
            obtain ⟨k, hk, rfl, hm, hown, cc⟩ := hrel
            by_cases hlt : k < L
            · obtain ⟨og, ocap', e', _, _, hncap, _, hcg⟩ := own_ints hown (by omega)
              injection e' with e1 e2 e3
              subst e1 e3
              obtain ⟨d, hd⟩ : ∃ d, d = L - 1 - k := ⟨_, rfl⟩
              have hcd := hcg d (by omega)
              have v3 : IntKind.i64.wrap ((L : Int) - 1 - (k : Int)) = (d : Int) := by rw [wrap_i64_id _ (by omega)]; omega
              have hd1 : (d : Int) < (L : Int) := by omega
              have hd2 : (0 : Int) ≤ (d : Int) := by omega
              obtain ⟨q1, q2⟩ := addL_back HFR.out (k := d) (by rw [← HLL.out]; omega)
              rw [show L - k = d + 1 by omega] at hm
              have HK := hide (show L - (k + 1) = d by omega)
              generalize xs.getD d 0 = zd at *
              have HCL := hide fun W (h : Ms W p g 4096 (addL S xs (d + 1))) => clear_is (c := true) (T := addL S xs d) h q1 q2
              have HO := hide hown
              clear hcg q1 q2 hown hd
              go_wp2_with fail
              refine (HCL.out _ hm).mono ?_
              rintro e w5 ⟨rfl, hm2, c2⟩
              have cc2 := cc.new HG.out c2
              have HO5 := hide (own_chg HO.out c2 fun j hj => by have := (HO.out.lt j hj).1; have := HGB.out; omega)
              clear c2 hm cc hcd HO
              go_wp2
              go_roundw
              case rel => exact ⟨k + 1, by omega, by go_num, hm2.at_ (by rw [HK.out]), HO5.out, cc2⟩
              case measure => simp [intOf]; omega
            · obtain rfl : L = k := by omega
              rw [Nat.sub_self] at hm
              replace hm := hm.at_ (T := S) rfl
              clear hown
              go_wp2
              go_loopw [89] (fun i wr => ∃ (k : Nat), k ≤ len ∧ i = .int .i64 k ∧ Ms wr p g 4096 S ∧ Grow w wr) (fun i _ => len - (intOf i).toNat)
              case atStart => exact ⟨0, Nat.zero_le _, rfl, hm, cc⟩
              case round =>
                clear hm cc
                obtain ⟨k, hk, rfl, hm, cc⟩ := hrel
                by_cases hlt : k < len
                · obtain ⟨ad, rfl, hcell, hwf⟩ := (H0.out.grow cc).at_ hlt
                  have hzz := bounds_u16 hwf
                  have hh := setTo_has (S := no) (k := len) hlt hzz.1
                  rw [← HS.out] at hh
                  generalize zs.getD k 0 = zk at *
                  have vk : IntKind.i64.wrap zk = zk := wrap_i64_id _ (by omega)
                  by_cases hz4 : zk < 4096
                  · have hzl : decide (zk < 4096) = true := decide_eq_true hz4
                    rw [hzl] at hh
                    have HH := hide fun W (h : Ms W p g 4096 S) => has_is (i := zk) h hh
                    have HM := hide hm
                    clear hzz hwf hh
                    go_wp2_with fail
                    refine wp_region_grow (by kernel_rfl) (by kernel_rfl) ?_
                    repeat (
                      with_reducible refine wpQuiet_step ?_
                      intro K hK
                      first
                        | ((with_reducible refine quiet_offT rfl ?_ (hK _ ?_)); focus (refine ⟨_, rfl, ?_⟩; with_reducible rfl))
                        | ((with_reducible refine quiet_offF rfl ?_ (hK _ ?_)); focus (refine ⟨_, rfl, ?_⟩; with_reducible rfl))
                        | ((with_reducible refine quiet_offN rfl ?_ (hK _ ?_)); focus (exact rfl))
                        | ((first | with_reducible refine quiet_free rfl ?_ | ((with_reducible refine quiet_on rfl ?_ ?_); focus (refine ⟨_, rfl, ?_⟩; with_reducible rfl)))
                           apply Exists.intro
                           refine ⟨fun W hW => ?_, hK _ ?_⟩
                           focus (have q0 := Grow.cell hW hcell; go_simp; first | done | with_reducible rfl | (go_at_call 16; (first | with_reducible exact grown_call hW (HH.out _ (HM.out.grow hW)) | with_reducible exact grown_same hW (HH.out _ (HM.out.grow hW))))))
                      clear hK K
                      simp only [Act.put, List.setIfInBounds_toArray, List.set_cons_zero, List.set_cons_succ])
                    with_reducible refine wpQuiet_nil ?_
                    intro wb cb
                    replace hm := HM.out.grow cb
                    replace cc := cc.trans cb
                    clear HM cb hcell
                    go_wp2
                    go_roundw
                    case rel => exact ⟨k + 1, by omega, by go_num, hm, cc⟩
                    case measure => simp [intOf]; omega
                  · have hzl : decide (zk < 4096) = false := decide_eq_false hz4
                    rw [hzl] at hh
                    have HH := hide fun W (h : Ms W p g 4096 S) => has_is (i := zk) h hh
                    have HM := hide hm
                    clear hzz hwf hh
                    go_wp2_with fail
                    refine wp_region_grow (by kernel_rfl) (by kernel_rfl) ?_
                    repeat (
                      with_reducible refine wpQuiet_step ?_
                      intro K hK
                      first
                        | ((with_reducible refine quiet_offT rfl ?_ (hK _ ?_)); focus (refine ⟨_, rfl, ?_⟩; with_reducible rfl))
                        | ((with_reducible refine quiet_offF rfl ?_ (hK _ ?_)); focus (refine ⟨_, rfl, ?_⟩; with_reducible rfl))
                        | ((with_reducible refine quiet_offN rfl ?_ (hK _ ?_)); focus (exact rfl))
                        | ((first | with_reducible refine quiet_free rfl ?_ | ((with_reducible refine quiet_on rfl ?_ ?_); focus (refine ⟨_, rfl, ?_⟩; with_reducible rfl)))
                           apply Exists.intro
                           refine ⟨fun W hW => ?_, hK _ ?_⟩
                           focus (have q0 := Grow.cell hW hcell; go_simp; first | done | with_reducible rfl | (go_at_call 16; (first | with_reducible exact grown_call hW (HH.out _ (HM.out.grow hW)) | with_reducible exact grown_same hW (HH.out _ (HM.out.grow hW))))))
                      clear hK K
                      simp only [Act.put, List.setIfInBounds_toArray, List.set_cons_zero, List.set_cons_succ])
                    with_reducible refine wpQuiet_nil ?_
                    intro wb cb
                    replace hm := HM.out.grow cb
                    replace cc := cc.trans cb
                    clear HM cb hcell
                    go_wp2
                    go_roundw
                    case rel => exact ⟨k + 1, by omega, by go_num, hm, cc⟩
                    case measure => simp [intOf]; omega
                · obtain rfl : len = k := by omega
                  have HZ := hide fun W (h : Ms W p g 4096 no) => count_is (v := 0) h (by rw [cnt_no]; rfl)
                  have HX := hide fun W (h : Ms W p g 4096 no) ht => next_is (i := 0) (v := -1) h ht (nx_no _ _)
                  have HWI := hide fun W (h : Ms W p g 4096 S) => ms_wipe h
                  go_wp2_with fail
                  refine (HC1.out _ hm).mono ?_
                  rintro e w' ⟨rfl, c'⟩
                  replace hm := hm.grow c'
                  replace cc := cc.trans c'
                  clear c'
                  go_wp2_with fail
                  refine (HWI.out _ hm).mono ?_
                  rintro e w' ⟨rfl, hm', c'⟩
                  clear hm
                  have hm := hm'
                  replace cc := cc.new HG.out c'
                  clear hm' c'
                  go_wp2_with fail
                  refine (HZ.out _ hm).mono ?_
                  rintro e w' ⟨rfl, c'⟩
                  replace hm := hm.grow c'
                  replace cc := cc.trans c'
                  clear c'
                  go_wp2_with fail
                  refine (HX.out _ hm (HT.out.chg cc id)).mono ?_
                  rintro e w' ⟨rfl, c'⟩
                  replace hm := hm.grow c'
                  replace cc := cc.trans c'
                  clear c'
                  go_wp2
                  go_ret
                  exact ⟨rfl, cc.under⟩

theorem walk (a1 : Option Addr) (len cap : Nat) (zs : List Int) (a2 : Option Addr) (len2 cap2 : Nat) (ys : List Int) (w : World) (ht : Tab w) (h0 : IsRow .u16 w a1 len cap zs) (h1 : IsRow .u16 w a2 len2 cap2 ys) :
    Calls Tryd.prog 5 #[.slice a1 len cap, .slice a2 len2 cap2] w fun e w' => e = .returned (.bool true) ∧ Below w.heap.size w w' := by
  by_cases h : 200 < len
  · exact walk_long a1 len cap a2 len2 cap2 w ht h
  · by_cases h2 : 200 < len2
    · exact walk_long2 a1 len cap a2 len2 cap2 w ht h h2
    · exact walk_main a1 len cap zs a2 len2 cap2 ys w ht h0 h1 (by omega) (by omega)

theorem own : ownKnob Tryd.prog.godebug = none := by kernel_rfl
theorem laidOut : laidOutB Tryd.prog = true := by kernel_rfl
theorem door_met (os : Os) (args : Array Value) : laidMetH Tryd.prog Rows.bitsBackRow.laid ((World.doorLaid Tryd.prog 400 os).forCall (fun _ _ => 0) ⟨#[], args, []⟩).memory :=
  laidMetH_of_parts3 (fuel := 8) (laidMet_of_run' 8 (by kernel_rfl) (by kernel_rfl)) (by kernel_rfl) (by kernel_rfl)

set_option maxRecDepth 100000 in
theorem lifted (os : Os) (started : os.Started) (H : Type) (enc : TypeId × Value → H) :
    ReturnsInHanded {} Tryd.checked os 5 .any (fun w args => (Rows.bitsBackSpec.pre enc Tryd.prog Tryd.f5 [] false w args ∧ laidMetH Tryd.prog Rows.bitsBackRow.laid w) ∧ sizedMet enc Tryd.prog Tryd.f5 (OpenSpec.ofChange Rows.bitsBackSpec) false w args) (Rows.bitsBackSpec.post enc Tryd.prog Tryd.f5 false true false false) := by
  refine returnsInHanded_of_change_and (C := Tryd.checked) (X := fun w _ => laidMetH Tryd.prog Rows.bitsBackRow.laid w) (fun _ _ _ hh h => h.of_heap hh) own started (by kernel_rfl) Tryd.func5
    (ChangeSpec.witness_shaped (enc := enc) (C := Tryd.checked) (os := os) (X := fun w _ => laidMetH Tryd.prog Rows.bitsBackRow.laid w) false (World.doorLaid Tryd.prog 400 os) #[.slice none 0 0, .slice none 0 0] 8 rfl (World.shaped_of_RefB (by kernel_rfl) (by kernel_rfl)) (by kernel_rfl) (by kernel_rfl) (by kernel_rfl) (door_met os _)) ?_
  intro W base args ds gs before hval0 hW _ _ hL _
  have hval : ∀ (j : Nat) t v, Tryd.f5.params[j]? = some t → args[j]? = some v → Value.okWide Tryd.prog W .any base t v := hval0
  have hW' := hW
  obtain ⟨p, q, hA0, hV, rfl, hfz, hnd⟩ := hW
  have hA : DataW.TrodAll enc Tryd.prog W 0 (fun _ => true) true Tryd.f5.params.toList args.toList ds p := hA0
  rw [Tryd.params5] at hA hval
  obtain ⟨v0, vs0, d0, ds0, p0, q0, hargs, rfl, rfl, h0, r0⟩ := trodAll_cons hA
  obtain ⟨v1, vs1, d1, ds1, p1, q1, rfl, rfl, rfl, h1, r1⟩ := trodAll_cons r0
  obtain ⟨rfl, rfl, rfl⟩ := trodAll_nil r1
  obtain rfl : args = #[v0, v1] := by cases args; simp_all
  obtain ⟨rfl, rfl⟩ := trodVars_none hV
  obtain ⟨a0, len0, cap0, rfl⟩ := okWide_slice Tryd.underlying39 (hval 0 39 v0 rfl rfl)
  have k0 := h0
  have lt0 : ∀ x ∈ p0, x.block < W.heap.size := by obtain ⟨m, hm⟩ := k0; exact DataW.trod_lt m _ _ _ hm
  obtain ⟨z0, w0⟩ : ∃ zs, IsRow .u16 W a0 len0 cap0 zs := open_row Tryd.underlying39 Tryd.underlying40 (by kernel_rfl) h0
  obtain ⟨a1, len1, cap1, rfl⟩ := okWide_slice Tryd.underlying39 (hval 1 39 v1 rfl rfl)
  have k1 := h1
  have lt1 : ∀ x ∈ p1, x.block < W.heap.size := by obtain ⟨m, hm⟩ := k1; exact DataW.trod_lt m _ _ _ hm
  obtain ⟨z1, w1⟩ : ∃ zs, IsRow .u16 W a1 len1 cap1 zs := open_row Tryd.underlying39 Tryd.underlying40 (by kernel_rfl) h1
  clear hA0 hval0
  refine (walk a0 len0 cap0 z0 a1 len1 cap1 z1 W (tab_of_laid hL) w0 w1).mono fun e W' ⟨he, bel⟩ => ?_
  subst he
  exact ⟨_, rfl, _, _, _, [], _, [], hW', trodAll_mk1 (shut_bool Tryd.underlying4 _), (trodAll_cons_mk (Below.trod laidOut (by kernel_rfl) (of_decide_eq_true (by kernel_rfl)) k0 bel lt0) (trodAll_cons_mk (Below.trod laidOut (by kernel_rfl) (of_decide_eq_true (by kernel_rfl)) k1 bel lt1) trodAll_mk0)), rfl, bel.frame _, fun h => by cases h⟩

theorem over : Rows.bitsBackRow.holds Tryd.pinned (OpenSpec.ofChange Rows.bitsBackSpec) :=
  OpenClaim.holds_of_wide 5 Tryd.f5 rfl rfl rfl rfl rfl rfl rfl ⟨rfl, rfl, rfl, rfl, rfl⟩ rfl rfl rfl rfl rfl (by kernel_rfl) Tryd.func5 (by kernel_rfl)
    (of_decide_eq_true (by kernel_rfl)) (by unfold Func.isWrapper; first | (rw [if_pos (by decide +kernel)]; kernel_rfl) | (rw [if_neg (by decide +kernel)]; exact ⟨rfl, rfl⟩))
    (fun os started H enc _ => lifted os started H enc)

/-- The statement. -/
theorem proved : Rows.BitsBackCardSaid :=
  Claim7.holds_tied_plain_at .later [] [.data] true Rows.bitsBackCard.stood.harness false
    over (fun _ h => by cases h) (by kernel_rfl) (fun _ h => by cases h) bitsBack_row_tie rfl ⟨rfl, rfl⟩ (by kernel_rfl) rfl
    (fun f fn hf hfn => by
      obtain rfl : f = 5 := Option.some.inj ((show Tryd.prog.funcNamed "gleaning/gleaninglaw03.BitsBack" = some 5 by kernel_rfl).symm.trans hf) |>.symm
      obtain rfl : fn = Tryd.f5 := (Option.some.inj (Tryd.func5.symm.trans hfn)).symm
      exact ⟨by kernel_rfl, fun j t ht => by
        rw [Tryd.params5] at ht
        have hm : t ∈ [39, 39] := by simpa using Array.mem_of_getElem? ht
        have hall : ([39, 39].all fun u => !Tryd.prog.wantsStandIn u) = true := by kernel_rfl
        exact (show Tryd.prog.wantsStandIn t = false by simpa using List.all_eq_true.1 hall t hm)⟩)
    (by kernel_rfl)
#print axioms proved
end Go.Proofs.YtobecefikkgelaaDoor.bitsBack


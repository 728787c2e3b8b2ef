/- For all bounds and lists of addresses CardTakes answers true: taken one by one all dirty cards come, rising, none twice, and each address that was touched lies in one of them. Conditions: the table of math/bits.TrailingZeros64 is as the program's text lays it, which the card ties. -/
import Derived.Test.YtbigdgabjjpffaaDoorL7Sta
import Derived.Test.YtbigdgabjjpffaaDoorCards
import Derived.Test.YtbigdgabjjpffaaDoorTie
import Derived.SevenTiedAt
import Derived.Stop.Joined
import Derived.ShutString
namespace Go.Proofs.YtbigdgabjjpffaaDoor.cardTakes
open Go.ChangeShapes Go.WideShapes Go.ChangeAt Go.RowKit Go.Proofs.YtbigdgabjjpffaaDoor.L3 Go.Proofs.YtbigdgabjjpffaaDoor.L7
set_option linter.unusedVariables false

set_option maxHeartbeats 1000000 in
set_option maxRecDepth 100000 in
theorem walk_long (f t : Int) (a2 : Option Addr) (len cap : Nat) (w : World) (ht : Tab w) (h : 200 < len) :
    Calls Tryd.prog 4 #[.int .u16 f, .int .u16 t, .slice a2 len cap] w fun e w' => e = .returned (.bool true) ∧ Below w.heap.size w w' := by
  have HT := hide ht
  clear ht
  go_enter Tryd.func4, Tryd.ntmps4
  go_wp2_with fail
  refine (awake_any _ HT.out).mono ?_
  rintro e wa ⟨rfl, ca⟩
  go_wp2_with fail
  refine (awake_any _ (HT.out.chg ca id)).mono ?_
  rintro e wb ⟨rfl, cb⟩
  go_wp2
  go_ret
  exact ⟨rfl, (ca.trans cb).under⟩

set_option maxHeartbeats 8000000 in
set_option maxRecDepth 100000 in
theorem walk_main (f t : Int) (a2 : Option Addr) (len cap : Nat) (zs : List Int) (w : World) (ht : Tab w) (b0 : 0 ≤ f ∧ f ≤ 65535) (b1 : 0 ≤ t ∧ t ≤ 65535) (h0 : IsRow .u16 w a2 len cap zs) (hlen : len ≤ 200) :
    Calls Tryd.prog 4 #[.int .u16 f, .int .u16 t, .slice a2 len cap] w fun e w' => e = .returned (.bool true) ∧ Below w.heap.size w w' := by
  have hlen' : decide ((200 : Int) < len) = false := by simp; omega
  obtain ⟨i0, hi0, hz0, hz1, hz2⟩ := info_parts Tryd.infoInt
  have HI := hide hi0
  have HZ0 := hide hz0
  have HZ1 := hide hz1
  have HZ2 := hide hz2
  have HT := hide ht
  have H0 := hide h0
  have v0 : IntKind.i64.wrap f = f := wrap_i64_id _ (by omega)
  have v1 : IntKind.i64.wrap t = t := wrap_i64_id _ (by omega)
  obtain ⟨tm, htm⟩ : ∃ tm, min t 4096 = tm := ⟨_, rfl⟩
  have hmn : ∀ ts ty W, (Builtin.min_ ts ty #[.int .i64 t, .int .i64 4096]).run Tryd.prog W = .ok (.int .i64 tm) W := fun ts ty W => by
    rw [run_min_int2, ← htm]; congr 2; split <;> omega
  have HMN := hide hmn
  have hin : ∀ z : Int, inn (clamp f) (tob f t) z = (decide (f ≤ z) && decide (z < tm)) := fun z => by rw [← htm]; exact law_inn b0.1 b1.1
  obtain ⟨F, hF⟩ : ∃ F, clamp f = F := ⟨_, rfl⟩
  obtain ⟨T, hTT⟩ : ∃ T, tob f t = T := ⟨_, rfl⟩
  rw [hF, hTT] at hin
  have HIN := hide hin
  have HFF := hide (show f ≤ 4096 → f = (F : Int) by rw [← hF]; unfold clamp; omega)
  clear ht h0 b0 b1 hi0 hz0 hz1 hz2 hmn hin htm
  go_enter Tryd.func4, Tryd.ntmps4
  go_wp2_with fail
  refine (awake_any _ HT.out).mono ?_
  rintro e wa ⟨rfl, ca⟩
  go_wp2_with fail
  refine (tb_new f t _ hF hTT).mono ?_
  rintro e w1 ⟨p, m, g, rfl, hm, hp, hmm, hg, c1⟩
  have HG := hide (Nat.le_trans ca.size hg)
  have HL1 := hide (show p < w1.heap.size ∧ m < w1.heap.size ∧ g < w1.heap.size from ⟨hm.plt, hm.mlt, hm.glt⟩)
  have cc := ca.trans c1
  have HW1 := hide cc.size
  have hsz := Nat.le_refl w1.heap.size
  obtain ⟨bo, hbo⟩ : ∃ bo, bo = w1.heap.size := ⟨_, rfl⟩
  rw [← hbo] at HL1 HW1
  have hsz : bo ≤ w1.heap.size := Nat.le_of_eq hbo
  clear ca c1 hp hmm hg hF hTT hbo
  obtain ⟨z, hz⟩ : ∃ z : Nat → Int, z = fun j => zs.getD j 0 := ⟨_, rfl⟩
  have HZ := hide hz
  clear hz
  go_wp2
  go_loopw [8, 35] (fun v i wr => ∃ (k : Nat), k ≤ len ∧ i = .int .i64 k ∧ Ct wr p m g F T (tos F T z k) ∧ wr.ownsRow bo 3 1 v (xsOf F T z k).length (ints (xsOf F T z k)) ∧ bo ≤ wr.heap.size ∧ Grow w wr) (fun _ i _ => len - (intOf i).toNat)
  case atStart => exact ⟨0, Nat.zero_le _, rfl, hm, World.ownsRow_nil _ _ _ _, hsz, cc⟩
  case round =>
    clear hm cc hsz
    obtain ⟨k, hk, rfl, hm, hown, hsz, cc⟩ := hrel
    by_cases hlt : k < len
    · obtain ⟨ad, rfl, hcell, hwf⟩ := (H0.out.grow cc).at_ hlt
      have hzz := bounds_u16 hwf
      have hz1 : zs.getD k 0 = z k := by rw [HZ.out]
      rw [hz1] at hcell hzz
      have HS := hide (show tset (tos F T z k) F T (z k) = tos F T z (k + 1) from rfl)
      have HX := hide (show xsOf F T z (k + 1) = xsOf F T z k ++ if inn F T (z k) then [z k] else [] from rfl)
      have hxl := xsOf_len F T z k
      obtain ⟨S1, hS1⟩ : ∃ S1, tos F T z (k + 1) = S1 := ⟨_, rfl⟩
      rw [hS1] at HS
      have HS1 := hide hS1
      have hq := HIN.out (z k)
      have HIS : Hid (isd S1 F T (z k) = inn F T (z k)) := hide (by
        rw [← HS.out]
        cases h : inn F T (z k) with
        | false => exact isd_off h
        | true => rw [isd_on h, tset_on h, upd_at])
      generalize tos F T z k = S at *
      generalize xsOf F T z k = xs at *
      generalize z k = zk at *
      have u4 : IntKind.i64.wrap zk = zk := wrap_i64_id _ (by omega)
      have HXL := hide (show xs.length ≤ 200 by omega)
      have HO := hide hown
      have HSZ := hide hsz
      clear hwf hzz hz1 hS1 hxl hown hsz
      by_cases k1 : f ≤ zk
      · have q1 : decide (zk ≥ f) = true := by simpa using k1
        by_cases k2 : zk < tm
        · have q2 : decide (zk < tm) = true := by simpa using k2
          have hi : inn F T zk = true := by rw [hq, q2, decide_eq_true k1]; rfl
          clear hq
          as_aux_lemma =>
          go_wp2_with fail
          refine (tb_touch hm zk rfl HS.out).mono ?_
          rintro e w2 ⟨rfl, h', c'⟩
          replace hm := h'
          replace cc := cc.new HG.out c'
          have HO2 := hide (own_chg HO.out c' fun j hj e => by have := (HO.out.lt j hj).1; have := HL1.out; omega)
          have HSZ2 := hide (Nat.le_trans HSZ.out c'.size)
          clear h' c' hcell HO HSZ
          have hmn := HMN.out
          go_wp2_with fail
          refine (tb_dirty hm zk (c := true) (HIS.out.trans hi)).mono ?_
          rintro e w3 ⟨rfl, c'⟩
          replace hm := hm.grow c'
          replace cc := cc.trans c'
          have HO3 := hide (own_grow HO2.out c')
          have HSZ3 := hide (Nat.le_trans HSZ2.out c'.size)
          clear c' HO2 HSZ2
          go_wp2_with fail
          refine (tb_dirty hm zk (c := true) (HIS.out.trans hi)).mono ?_
          rintro e w4 ⟨rfl, c'⟩
          replace hm := hm.grow c'
          replace cc := cc.trans c'
          have HO4 := hide (own_grow HO3.out c')
          have HSZ4 := hide (Nat.le_trans HSZ3.out c'.size)
          clear c' HO3 HSZ3 hmn
          have hcl := HO4.out.alloc (.cells [.int .i64 zk].toArray 3)
          have HOA := hide hcl
          have HBK := hide (Blk.new w4 3 [.int .i64 zk])
          have HC := hide (cc.alloc (.cells [.int .i64 zk].toArray 3))
          have HM := hide (hm.grow (Grow.box w4 (.cells [.int .i64 zk].toArray 3)))
          clear hcl cc hm
          go_wp2_with (at_builtin; refine wpList_append_own _ rfl _ _ 33 rfl bo 3 i0 (.int .i64 0) 1 8 Tryd.underlying33 HI.out HZ0.out HZ1.out HZ2.out rfl (by decide) _ _ _ rfl HOA.out ⟨w4.heap.size, 0, none⟩ 1 1 [.int .i64 zk] rfl rfl ?c1 ?c2 ?c3 ?c4 ?c5 ?_)
          case c1 => intro j u hj; rw [addr_add, Nat.zero_add, HBK.out.cell]; exact hj
          case c2 => intro u hu; simp at hu; subst hu; rfl
          case c3 => have := HXL.out; unfold maxLen; omega
          case c4 => have := HXL.out; omega
          case c5 => rw [World.size_alloc]; have := HSZ4.out; omega
          intro v' w6 hown3 hgrow _
          have HC6 := hide (Chg.grownOwn HC.out HOA.out (show w.heap.size ≤ bo from HW1.out) hgrow)
          have HM6 := hide (HM.out.chg (Chg.grown (Chg.refl (fun i => bo ≤ i) _) hgrow fun j _ e => (HOA.out.lt j e).1) (by have := HL1.out; omega) (by have := HL1.out; omega) (by have := HL1.out; omega))
          have HO6 := hide hown3
          have HSZ6 := hide (show bo ≤ w6.heap.size from Nat.le_trans (Nat.le_trans HSZ4.out (by rw [World.size_alloc]; omega)) hgrow.size)
          clear hgrow hown3 HC HOA HBK HM
          go_wp2
          go_roundw
          case rel => exact ⟨k + 1, by omega, by go_num, HM6.out.at_ HS1.out, by rw [HX.out, hi, if_pos rfl, List.length_append, List.length_singleton]; have := HO6.out; simpa [ints] using this, HSZ6.out, HC6.out⟩
          case measure => simp [intOf]; omega
        · have q2 : decide (zk < tm) = false := by simpa using k2
          have hi : inn F T zk = false := by rw [hq, q2, Bool.and_false]
          clear hq
          as_aux_lemma =>
          go_wp2_with fail
          refine (tb_touch hm zk rfl HS.out).mono ?_
          rintro e w2 ⟨rfl, h', c'⟩
          replace hm := h'
          replace cc := cc.new HG.out c'
          have HO2 := hide (own_chg HO.out c' fun j hj e => by have := (HO.out.lt j hj).1; have := HL1.out; omega)
          have HSZ2 := hide (Nat.le_trans HSZ.out c'.size)
          clear h' c' hcell HO HSZ
          have hmn := HMN.out
          go_wp2_with fail
          refine (tb_dirty hm zk (c := false) (HIS.out.trans hi)).mono ?_
          rintro e w3 ⟨rfl, c'⟩
          replace hm := hm.grow c'
          replace cc := cc.trans c'
          have HO3 := hide (own_grow HO2.out c')
          have HSZ3 := hide (Nat.le_trans HSZ2.out c'.size)
          clear c' HO2 HSZ2
          go_wp2_with fail
          refine (tb_dirty hm zk (c := false) (HIS.out.trans hi)).mono ?_
          rintro e w4 ⟨rfl, c'⟩
          replace hm := hm.grow c'
          replace cc := cc.trans c'
          have HO4 := hide (own_grow HO3.out c')
          have HSZ4 := hide (Nat.le_trans HSZ3.out c'.size)
          clear c' HO3 HSZ3 hmn
          go_wp2
          go_roundw
          case rel => exact ⟨k + 1, by omega, by go_num, hm.at_ HS1.out, by rw [HX.out, hi, if_neg (by simp), List.append_nil]; exact HO4.out, HSZ4.out, cc⟩
          case measure => simp [intOf]; omega
      · have q1 : decide (zk ≥ f) = false := by simpa using k1
        have hi : inn F T zk = false := by rw [hq, decide_eq_false k1, Bool.false_and]
        clear hq
        as_aux_lemma =>
        go_wp2_with fail
        refine (tb_touch hm zk rfl HS.out).mono ?_
        rintro e w2 ⟨rfl, h', c'⟩
        replace hm := h'
        replace cc := cc.new HG.out c'
        have HO2 := hide (own_chg HO.out c' fun j hj e => by have := (HO.out.lt j hj).1; have := HL1.out; omega)
        have HSZ2 := hide (Nat.le_trans HSZ.out c'.size)
        clear h' c' hcell HO HSZ
        have hmn := HMN.out
        go_wp2_with fail
        refine (tb_dirty hm zk (c := false) (HIS.out.trans hi)).mono ?_
        rintro e w3 ⟨rfl, c'⟩
        replace hm := hm.grow c'
        replace cc := cc.trans c'
        have HO3 := hide (own_grow HO2.out c')
        have HSZ3 := hide (Nat.le_trans HSZ2.out c'.size)
        clear c' HO2 HSZ2
        go_wp2_with fail
        refine (tb_dirty hm zk (c := false) (HIS.out.trans hi)).mono ?_
        rintro e w4 ⟨rfl, c'⟩
        replace hm := hm.grow c'
        replace cc := cc.trans c'
        have HO4 := hide (own_grow HO3.out c')
        have HSZ4 := hide (Nat.le_trans HSZ3.out c'.size)
        clear c' HO3 HSZ3 hmn
        go_wp2
        go_roundw
        case rel => exact ⟨k + 1, by omega, by go_num, hm.at_ HS1.out, by rw [HX.out, hi, if_neg (by simp), List.append_nil]; exact HO4.out, HSZ4.out, cc⟩
        case measure => simp [intOf]; omega
    · obtain rfl : len = k := by omega
      obtain ⟨S, hS⟩ : ∃ S, tos F T z len = S := ⟨_, rfl⟩
      obtain ⟨xs, hxs⟩ : ∃ xs, xsOf F T z len = xs := ⟨_, rfl⟩
      have HXI := hide (show ∀ i, i < xs.length → inn F T (xs.getD i 0) = true ∧ S (cd F (xs.getD i 0)) = true from fun i hi => by rw [← hxs, ← hS]; exact xsOf_in (by rw [hxs]; exact hi))
      have HTL := hide (show ∀ c, S c = true → c < nc F T by intro c h; rw [← hS] at h; exact tos_tail h)
      have HSF := hide (show ∀ c, S c = true → f = (F : Int) from fun c h => HFF.out (by
        rw [← hS] at h
        obtain ⟨j, _, h2, _⟩ := tos_iff.1 h
        have h3 := HIN.out (z j)
        rw [h2] at h3
        have h4 := h3.symm
        rw [Bool.and_eq_true, decide_eq_true_eq] at h4
        simp only [inn, decide_eq_true_eq] at h2
        have := hm.t4
        omega))
      have hxl := xsOf_len F T z len
      rw [hS] at hm
      rw [hxs] at hown hxl
      clear hS hxs
      obtain ⟨M, hM⟩ : ∃ M, xs.length = M := ⟨_, rfl⟩
      rw [hM] at hown hxl HXI
      obtain ⟨oa, ocap, rfl⟩ := own_len hown
      obtain ⟨l, hl⟩ : ∃ l, cds S F (nc F T) = l := ⟨_, rfl⟩
      obtain ⟨L, hL⟩ : ∃ L, l.length = L := ⟨_, rfl⟩
      have hcn : cnt S (nc F T) = L := by rw [← hL, ← hl, cds_len]
      have hL4 : L ≤ 4096 := by have h1 := cnt_le S (nc F T); have h2 := hm.n4; omega
      have HLL := hide hl
      have HCN := hide hcn
      have HL := hide hL
      have HO := hide hown
      have HSZ := hide hsz
      clear hl hL hcn hown hk hlt hM
      go_wp2_with fail
      refine (tb_all hm (HT.out.chg cc id) HLL.out).mono ?_
      rintro e w3 ⟨v, rfl, hown, c'⟩
      rw [HL.out] at hown
      obtain ⟨va, vcap, rfl⟩ := own_len hown
      have HV := hide (own_base hown (show bo ≤ wr.heap.size from HSZ.out))
      have HO3 := hide (own_grow HO.out c')
      have HSZ3 := hide (Nat.le_trans HSZ.out c'.size)
      replace hm := hm.grow c'
      replace cc := cc.trans c'
      clear hown c' HO HSZ hsz
      have hmk := mk_bools M (by omega)
      have HB4 := hide (Blk.new w3 4 (bls (List.replicate M false)))
      have HRO := hide (Ro.of_own (G := fun i => i = g ∨ i = w3.heap.size) HO3.out (fun i hi => by have := HL1.out; have := HSZ3.out; omega))
      have HRV := hide (Ro.of_own (G := fun i => i = g ∨ i = w3.heap.size) HV.out (fun i hi => by have := HL1.out; have := HSZ3.out; omega))
      have HST := hide (show Sta w (w3.alloc (.cells (bls (List.replicate M false)).toArray 4)) p m g F T (suf S 0) oa M xs va L l w3.heap.size (List.replicate M false) from
        ⟨(hm.grow (Grow.box w3 _)).at_ (suf_zero S), HRO.out.chg (Grow.box w3 _) (fun _ h => h.elim), HRV.out.chg (Grow.box w3 _) (fun _ h => h.elim), HB4.out,
          by have := HL1.out; have := HSZ3.out; omega, by have := HL1.out; have := HSZ3.out; omega, by have := HL1.out; have := HSZ3.out; omega, HG.out, cc.size, cc.alloc _⟩)
      clear HB4 HRO HRV HO3 HV hm cc HSZ3 HL1 HW1
      go_wp2_with fail
      generalize w3.alloc (.cells (bls (List.replicate M false)).toArray 4) = w4 at *
      generalize w3.heap.size = H at *
      refine (tk_any HST.out (HT.out.chg HST.out.cc id) (Nat.zero_le _) HCN.out HTL.out).mono ?_
      rintro e w5 ⟨x, y, ok, rfl, hnx, hst⟩
      have hbs : ∀ i, i < M → (List.replicate M false).getD i false = decide (cnt S (cd F (xs.getD i 0)) < 0) := fun i hi => by simp [List.getD_eq_getElem?_getD, hi]
      have hbl : (List.replicate M false).length = M := List.length_replicate
      have hlast : ∀ c, S c = true → 0 ≤ cnt S c → f ≤ ((F + 16 * c : Nat) : Int) := fun c hc _ => by have := HSF.out c hc; omega
      clear HST hmk
      go_wp2
      go_loopw [12, 13, 15, 16, 17] (fun la n a b o wr => ∃ (j : Nat) (lst : Int) (x y : Nat) (ok : Bool) (bs : List Bool), j ≤ L ∧ la = .int .i64 lst ∧ n = .int .i64 j ∧ a = .int .i64 x ∧ b = .int .i64 y ∧ o = .bool ok ∧ Nx S F T L j x y ok ∧ Sta w wr p m g F T (suf S (j + 1)) oa M xs va L l H bs ∧ bs.length = M ∧ (∀ i, i < M → bs.getD i false = decide (cnt S (cd F (xs.getD i 0)) < j)) ∧ (∀ c, S c = true → j ≤ cnt S c → lst ≤ ((F + 16 * c : Nat) : Int))) (fun _ n _ _ _ _ => L - (intOf n).toNat)
      case atStart => exact ⟨0, f, x, y, ok, _, Nat.zero_le _, rfl, rfl, rfl, rfl, rfl, hnx, hst, hbl, hbs, hlast⟩
      case round =>
        clear hnx hst hbs hbl hlast
        obtain ⟨j, lst, x, y, ok, bs, hj, rfl, rfl, rfl, rfl, rfl, hnx, hst, hbl, hbs, hlast⟩ := hrel
        rcases hnx with ⟨hjL, rfl, c, c1, c2, c3, hx, hy⟩ | ⟨rfl, rfl, rfl, rfl⟩
        · have ht4 := hst.ct.t4
          have hnc := c1
          unfold nc at hnc
          have hlx : lst ≤ (x : Int) := by rw [hx]; exact hlast c c2 (by omega)
          have hxT : x < T := by omega
          obtain ⟨i1, i2⟩ := inn_first (f := F) (T := T) c1
          rw [← hx] at i1 i2
          have HCL := hide (cds_get (f := F) (nc F T) c1 c2)
          rw [HLL.out, c3, ← hx] at HCL
          have q1 : decide ((x : Int) < lst) = false := by simp; omega
          have q2 : decide ((y : Int) ≤ (x : Int)) = false := by simp; omega
          have u7 : IntKind.i64.wrap ((y : Int) - (x : Int)) = (y : Int) - (x : Int) := wrap_i64_id _ (by omega)
          have q3 : decide ((y : Int) - (x : Int) > 16) = false := by simp; omega
          have q4 : decide ((j : Int) ≥ (L : Int)) = false := by simp; omega
          have q5 : ((x : Int) != (x : Int)) = false := by simp
          have q6 : (j : Int) < (L : Int) := by omega
          have n1 : x < y := by omega
          have n2 : j < L := hjL
          have n3 : decide (y ≤ x) = false := by simp; omega
          have n4 : decide (j < L) = true := by simp; omega
          have HD := hide (show isd (suf S (j + 1)) F T (x : Int) = false by
            rw [isd_on i1, i2]
            unfold suf
            rw [c3, decide_eq_false (Nat.not_succ_le_self j), Bool.and_false])
          have HY := hide (show y ≤ x + 16 by omega)
          have HIC := hide (show ∀ i, i < M → (((x : Int) ≤ xs.getD i 0 ∧ xs.getD i 0 < (y : Int)) ↔ cd F (xs.getD i 0) = c) from fun i hi => by
            rw [hy, hx]; exact in_card (HXI.out i hi).1)
          have HHIT := hide (show ∀ i, i < M → (cd F (xs.getD i 0) = c ↔ cnt S (cd F (xs.getD i 0)) = j) from fun i hi =>
            ⟨fun h => by rw [h]; exact c3, fun h => cnt_inj (HXI.out i hi).2 c2 (by rw [h, c3])⟩)
          have HX := hide hx
          have HC2 := hide c2
          have HC3 := hide c3
          have HBL := hide hbl
          have HBS := hide hbs
          have HLAST := hide hlast
          obtain ⟨vx, hva, hc⟩ := hst.rv.at_ hjL
          subst hva
          rw [HCL.out] at hc
          have HJL := hide hjL
          have u8 : IntKind.i64.wrap ((j : Int) + 1) = ((j + 1 : Nat) : Int) := by rw [wrap_i64_id _ (by omega)]; omega
          clear ht4 hnc hlx hxT i1 i2 HCL c1 c2 c3 hx hy hbl hbs hlast hj hjL
          go_wp2_with fail
          refine (tb_dirty hst.ct x HD.out).mono ?_
          rintro e w6 ⟨rfl, c'⟩
          replace hst := hst.grow c'
          clear c' hc HD
          go_wp2
          go_loopw [124] (fun i wr => ∃ (i1 : Nat) (bs : List Bool), i1 ≤ M ∧ i = .int .i64 i1 ∧ Sta w wr p m g F T (suf S (j + 1)) oa M xs (some vx) L l H bs ∧ bs.length = M ∧ (∀ i, i < M → bs.getD i false = decide (cnt S (cd F (xs.getD i 0)) < if i < i1 then j + 1 else j))) (fun i _ => M - (intOf i).toNat)
          case atStart => exact ⟨0, bs, Nat.zero_le _, rfl, hst, HBL.out, fun i hi => by rw [if_neg (Nat.not_lt_zero i)]; exact HBS.out i hi⟩
          case round =>
            clear hst HBL HBS bs
            obtain ⟨i1, bs, hi, rfl, hst, hbl, hbs⟩ := hrel
            by_cases hlt : i1 < M
            · have hlt' : (i1 : Int) < (M : Int) := by omega
              obtain ⟨ox, hoa, hc2⟩ := hst.ro.at_ hlt
              subst hoa
              have hc := (hst.hb.cell i1).trans (bls_get bs i1 (by rw [hbl]; exact hlt))
              have hf := hst.hb.frozen i1
              have h1 := hbs i1 hlt
              rw [if_neg (Nat.lt_irrefl i1)] at h1
              have h2 := HIC.out i1 hlt
              have h3 := HHIT.out i1 hlt
              have HNEW := hide (show ∀ bb, bb = decide (cnt S (cd F (xs.getD i1 0)) < j + 1) → (bs.set i1 bb).length = M ∧ ∀ i, i < M → (bs.set i1 bb).getD i false = decide (cnt S (cd F (xs.getD i 0)) < if i < i1 + 1 then j + 1 else j) from fun bb hb => by
                refine ⟨by rw [List.length_set]; exact hbl, fun i hi => ?_⟩
                by_cases e : i = i1
                · subst e
                  rw [List.getD_eq_getElem?_getD, List.getElem?_set_self (by rw [hbl]; omega), if_pos (Nat.lt_succ_self i), hb]
                  rfl
                · rw [List.getD_eq_getElem?_getD, List.getElem?_set_ne (Ne.symm e), ← List.getD_eq_getElem?_getD, hbs i hi]
                  by_cases e2 : i < i1
                  · rw [if_pos e2, if_pos (by omega)]
                  · rw [if_neg e2, if_neg (by omega)])
              generalize bs.getD i1 false = bi at *
              obtain ⟨ci, hci⟩ : ∃ ci, cnt S (cd F (xs.getD i1 0)) = ci := ⟨_, rfl⟩
              rw [hci] at h1 h3 HNEW
              rw [h3] at h2
              generalize xs.getD i1 0 = xi at *
              clear hbs hbl h3 hci
              by_cases hbi : ci < j
              · have hb : bi = true := by rw [h1]; exact decide_eq_true hbi
                subst hb
                have HN2 := hide (HNEW.out true (by symm; rw [decide_eq_true_eq]; omega))
                clear h1 h2 HNEW hbi
                as_aux_lemma =>
                go_wp2
                go_roundw
                case rel => exact ⟨i1 + 1, bs.set i1 true, by omega, by go_num, hst.put i1 true, HN2.out.1, HN2.out.2⟩
                case measure => simp [intOf]; omega
              · have hb : bi = false := by rw [h1]; exact decide_eq_false hbi
                subst hb
                by_cases k1 : (x : Int) ≤ xi
                · have q7 : decide (xi ≥ (x : Int)) = true := by simpa using k1
                  by_cases k2 : xi < (y : Int)
                  · have q8 : decide (xi < (y : Int)) = true := by simpa using k2
                    have HN2 := hide (HNEW.out true (by symm; rw [decide_eq_true_eq]; have := h2.1 ⟨k1, k2⟩; omega))
                    clear h1 h2 HNEW hbi k1 k2
                    as_aux_lemma =>
                    go_wp2
                    go_roundw
                    case rel => exact ⟨i1 + 1, bs.set i1 true, by omega, by go_num, hst.put i1 true, HN2.out.1, HN2.out.2⟩
                    case measure => simp [intOf]; omega
                  · have q8 : decide (xi < (y : Int)) = false := by simpa using k2
                    have HN2 := hide (HNEW.out false (by symm; rw [decide_eq_false_iff_not]; have h4 := mt h2.2 (fun h => k2 h.2); omega))
                    clear h1 h2 HNEW hbi k1 k2
                    as_aux_lemma =>
                    go_wp2
                    go_roundw
                    case rel => exact ⟨i1 + 1, bs.set i1 false, by omega, by go_num, hst.put i1 false, HN2.out.1, HN2.out.2⟩
                    case measure => simp [intOf]; omega
                · have q7 : decide (xi ≥ (x : Int)) = false := by simpa using k1
                  have HN2 := hide (HNEW.out false (by symm; rw [decide_eq_false_iff_not]; have h4 := mt h2.2 (fun h => k1 h.1); omega))
                  clear h1 h2 HNEW hbi k1
                  as_aux_lemma =>
                  go_wp2
                  go_roundw
                  case rel => exact ⟨i1 + 1, bs.set i1 false, by omega, by go_num, hst.put i1 false, HN2.out.1, HN2.out.2⟩
                  case measure => simp [intOf]; omega
            · obtain rfl : M = i1 := by omega
              have HBL := hide hbl
              have HBS := hide (show ∀ i, i < M → bs.getD i false = decide (cnt S (cd F (xs.getD i 0)) < j + 1) from fun i hi => by rw [hbs i hi, if_pos hi])
              clear hbl hbs hi hlt
              go_wp2_with fail
              refine (tk_any hst (HT.out.chg hst.cc id) HJL.out HCN.out HTL.out).mono ?_
              rintro e w8 ⟨x2, y2, ok2, rfl, hnx2, hst2⟩
              have HL2 := hide (show ∀ c, S c = true → j + 1 ≤ cnt S c → (y : Int) ≤ ((F + 16 * c : Nat) : Int) from fun c' h1 h2 => by
                have h4 : c < c' := by
                  rcases Nat.lt_or_ge c c' with h5 | h5
                  · exact h5
                  · have := cnt_mono S h5; have := HC3.out; omega
                have := HY.out
                have := HX.out
                omega)
              clear hst HLAST HIC HHIT
              go_wp2
              go_roundw
              case rel => exact ⟨j + 1, y, x2, y2, ok2, bs, HJL.out, rfl, rfl, rfl, rfl, rfl, hnx2, hst2, HBL.out, HBS.out, HL2.out⟩
              case measure => have := HJL.out; simp [intOf]; omega
        · have HBS := hide hbs
          have HBL := hide hbl
          clear hbs hlast hj hbl
          go_wp2
          go_loopw [156] (fun i wq => ∃ i0 : Nat, i0 ≤ M ∧ i = .int .i64 i0 ∧ wr = wq) (fun i _ => M - (intOf i).toNat)
          case atStart => exact ⟨0, Nat.zero_le _, rfl, rfl⟩
          case round =>
            obtain ⟨i1, hi, rfl, rfl⟩ := hrel
            by_cases hlt : i1 < M
            · have hc := (hst.hb.cell i1).trans (bls_get bs i1 (by rw [HBL.out]; exact hlt))
              rw [HBS.out i1 hlt, decide_eq_true (by have h1 := (HXI.out i1 hlt).2; have := cnt_lt (HTL.out _ h1) h1; rw [HCN.out] at this; exact this)] at hc
              have hlt' : (i1 : Int) < (M : Int) := by omega
              go_wp2
              go_roundw
              case rel => exact ⟨i1 + 1, by omega, by go_num, by first | rfl | trivial⟩
              case measure => simp [intOf]; omega
            · obtain rfl : M = i1 := by omega
              have u7 : ((j : Int) == (j : Int)) = true := by simp
              have HE := hide (show cds (suf S (j + 1)) F (nc F T) = [] by rw [suf_gone HTL.out (by rw [HCN.out]; omega)]; exact cds_no _ _)
              clear hi hlt
              go_wp2_with fail
              refine (tb_all hst.ct (HT.out.chg hst.cc id) HE.out).mono ?_
              rintro e w7 ⟨v, rfl, hown, c'⟩
              obtain ⟨pa, pcap, rfl⟩ := own_len hown
              have HCC := hide (hst.cc.trans c')
              clear hown c' hst
              go_wp2
              go_ret
              exact ⟨rfl, HCC.out.under⟩

theorem walk (f t : Int) (a2 : Option Addr) (len cap : Nat) (zs : List Int) (w : World) (ht : Tab w) (w0 : (Lit.int .u16 f).wf = true) (w1 : (Lit.int .u16 t).wf = true) (h0 : IsRow .u16 w a2 len cap zs) :
    Calls Tryd.prog 4 #[.int .u16 f, .int .u16 t, .slice a2 len cap] w fun e w' => e = .returned (.bool true) ∧ Below w.heap.size w w' := by
  by_cases h : 200 < len
  · exact walk_long f t a2 len cap w ht h
  · exact walk_main f t a2 len cap zs w ht (bounds_u16 w0) (bounds_u16 w1) h0 (by omega)


theorem own : ownKnob Tryd.prog.godebug = none := by kernel_rfl
theorem laidOut : laidOutB Tryd.prog = true := by kernel_rfl
theorem door_met (os : Os) (args : Array Value) : laidMetH Tryd.prog Rows.cardTakesRow.laid ((World.doorLaid Tryd.prog 400 os).forCall (fun _ _ => 0) ⟨#[], args, []⟩).memory :=
  laidMetH_of_parts3 (fuel := 8) (laidMet_of_run' 8 (by kernel_rfl) (by kernel_rfl)) (by kernel_rfl) (by kernel_rfl)

set_option maxRecDepth 100000 in
theorem lifted (os : Os) (started : os.Started) (H : Type) (enc : TypeId × Value → H) :
    ReturnsInHanded {} Tryd.checked os 4 .any (fun w args => (Rows.cardTakesSpec.pre enc Tryd.prog Tryd.f4 [] false w args ∧ laidMetH Tryd.prog Rows.cardTakesRow.laid w) ∧ sizedMet enc Tryd.prog Tryd.f4 (OpenSpec.ofChange Rows.cardTakesSpec) false w args) (Rows.cardTakesSpec.post enc Tryd.prog Tryd.f4 false true false false) := by
  refine returnsInHanded_of_change_and (C := Tryd.checked) (X := fun w _ => laidMetH Tryd.prog Rows.cardTakesRow.laid w) (fun _ _ _ hh h => h.of_heap hh) own started (by kernel_rfl) Tryd.func4
    (ChangeSpec.witness_shaped (enc := enc) (C := Tryd.checked) (os := os) (X := fun w _ => laidMetH Tryd.prog Rows.cardTakesRow.laid w) false (World.doorLaid Tryd.prog 400 os) #[.int .u16 0, .int .u16 0, .slice none 0 0] 8 rfl (World.shaped_of_RefB (by kernel_rfl) (by kernel_rfl)) (by kernel_rfl) (by kernel_rfl) (by kernel_rfl) (door_met os _)) ?_
  intro W base args ds gs before hval0 hW _ _ hL _
  have hval : ∀ (j : Nat) t v, Tryd.f4.params[j]? = some t → args[j]? = some v → Value.okWide Tryd.prog W .any base t v := hval0
  have hW' := hW
  obtain ⟨p, q, hA0, hV, rfl, hfz, hnd⟩ := hW
  have hA : DataW.TrodAll enc Tryd.prog W 0 (fun _ => true) true Tryd.f4.params.toList args.toList ds p := hA0
  rw [Tryd.params4] at hA hval
  obtain ⟨v0, vs0, d0, ds0, p0, q0, hargs, rfl, rfl, h0, r0⟩ := trodAll_cons hA
  obtain ⟨v1, vs1, d1, ds1, p1, q1, rfl, rfl, rfl, h1, r1⟩ := trodAll_cons r0
  obtain ⟨v2, vs2, d2, ds2, p2, q2, rfl, rfl, rfl, h2, r2⟩ := trodAll_cons r1
  obtain ⟨rfl, rfl, rfl⟩ := trodAll_nil r2
  obtain rfl : args = #[v0, v1, v2] := by cases args; simp_all
  obtain ⟨rfl, rfl⟩ := trodVars_none hV
  obtain ⟨a0, rfl, rfl, rfl, w0⟩ := open_int Tryd.underlying39 (hval 0 39 v0 rfl rfl) h0
  obtain ⟨a1, rfl, rfl, rfl, w1⟩ := open_int Tryd.underlying39 (hval 1 39 v1 rfl rfl) h1
  obtain ⟨a2, len2, cap2, rfl⟩ := okWide_slice Tryd.underlying40 (hval 2 40 v2 rfl rfl)
  have k2 := h2
  have lt2 : ∀ x ∈ p2, x.block < W.heap.size := by obtain ⟨m, hm⟩ := k2; exact DataW.trod_lt m _ _ _ hm
  obtain ⟨z2, w2⟩ : ∃ zs, IsRow .u16 W a2 len2 cap2 zs := open_row Tryd.underlying40 Tryd.underlying39 (by kernel_rfl) h2
  clear hA0 hval0
  refine (walk a0 a1 a2 len2 cap2 z2 W (tab_of_laid hL) w0 w1 w2).mono fun e W' ⟨he, bel⟩ => ?_
  subst he
  exact ⟨_, rfl, _, _, _, [], _, [], hW', trodAll_mk1 (shut_bool Tryd.underlying4 _), (trodAll_cons_mk (shut_int Tryd.underlying39 w0) (trodAll_cons_mk (shut_int Tryd.underlying39 w1) (trodAll_cons_mk (Below.trod laidOut (by kernel_rfl) (of_decide_eq_true (by kernel_rfl)) k2 bel lt2) trodAll_mk0))), rfl, bel.frame _, fun h => by cases h⟩

theorem over : Rows.cardTakesRow.holds Tryd.pinned (OpenSpec.ofChange Rows.cardTakesSpec) :=
  OpenClaim.holds_of_wide 4 Tryd.f4 rfl rfl rfl rfl rfl rfl rfl ⟨rfl, rfl, rfl, rfl, rfl⟩ rfl rfl rfl rfl rfl (by kernel_rfl) Tryd.func4 (by kernel_rfl)
    (of_decide_eq_true (by kernel_rfl)) (by unfold Func.isWrapper; first | (rw [if_pos (by decide +kernel)]; kernel_rfl) | (rw [if_neg (by decide +kernel)]; exact ⟨rfl, rfl⟩))
    (fun os started H enc _ => lifted os started H enc)

/-- The statement. -/
theorem proved : Rows.CardTakesCardSaid :=
  Claim7.holds_tied_plain_at .later [] [.data] true Rows.cardTakesCard.stood.harness false
    over (fun _ h => by cases h) (by kernel_rfl) (fun _ h => by cases h) cardTakes_row_tie rfl ⟨rfl, rfl⟩ (by kernel_rfl) rfl
    (fun f fn hf hfn => by
      obtain rfl : f = 4 := Option.some.inj ((show Tryd.prog.funcNamed "gleaning/gleaninglaw07.CardTakes" = some 4 by kernel_rfl).symm.trans hf) |>.symm
      obtain rfl : fn = Tryd.f4 := (Option.some.inj (Tryd.func4.symm.trans hfn)).symm
      exact ⟨by kernel_rfl, fun j t ht => by
        rw [Tryd.params4] at ht
        have hm : t ∈ [39, 39, 40] := by simpa using Array.mem_of_getElem? ht
        have hall : ([39, 39, 40].all fun u => !Tryd.prog.wantsStandIn u) = true := by kernel_rfl
        exact (show Tryd.prog.wantsStandIn t = false by simpa using List.all_eq_true.1 hall t hm)⟩)
    (by kernel_rfl)
#print axioms proved
end Go.Proofs.YtbigdgabjjpffaaDoor.cardTakes


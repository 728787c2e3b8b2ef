/- For all bounds and lists of addresses CardOnce answers true: the order in which addresses are touched plays no part; wiped none is dirty, and each can be touched anew. Conditions: the table of math/bits.TrailingZeros64 is as the program's text lays it, which the card ties. -/
import Derived.Test.YtbigdgabjjpffaaDoorL7Nth
import Derived.Test.YtbigdgabjjpffaaDoorCards
import Derived.Test.YtbigdgabjjpffaaDoorTie
import Derived.SevenTiedAt
import Derived.Stop.Joined
import Derived.ShutString
namespace Go.Proofs.YtbigdgabjjpffaaDoor.cardOnce
open Go.ChangeShapes Go.WideShapes Go.ChangeAt Go.RowKit Go.Proofs.YtbigdgabjjpffaaDoor.L3 Go.Proofs.YtbigdgabjjpffaaDoor.L7
set_option linter.unusedVariables false

set_option maxHeartbeats 1000000 in
set_option maxRecDepth 100000 in
theorem walk_long (f t : Int) (a2 : Option Addr) (len cap : Nat) (w : World) (ht : Tab w) (h : 200 < len) :
    Calls Tryd.prog 7 #[.int .u16 f, .int .u16 t, .slice a2 len cap] w fun e w' => e = .returned (.bool true) ∧ Below w.heap.size w w' := by
  have HT := hide ht
  clear ht
  go_enter Tryd.func7, Tryd.ntmps7
  go_wp2_with fail
  refine (awake_any _ HT.out).mono ?_
  rintro e wa ⟨rfl, ca⟩
  go_wp2_with fail
  refine (awake_any _ (HT.out.chg ca id)).mono ?_
  rintro e wb ⟨rfl, cb⟩
  go_wp2
  go_ret
  exact ⟨rfl, (ca.trans cb).under⟩

set_option maxHeartbeats 4000000 in
set_option maxRecDepth 100000 in
theorem walk_main (f t : Int) (a2 : Option Addr) (len cap : Nat) (zs : List Int) (w : World) (ht : Tab w) (b0 : 0 ≤ f ∧ f ≤ 65535) (b1 : 0 ≤ t ∧ t ≤ 65535) (h0 : IsRow .u16 w a2 len cap zs) (hlen : len ≤ 200) :
    Calls Tryd.prog 7 #[.int .u16 f, .int .u16 t, .slice a2 len cap] w fun e w' => e = .returned (.bool true) ∧ Below w.heap.size w w' := by
  have hlen' : decide ((200 : Int) < len) = false := by simp; omega
  have HT := hide ht
  have H0 := hide h0
  have v0 : IntKind.i64.wrap f = f := wrap_i64_id _ (by omega)
  have v1 : IntKind.i64.wrap t = t := wrap_i64_id _ (by omega)
  obtain ⟨F, hF⟩ : ∃ F, clamp f = F := ⟨_, rfl⟩
  obtain ⟨T, hTT⟩ : ∃ T, tob f t = T := ⟨_, rfl⟩
  clear ht h0 b0 b1
  go_enter Tryd.func7, Tryd.ntmps7
  go_wp2_with fail
  refine (awake_any _ HT.out).mono ?_
  rintro e wa ⟨rfl, ca⟩
  go_wp2_with fail
  refine (tb_new f t _ hF hTT).mono ?_
  rintro e w1 ⟨p, m, g, rfl, ha, hp, hm, hg, c1⟩
  go_wp2_with fail
  refine (tb_new f t _ hF hTT).mono ?_
  rintro e w2 ⟨q, kk, h, rfl, hb, hq, hk, hh, c2⟩
  have tw := Two.mk2 (ca.trans c1) ha (Nat.le_trans ca.size hg) c2 hb hq hk hh
  clear ca c1 c2 ha hb hp hm hg hq hk hh hF hTT v0 v1
  obtain ⟨N, hN⟩ : ∃ N, nc F T = N := ⟨_, rfl⟩
  have HN := hide hN
  have hc0 : (0 : Int) = (cnt no N : Nat) := by rw [cnt_no]; rfl
  clear hN
  go_wp2
  go_loopw [9, 33] (fun n i wr => ∃ (k : Nat), k ≤ len ∧ i = .int .i64 k ∧ n = .int .i64 (cnt (tos F T (fun j => zs.getD j 0) k) N : Nat) ∧ Two w wr p m g q kk h F T (tos F T (fun j => zs.getD j 0) k) (tos F T (fun j => zs.getD (len - 1 - j) 0) k)) (fun _ i _ => len - (intOf i).toNat)
  case atStart => exact ⟨0, Nat.zero_le _, rfl, congrArg _ hc0, tw⟩
  case round =>
    clear tw hc0
    obtain ⟨k, hk, rfl, rfl, tw⟩ := hrel
    by_cases hlt : k < len
    · obtain ⟨ad, rfl, hcell, hwf⟩ := (H0.out.grow tw.cc).at_ hlt
      have hzz := bounds_u16 hwf
      obtain ⟨d, hd⟩ : ∃ d, d = len - 1 - k := ⟨_, rfl⟩
      have hdl : d < len := by omega
      have u1 : IntKind.i64.wrap ((len : Int) - 1) = (len : Int) - 1 := wrap_i64_id _ (by omega)
      have u2 : IntKind.i64.wrap ((len : Int) - 1 - (k : Int)) = (d : Int) := by rw [wrap_i64_id _ (by omega)]; omega
      have u3 : (d : Int) < (len : Int) := by omega
      obtain ⟨S, hS⟩ : ∃ S, tos F T (fun j => zs.getD j 0) k = S := ⟨_, rfl⟩
      obtain ⟨U, hU⟩ : ∃ U, tos F T (fun j => zs.getD (len - 1 - j) 0) k = U := ⟨_, rfl⟩
      have HS := hide (show tset S F T (zs.getD k 0) = tos F T (fun j => zs.getD j 0) (k + 1) by rw [← hS]; rfl)
      have HU := hide (show tset U F T (zs.getD d 0) = tos F T (fun j => zs.getD (len - 1 - j) 0) (k + 1) by rw [← hU, hd]; rfl)
      have HC := hide (show cnt (tset S F T (zs.getD k 0)) N = cnt S N + if isnew S F T (zs.getD k 0) = true then 1 else 0 by rw [← HN.out]; exact tset_cnt _ _ _ _)
      have hcl := cnt_le S N
      have hN4 := tw.a.n4
      rw [HN.out] at hN4
      rw [hS, hU] at tw
      rw [hS]
      obtain ⟨n0, hn0⟩ : ∃ n0, cnt S N = n0 := ⟨_, rfl⟩
      rw [hn0] at HC hcl ⊢
      obtain ⟨zk, hzk⟩ : ∃ zk, zs.getD k 0 = zk := ⟨_, rfl⟩
      rw [hzk] at HS HC hcell hzz
      have u4 : IntKind.i64.wrap zk = zk := wrap_i64_id _ (by omega)
      have u5 : IntKind.i64.wrap ((n0 : Int) + 1) = ((n0 + 1 : Nat) : Int) := by rw [wrap_i64_id _ (by omega)]; omega
      clear hS hU hzz hwf hd hn0 hzk hcl hN4
      cases hc : isnew S F T zk with
      | false =>
        as_aux_lemma =>
        go_wp2_with fail
        refine (tb_touch tw.a zk (c := false) hc HS.out).mono ?_
        rintro e w3 ⟨rfl, h', c'⟩
        replace tw := tw.setA h' c'
        clear h' c' hcell
        obtain ⟨ad', e', hcell, hwf⟩ := (H0.out.grow tw.cc).at_ hdl
        injection e' with e'
        subst e'
        have hzz := bounds_u16 hwf
        obtain ⟨zd, hzd⟩ : ∃ zd, zs.getD d 0 = zd := ⟨_, rfl⟩
        rw [hzd] at HU hcell hzz
        have u6 : IntKind.i64.wrap zd = zd := wrap_i64_id _ (by omega)
        clear hzz hwf hzd
        go_wp2_with fail
        refine (tb_touch tw.b zd rfl HU.out).mono ?_
        rintro e w4 ⟨rfl, h', c'⟩
        replace tw := tw.setB h' c'
        clear h' c' hcell
        go_wp2
        go_roundw
        case rel => exact ⟨k + 1, by omega, by go_num, by rw [← HS.out, HC.out, hc]; rfl, tw⟩
        case measure => simp [intOf]; omega
      | true =>
        as_aux_lemma =>
        go_wp2_with fail
        refine (tb_touch tw.a zk (c := true) hc HS.out).mono ?_
        rintro e w3 ⟨rfl, h', c'⟩
        replace tw := tw.setA h' c'
        clear h' c' hcell
        obtain ⟨ad', e', hcell, hwf⟩ := (H0.out.grow tw.cc).at_ hdl
        injection e' with e'
        subst e'
        have hzz := bounds_u16 hwf
        obtain ⟨zd, hzd⟩ : ∃ zd, zs.getD d 0 = zd := ⟨_, rfl⟩
        rw [hzd] at HU hcell hzz
        have u6 : IntKind.i64.wrap zd = zd := wrap_i64_id _ (by omega)
        clear hzz hwf hzd
        go_wp2_with fail
        refine (tb_touch tw.b zd rfl HU.out).mono ?_
        rintro e w4 ⟨rfl, h', c'⟩
        replace tw := tw.setB h' c'
        clear h' c' hcell
        go_wp2
        go_roundw
        case rel => exact ⟨k + 1, by omega, by go_num, by rw [← HS.out, HC.out, hc]; rfl, tw⟩
        case measure => simp [intOf]; omega
    · obtain rfl : len = k := by omega
      have e1 := tos_back (f := F) (T := T) (fun j => zs.getD j 0) len
      rw [e1] at tw
      obtain ⟨S, hS⟩ : ∃ S, tos F T (fun j => zs.getD j 0) len = S := ⟨_, rfl⟩
      have HTL := hide (show ∀ c, S c = true → c < N by intro c h; rw [← hS] at h; rw [← HN.out]; exact tos_tail h)
      rw [hS] at tw
      rw [hS]
      obtain ⟨l, hl⟩ : ∃ l, cds S F (nc F T) = l := ⟨_, rfl⟩
      obtain ⟨L, hL⟩ : ∃ L, l.length = L := ⟨_, rfl⟩
      have hcn : cnt S N = L := by rw [← hL, ← hl, cds_len, HN.out]
      have hL4 : L ≤ 4096 := by have h1 := cnt_le S N; have h2 := tw.a.n4; rw [HN.out] at h2; omega
      rw [hcn]
      have HLL := hide hl
      have HCN := hide hcn
      have HL := hide hL
      have HSZ := hide (And.intro tw.a.glt tw.b.glt)
      have u6 : ((L : Int) != (L : Int)) = false := by simp
      clear e1 hS hl hL hcn hk hlt
      go_wp2_with fail
      refine (tb_all tw.a (HT.out.chg tw.cc id) HLL.out).mono ?_
      rintro e w3 ⟨v, rfl, hown, c'⟩
      replace tw := tw.grow c'
      rw [HL.out] at hown
      obtain ⟨oa, ocap, rfl⟩ := own_len hown
      have HO := hide hown
      obtain ⟨b0, hb0⟩ : ∃ b0, b0 = wr.heap.size := ⟨_, rfl⟩
      rw [← hb0] at HO HSZ
      clear c' hown hb0
      go_wp2_with fail
      refine (tb_all tw.b (HT.out.chg tw.cc id) HLL.out).mono ?_
      rintro e w4 ⟨v, rfl, hown, c'⟩
      replace tw := tw.grow c'
      rw [HL.out] at hown
      obtain ⟨pa, pcap, rfl⟩ := own_len hown
      have HO4 := hide (own_grow HO.out c')
      have HP := hide hown
      clear c' hown HO
      go_wp2_with fail
      refine (L1.same_yes _ _ L _ _ l _ (own_rd HO4.out) (own_rd HP.out) (by omega)).mono ?_
      rintro e w5 ⟨rfl, c'⟩
      replace tw := tw.grow c'
      have HO5 := hide (own_grow HO4.out c')
      clear c' HO4 HP
      go_wp2_with fail
      refine (tb_wipe tw.a).mono ?_
      rintro e w6 ⟨rfl, h', c'⟩
      replace tw := tw.setA (h'.at_ (pre_zero S)) c'
      have hown := own_chg HO5.out c' (fun j hj e => by have := (HO5.out.lt j hj).1; have := HSZ.out; omega)
      clear h' c' HO5
      go_wp2
      go_loopw [74] (fun i wr => ∃ (k : Nat), k ≤ L ∧ i = .int .i64 k ∧ Two w wr p m g q kk h F T (pre S k) S ∧ wr.ownsRow b0 3 1 (.slice oa L ocap) L (ints l)) (fun i _ => L - (intOf i).toNat)
      case atStart => exact ⟨0, Nat.zero_le _, rfl, tw, hown⟩
      case round =>
        clear tw hown
        obtain ⟨k, hk, rfl, tw, hown⟩ := hrel
        by_cases hlt : k < L
        · obtain ⟨og, ocap', e', _, _, hncap, _, hcg⟩ := own_ints hown (by omega)
          injection e' with e1 e2 e3
          subst e1 e3
          have hc := hcg k hlt
          obtain ⟨c, c1, c2, c3⟩ := nth S N k (by rw [HCN.out]; exact hlt)
          have c4 := cds_get (f := F) (nc F T) (by rw [HN.out]; exact c1) c2
          rw [HLL.out, c3] at c4
          rw [c4] at hc
          obtain ⟨i1, i2⟩ := inn_first (f := F) (T := T) (c := c) (by rw [HN.out]; exact c1)
          obtain ⟨x, hx⟩ : ∃ x : Nat, F + 16 * c = x := ⟨_, rfl⟩
          rw [hx] at hc i1 i2
          have HS1 := hide (pre_step c2 c3)
          have HD := hide (show isd (pre S k) F T (x : Int) = false by rw [isd_on i1, i2]; exact pre_at c3)
          have HW := hide (show isnew (pre S k) F T (x : Int) = true by rw [isnew_on i1, i2, pre_at c3]; rfl)
          have HT2 := hide (show tset (pre S k) F T (x : Int) = pre S (k + 1) by rw [tset_on i1, i2]; exact HS1.out)
          have hlt' : (k : Int) < (L : Int) := by omega
          have HO := hide hown
          clear hcg hncap c1 c2 c3 c4 i1 i2 hx hown
          go_wp2_with fail
          refine (tb_dirty tw.a x HD.out).mono ?_
          rintro e w7 ⟨rfl, c'⟩
          replace tw := tw.grow c'
          replace hc := c'.cell hc
          have HO7 := hide (own_grow HO.out c')
          clear c' HO
          go_wp2_with fail
          refine (tb_touch tw.a x HW.out HT2.out).mono ?_
          rintro e w8 ⟨rfl, h', c'⟩
          replace tw := tw.setA h' c'
          have HO8 := hide (own_chg HO7.out c' (fun j hj e => by have := (HO7.out.lt j hj).1; have := HSZ.out; omega))
          clear h' c' HO7 hc
          go_wp2
          go_roundw
          case rel => exact ⟨k + 1, by omega, by go_num, tw, HO8.out⟩
          case measure => simp [intOf]; omega
        · obtain rfl : L = k := by omega
          have e2 : pre S L = S := by rw [← HCN.out]; exact pre_all HTL.out
          rw [e2] at tw
          have HO := hide hown
          clear hown hk hlt e2
          go_wp2_with fail
          refine (tb_all tw.a (HT.out.chg tw.cc id) HLL.out).mono ?_
          rintro e w7 ⟨v, rfl, hown, c'⟩
          replace tw := tw.grow c'
          rw [HL.out] at hown
          obtain ⟨pa, pcap, rfl⟩ := own_len hown
          have HO7 := hide (own_grow HO.out c')
          have HP := hide hown
          clear c' hown HO
          go_wp2_with fail
          refine (L1.same_yes _ _ L _ _ l _ (own_rd HP.out) (own_rd HO7.out) (by omega)).mono ?_
          rintro e w8 ⟨rfl, c'⟩
          have HCC := hide (tw.cc.trans c')
          clear c' HO7 HP tw
          go_wp2
          go_ret
          exact ⟨rfl, HCC.out.under⟩

theorem walk (f t : Int) (a2 : Option Addr) (len cap : Nat) (zs : List Int) (w : World) (ht : Tab w) (w0 : (Lit.int .u16 f).wf = true) (w1 : (Lit.int .u16 t).wf = true) (h0 : IsRow .u16 w a2 len cap zs) :
    Calls Tryd.prog 7 #[.int .u16 f, .int .u16 t, .slice a2 len cap] w fun e w' => e = .returned (.bool true) ∧ Below w.heap.size w w' := by
  by_cases h : 200 < len
  · exact walk_long f t a2 len cap w ht h
  · exact walk_main f t a2 len cap zs w ht (bounds_u16 w0) (bounds_u16 w1) h0 (by omega)


theorem own : ownKnob Tryd.prog.godebug = none := by kernel_rfl
theorem laidOut : laidOutB Tryd.prog = true := by kernel_rfl
theorem door_met (os : Os) (args : Array Value) : laidMetH Tryd.prog Rows.cardOnceRow.laid ((World.doorLaid Tryd.prog 400 os).forCall (fun _ _ => 0) ⟨#[], args, []⟩).memory :=
  laidMetH_of_parts3 (fuel := 8) (laidMet_of_run' 8 (by kernel_rfl) (by kernel_rfl)) (by kernel_rfl) (by kernel_rfl)

set_option maxRecDepth 100000 in
theorem lifted (os : Os) (started : os.Started) (H : Type) (enc : TypeId × Value → H) :
    ReturnsInHanded {} Tryd.checked os 7 .any (fun w args => (Rows.cardOnceSpec.pre enc Tryd.prog Tryd.f7 [] false w args ∧ laidMetH Tryd.prog Rows.cardOnceRow.laid w) ∧ sizedMet enc Tryd.prog Tryd.f7 (OpenSpec.ofChange Rows.cardOnceSpec) false w args) (Rows.cardOnceSpec.post enc Tryd.prog Tryd.f7 false true false false) := by
  refine returnsInHanded_of_change_and (C := Tryd.checked) (X := fun w _ => laidMetH Tryd.prog Rows.cardOnceRow.laid w) (fun _ _ _ hh h => h.of_heap hh) own started (by kernel_rfl) Tryd.func7
    (ChangeSpec.witness_shaped (enc := enc) (C := Tryd.checked) (os := os) (X := fun w _ => laidMetH Tryd.prog Rows.cardOnceRow.laid w) false (World.doorLaid Tryd.prog 400 os) #[.int .u16 0, .int .u16 0, .slice none 0 0] 8 rfl (World.shaped_of_RefB (by kernel_rfl) (by kernel_rfl)) (by kernel_rfl) (by kernel_rfl) (by kernel_rfl) (door_met os _)) ?_
  intro W base args ds gs before hval0 hW _ _ hL _
  have hval : ∀ (j : Nat) t v, Tryd.f7.params[j]? = some t → args[j]? = some v → Value.okWide Tryd.prog W .any base t v := hval0
  have hW' := hW
  obtain ⟨p, q, hA0, hV, rfl, hfz, hnd⟩ := hW
  have hA : DataW.TrodAll enc Tryd.prog W 0 (fun _ => true) true Tryd.f7.params.toList args.toList ds p := hA0
  rw [Tryd.params7] at hA hval
  obtain ⟨v0, vs0, d0, ds0, p0, q0, hargs, rfl, rfl, h0, r0⟩ := trodAll_cons hA
  obtain ⟨v1, vs1, d1, ds1, p1, q1, rfl, rfl, rfl, h1, r1⟩ := trodAll_cons r0
  obtain ⟨v2, vs2, d2, ds2, p2, q2, rfl, rfl, rfl, h2, r2⟩ := trodAll_cons r1
  obtain ⟨rfl, rfl, rfl⟩ := trodAll_nil r2
  obtain rfl : args = #[v0, v1, v2] := by cases args; simp_all
  obtain ⟨rfl, rfl⟩ := trodVars_none hV
  obtain ⟨a0, rfl, rfl, rfl, w0⟩ := open_int Tryd.underlying39 (hval 0 39 v0 rfl rfl) h0
  obtain ⟨a1, rfl, rfl, rfl, w1⟩ := open_int Tryd.underlying39 (hval 1 39 v1 rfl rfl) h1
  obtain ⟨a2, len2, cap2, rfl⟩ := okWide_slice Tryd.underlying40 (hval 2 40 v2 rfl rfl)
  have k2 := h2
  have lt2 : ∀ x ∈ p2, x.block < W.heap.size := by obtain ⟨m, hm⟩ := k2; exact DataW.trod_lt m _ _ _ hm
  obtain ⟨z2, w2⟩ : ∃ zs, IsRow .u16 W a2 len2 cap2 zs := open_row Tryd.underlying40 Tryd.underlying39 (by kernel_rfl) h2
  clear hA0 hval0
  refine (walk a0 a1 a2 len2 cap2 z2 W (tab_of_laid hL) w0 w1 w2).mono fun e W' ⟨he, bel⟩ => ?_
  subst he
  exact ⟨_, rfl, _, _, _, [], _, [], hW', trodAll_mk1 (shut_bool Tryd.underlying4 _), (trodAll_cons_mk (shut_int Tryd.underlying39 w0) (trodAll_cons_mk (shut_int Tryd.underlying39 w1) (trodAll_cons_mk (Below.trod laidOut (by kernel_rfl) (of_decide_eq_true (by kernel_rfl)) k2 bel lt2) trodAll_mk0))), rfl, bel.frame _, fun h => by cases h⟩

theorem over : Rows.cardOnceRow.holds Tryd.pinned (OpenSpec.ofChange Rows.cardOnceSpec) :=
  OpenClaim.holds_of_wide 7 Tryd.f7 rfl rfl rfl rfl rfl rfl rfl ⟨rfl, rfl, rfl, rfl, rfl⟩ rfl rfl rfl rfl rfl (by kernel_rfl) Tryd.func7 (by kernel_rfl)
    (of_decide_eq_true (by kernel_rfl)) (by unfold Func.isWrapper; first | (rw [if_pos (by decide +kernel)]; kernel_rfl) | (rw [if_neg (by decide +kernel)]; exact ⟨rfl, rfl⟩))
    (fun os started H enc _ => lifted os started H enc)

/-- The statement. -/
theorem proved : Rows.CardOnceCardSaid :=
  Claim7.holds_tied_plain_at .later [] [.data] true Rows.cardOnceCard.stood.harness false
    over (fun _ h => by cases h) (by kernel_rfl) (fun _ h => by cases h) cardOnce_row_tie rfl ⟨rfl, rfl⟩ (by kernel_rfl) rfl
    (fun f fn hf hfn => by
      obtain rfl : f = 7 := Option.some.inj ((show Tryd.prog.funcNamed "gleaning/gleaninglaw07.CardOnce" = some 7 by kernel_rfl).symm.trans hf) |>.symm
      obtain rfl : fn = Tryd.f7 := (Option.some.inj (Tryd.func7.symm.trans hfn)).symm
      exact ⟨by kernel_rfl, fun j t ht => by
        rw [Tryd.params7] at ht
        have hm : t ∈ [39, 39, 40] := by simpa using Array.mem_of_getElem? ht
        have hall : ([39, 39, 40].all fun u => !Tryd.prog.wantsStandIn u) = true := by kernel_rfl
        exact (show Tryd.prog.wantsStandIn t = false by simpa using List.all_eq_true.1 hall t hm)⟩)
    (by kernel_rfl)
#print axioms proved
end Go.Proofs.YtbigdgabjjpffaaDoor.cardOnce


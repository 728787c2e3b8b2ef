/- For all calls HandlePlays answers true: whatever is made, asked, changed and dropped, each answer is the document's, and so are all handles. Conditions: none. -/
import Derived.Test.YtmklmoahkcekiaaL8Ref
import Derived.Test.YtmklmoahkcekiaaL1Ref01
import Derived.ShutString
import Derived.Deep.CutBlock
namespace Go.Proofs.Ytmklmoahkcekiaa.handlePlays
open Go.ChangeShapes Go.WideShapes Go.ChangeAt Go.RowKit Go.Shelf Go.Proofs.Ytmklmoahkcekiaa.L8
set_option linter.unusedVariables false

theorem own_rd {w : World} {base : Nat} {a : Option Addr} {n c : Nat} {xs : List Int} (h : w.ownsRow base 3 1 (.slice a n c) n (ints xs)) : L1.Rd w a n xs := by
  have hl : xs.length = n := by have := h.1; rw [ints_length] at this; omega
  refine ⟨hl, fun hn => ?_⟩
  obtain ⟨g, cap, e, _, _, _, _, hc⟩ := own_ints h hn
  injection e with e1 e2 e3
  subst e1
  exact ⟨_, rfl, fun i hi => by rw [addr_add, Nat.zero_add]; exact hc i hi⟩
set_option maxHeartbeats 1000000 in
set_option maxRecDepth 100000 in
theorem walk_long (a : Option Addr) (len cap : Nat) (w : World) (hl : 300 < len) :
    Calls Try.prog 3 #[.slice a len cap] w fun e w' => e = .returned (.bool true) ∧ Below w.heap.size w w' := by
  go_enter Try.func3, Try.ntmps3
  go_wp2_with fail
  refine (awake_any _).mono ?_
  rintro e wa ⟨rfl, ca⟩
  go_wp2_with fail
  refine (awake_any _).mono ?_
  rintro e wb ⟨rfl, cb⟩
  go_wp2
  go_ret
  exact ⟨rfl, (ca.trans cb).below (fun _ _ h => h) (Nat.le_refl _)⟩
/-- The slots when the values of the first j places have been changed. -/
def mx (S : Nat → Sl) (X : Int) (j : Nat) : Nat → Sl := fun q => if q < j ∧ (S q).t = true then ⟨(S q).e, (S q).t, wrap64 ((S q).v + X)⟩ else S q
theorem mx_at (S : Nat → Sl) (X : Int) (j : Nat) : mx S X j j = S j := if_neg fun h => absurd h.1 (by omega)
theorem mx_t (S : Nat → Sl) (X : Int) (j q : Nat) : (mx S X j q).t = (S q).t := by unfold mx; split <;> rfl
theorem mx_zero (S : Nat → Sl) (X : Int) : mx S X 0 = S := by funext q; simp [mx]
theorem mx_succ (S : Nat → Sl) (X : Int) (j : Nat) : one (mx S X j) j (wrap64 ((S j).v + X)) = mx S X (j + 1) := by
  funext q
  unfold one
  by_cases hq : q = j
  · subst hq
    rw [mx_at]
    unfold mx
    by_cases ht : (S q).t = true
    · rw [if_pos ⟨rfl, ht⟩, if_pos ⟨by omega, ht⟩]
    · rw [if_neg (fun e => ht e.2), if_neg (fun e => ht e.2)]
  · rw [if_neg (fun e => hq e.1)]
    unfold mx
    by_cases h : q < j ∧ (S q).t = true
    · rw [if_pos h, if_pos ⟨by omega, h.2⟩]
    · rw [if_neg h, if_neg (fun e => h ⟨by omega, e.2⟩)]
theorem mx_all (S : Nat → Sl) (X : Int) : mx S X 64 = stt (fun x => wrap64 (x + X)) S (ix S 64).length := by rw [stt_all _ _ (Nat.le_refl _)]; rfl
set_option maxHeartbeats 8000000 in
set_option maxRecDepth 100000 in
theorem walk_short (a : Option Addr) (len cap : Nat) (rows : List (List Value)) (w : World) (hl : len ≤ 300) (hr : IsOps w a len cap rows) :
    Calls Try.prog 3 #[.slice a len cap] w fun e w' => e = .returned (.bool true) ∧ Below w.heap.size w w' := by
  have HR := hide hr
  have hl' : decide ((len : Int) > 300) = false := by simp; omega
  have HM : Hid (∀ (fn : Fn) (first cap : Array Value) (w : World), (Instr.makeFunc fn first cap).run Try.prog w = .ok (.func fn first cap) w) := hide fun _ _ _ _ => rfl
  clear hr
  obtain ⟨A, hz, HZ⟩ := zero_is
  obtain ⟨A2, hz2, HZ2⟩ := zc_rt
  go_enter Try.func3, Try.ntmps3
  go_wp2_with fail
  refine (awake_any _).mono ?_
  rintro e wa ⟨rfl, cc⟩
  go_wp2_with fail
  have h := (HZ.out wa).grow (Grow.box _ (.cells A2 34))
  have hr := HZ2.out (wa.alloc (.cells A 29))
  rw [World.size_alloc] at hr
  have hgw : w.heap.size ≤ wa.heap.size := cc.size
  replace cc := (cc.alloc (.cells A 29)).alloc (.cells A2 34)
  generalize (wa.alloc (.cells A 29)).alloc (.cells A2 34) = w0 at *
  obtain ⟨g, hg⟩ : ∃ g, wa.heap.size = g := ⟨_, rfl⟩
  rw [hg] at h hr hgw ⊢
  obtain ⟨r, hre⟩ : ∃ r, g + 1 = r := ⟨_, rfl⟩
  rw [hre] at hr ⊢
  have HG := hide hgw
  have HRE := hide hre
  clear HZ hz HZ2 hz2 hg hre hl' hgw
  go_loopw [36] (fun i wr => ∃ (k : Nat) (S : Nat → Sl), i = .int .i64 k ∧ k ≤ len ∧ Tb wr g S ∧ Rt wr r S ∧ Bd S k ∧ Grow w wr) (fun i _ => len - (intOf i).toNat)
  case atStart => exact ⟨0, _, rfl, Nat.zero_le _, h, hr, zero_bd 0, cc⟩
  case round =>
    clear h hr cc
    obtain ⟨k, S, rfl, hk, h, hr, hB, cc⟩ := hrel
    by_cases hlt : k < len
    · obtain ⟨b, off, K, H, X, o, rfl, ⟨c0, c1, c2, c3⟩, wK, wH, wX⟩ := IsOps.one (HR.out.chg cc (fun i hi => id)) hlt
      have HB0 := hide (hB.mono (show k ≤ 1000000 by omega))
      have HBK := hide hB
      have HLT := hide hlt
      have HL := hide hl
      have hki : (k : Int) < len := by omega
      have hob := Blk.new wr 36 [.int .i64 K, .int .i64 H, .int .i64 X, .bool o]
      have h1 := h.grow (Grow.box wr (.cells [Value.int .i64 K, .int .i64 H, .int .i64 X, .bool o].toArray 36))
      have hr1 := hr.grow (Grow.box wr (.cells [Value.int .i64 K, .int .i64 H, .int .i64 X, .bool o].toArray 36))
      have cc1 := cc.alloc (.cells [Value.int .i64 K, .int .i64 H, .int .i64 X, .bool o].toArray 36)
      have HGO := hide h.lt
      have HRO := hide hr.lt
      have HWO := hide cc.size
      clear hB hlt hl hk h hr cc
      go_wp2_with fail
      clear c0 c1 c2 c3
      generalize wr.alloc (.cells #[.int .i64 K, .int .i64 H, .int .i64 X, .bool o] 36) = w1 at *
      obtain ⟨ob, hobe⟩ : ∃ ob, wr.heap.size = ob := ⟨_, rfl⟩
      rw [hobe] at hob HGO HRO HWO ⊢
      clear hobe
      refine (rall_is hr1 HB0.out).mono ?_
      rintro e w2 ⟨v, rfl, hown, c⟩
      replace h1 := h1.grow c
      replace hr1 := hr1.grow c
      replace hob := hob.chg c id
      replace cc1 := cc1.trans c
      obtain ⟨n, hn⟩ : ∃ n, (hs S 64).length = n := ⟨_, rfl⟩
      rw [hn] at hown
      have HN := hide hn
      obtain ⟨oa, ocap, rfl⟩ := own_len hown
      have HO := hide hown
      have hb0 := hob.cell 0
      have hb1 := hob.cell 1
      have hb2 := hob.cell 2
      have hb3 := hob.cell 3
      change w2.cell? ⟨ob, 0, none⟩ = some (.int .i64 K) at hb0
      change w2.cell? ⟨ob, 1, none⟩ = some (.int .i64 H) at hb1
      change w2.cell? ⟨ob, 2, none⟩ = some (.int .i64 X) at hb2
      change w2.cell? ⟨ob, 3, none⟩ = some (.bool o) at hb3
      have bf1 := hob.frozen 1
      clear c hown hn
      go_upto_region 9 with fail
      go_cut [36, 56] from 36 to 240 (fun i s wx => i = .int .i64 k ∧ s = .bool (o && (decide (0 < n) && decide (0 ≤ H))) ∧ wx = w2)
      case first =>
        as_aux_lemma =>
        cases o with
        | false =>
          go_wp2_with fail
          go_meet
          case rel => exact ⟨rfl, rfl, rfl⟩
        | true =>
          by_cases hn0 : 0 < n
          · by_cases hH : 0 ≤ H
            · have q : decide (H ≥ 0) = true := by simpa using hH
              go_wp2_with fail
              go_meet
              case rel => exact ⟨rfl, by simp [hn0, hH], rfl⟩
            · have q : decide (H ≥ 0) = false := by simpa using hH
              go_wp2_with fail
              go_meet
              case rel => exact ⟨rfl, by simp [hH], rfl⟩
          · obtain rfl : n = 0 := by omega
            go_wp2_with fail
            go_meet
            case rel => exact ⟨rfl, by simp, rfl⟩
      case rest =>
        obtain ⟨rfl, rfl, rfl⟩ := hcut
        go_upto_if 56 with fail
        obtain ⟨w3, rfl⟩ : ∃ w3, w3 = wc := ⟨_, rfl⟩
        go_cut [36] from 36 to 240 (fun i wx => i = .int .i64 k ∧ ∃ H', (Lit.int .i64 H').wf = true ∧ Blk wx ob 36 [.int .i64 K, .int .i64 H', .int .i64 X, .bool o] ∧ Chg (· = ob) w3 wx)
        case first =>
          as_aux_lemma =>
          by_cases hc : (o && (decide (0 < n) && decide (0 ≤ H))) = true
          · rw [hc]
            simp only [Bool.and_eq_true, decide_eq_true_eq] at hc
            obtain ⟨_, hn0, hH⟩ := hc
            obtain ⟨hh, rfl⟩ : ∃ hh : Nat, H = hh := ⟨H.toNat, by omega⟩
            obtain ⟨lg, cap2, e1, _, _, _, _, hcl⟩ := own_ints HO.out hn0
            cases e1
            obtain ⟨q, hq⟩ : ∃ q, hh % n = q := ⟨_, rfl⟩
            have hqn : q < n := hq ▸ Nat.mod_lt _ hn0
            have hq' : (hh : Int) % (n : Int) = (q : Int) := by rw [← hq]; simp
            obtain ⟨i, _, hi, _, eh, _, _⟩ := ix_at (S := S) (n := 64) (k := q) (by rw [← hs_len, HN.out]; exact hqn)
            have hc := hcl q hqn
            rw [eh] at hc
            have he := HB0.out i hi
            have hwf : (Lit.int .i64 (hd S i : Nat)).wf = true := WalkArith.wf_i64 (by unfold hd; omega)
            obtain ⟨y, hy⟩ : ∃ y : Int, (hd S i : Nat) = y := ⟨_, rfl⟩
            rw [hy] at hc hwf
            have hqi : (q : Int) < n := by omega
            have hset := hide (hob.set_ 1 (.int .i64 y))
            clear hcl eh he hy hq
            go_wp2_with fail
            go_meet
            case rel => exact ⟨rfl, y, hwf, hset.out, (Chg.refl _ _).set1 _ _⟩
          · rw [Bool.not_eq_true] at hc
            rw [hc]
            go_wp2_with fail
            go_meet
            case rel => exact ⟨rfl, H, wH, hob, Chg.refl _ _⟩
        case rest =>
          obtain ⟨rfl, H', wH', hob2, cB⟩ := hcut
          obtain ⟨w4, rfl⟩ : ∃ w4, w4 = wc := ⟨_, rfl⟩
          have hT := h1.chg cB (by have := HGO.out; omega)
          have hRt := hr1.chg cB (by have := HRO.out; omega)
          have cc := cc1.new HWO.out cB
          clear hob
          have hob := hob2
          clear h1 hr1 cc1 hob2 cB hb0 hb1 hb2 hb3 bf1 HO HN wH
          have hb0 : w4.cell? ⟨ob, 0, none⟩ = some (.int .i64 K) := hob.cell 0
          have hb1 : w4.cell? ⟨ob, 1, none⟩ = some (.int .i64 H') := hob.cell 1
          have hb2 : w4.cell? ⟨ob, 2, none⟩ = some (.int .i64 X) := hob.cell 2
          by_cases hof : ∃ p, Of S p H'
          · obtain ⟨p, ho⟩ := hof
            have hp0 : decide ((p : Int) < 0) = false := by simp
            have hp1 : decide ((p : Int) ≥ 0) = true := by simp
            go_wp2_with fail
            refine (rplace_yes hRt HB0.out ho).mono ?_
            rintro e w5 ⟨rfl, rfl⟩
            go_upto_block 2 with fail
            go_cut [10, 36] from 36 to 240 (fun okv i wx => okv = .bool true ∧ i = .int .i64 k ∧ ∃ S', Tb wx g S' ∧ Rt wx r S' ∧ Bd S' (k + 1) ∧ Grow w wx)
            case first =>
              have HT := hide hT
              have HRT := hide hRt
              have HOB := hide hob
              have HCC := hide cc
              clear hT hRt hob cc
              by_cases h1 : K = 1
              · subst h1
                as_aux_lemma =>
                obtain ⟨y, z, S', hS, HC⟩ := new_any HB0.out X
                replace HC := hide HC
                have HS := hide hS
                clear hS
                go_wp2_with fail
                refine (HC.out _ _ HT.out).mono ?_
                rintro e w5 ⟨rfl, h5, c5⟩
                have R5 := HRT.out.chg c5 (by have := HRE.out; omega)
                have hb2 : w5.cell? ⟨ob, 2, none⟩ = some (.int .i64 X) := (HOB.out.chg c5 (by have := HGO.out; omega)).cell 2
                have cc5 := HCC.out.new HG.out c5
                clear c5
                go_wp2_with fail
                refine (rnew_any HB0.out HS.out R5).mono ?_
                rintro e w6 ⟨rfl, r6, c6⟩
                have h6 := h5.chg c6 (by have := HRE.out; omega)
                have cc6 := cc5.new (by have := HRE.out; have := HG.out; omega) c6
                clear h5 R5 c6 cc5 hb2
                go_wp2_with fail
                go_meet
                case rel => exact ⟨by simp, rfl, S', h6, r6, (HS.out.bd HBK.out).mono (Nat.le_succ k), cc6⟩
              · have q1 : (K == 1) = false := by simpa using h1
                by_cases h2 : K = 2
                · subst h2
                  as_aux_lemma =>
                  have HV := hide (get_yes HT.out HB0.out ho)
                  obtain ⟨x, hx, hxv⟩ := HRT.out.c2 ho.1
                  rw [hxv ho.2.1] at hx
                  have hpi : (p : Int) < 64 := by have := ho.1; omega
                  have hmx : ∀ ts ty W, (Builtin.max_ ts ty #[.int .i64 (p : Int), .int .i64 0]).run Try.prog W = .ok (.int .i64 (p : Int)) W := fun ts ty W => by
                    rw [run_max_int2, show (if (p : Int) < 0 then (0 : Int) else (p : Int)) = (p : Int) by rw [if_neg (by omega)]]
                  have HMX := hide hmx
                  clear hxv hmx ho
                  go_wp2_with fail
                  refine HV.out.mono ?_
                  rintro e w5 ⟨rfl, c5⟩
                  have h5 := HT.out.grow c5
                  have r5 := HRT.out.grow c5
                  have cc5 := HCC.out.trans c5
                  replace hx := c5.cell hx
                  have hmx := HMX.out
                  clear c5 HV
                  go_wp2_with fail
                  go_meet
                  case rel => exact ⟨by simp, rfl, S, h5, r5, HBK.out.mono (Nat.le_succ k), cc5⟩
                · have q2 : (K == 2) = false := by simpa using h2
                  by_cases h3 : K = 3
                  · subst h3
                    as_aux_lemma =>
                    have HV := hide (set_yes HT.out HB0.out ho X)
                    obtain ⟨x, hx, hxv⟩ := HRT.out.c2 ho.1
                    have hpi : (p : Int) < 64 := by have := ho.1; omega
                    have hp64 := ho.1
                    have hbd : Bd (upd S p { S p with v := X }) (k + 1) := (HBK.out.mono (Nat.le_succ k)).upd (by have := HBK.out p hp64; dsimp only; omega)
                    have HBD := hide hbd
                    clear hxv ho hbd
                    go_wp2_with fail
                    refine HV.out.mono ?_
                    rintro e w5 ⟨rfl, h5, c5⟩
                    have r5 := HRT.out.chg c5 (by have := HRE.out; omega)
                    have cc5 := HCC.out.new HG.out c5
                    replace hx := c5.cell hx (by have := HRE.out; dsimp only; omega)
                    have hb2 : w5.cell? ⟨ob, 2, none⟩ = some (.int .i64 X) := (HOB.out.chg c5 (by have := HGO.out; omega)).cell 2
                    have f2 := r5.frozen (128 + p)
                    clear c5 HV
                    go_wp2_with fail
                    go_still_tail 7, (by kernel_rfl)
                    change wpList _ _ _ _ _ (World.drew _)
                    have hb2' : w5.drew.cell? ⟨ob, 2, none⟩ = some (.int .i64 X) := hb2
                    have f2' : w5.drew.frozen? ⟨r, 128 + p, none⟩ = false := f2
                    have hx' : w5.drew.cell? ⟨r, 128 + p, none⟩ = some (.int .i64 x) := hx
                    have r6 := hide (r5.drew.setX hp64 X)
                    have h6 := hide (h5.drew.chg ((Chg.refl (· = r) w5.drew).set1 (128 + p) (.int .i64 X)) (by have := HRE.out; omega))
                    have cc6 := hide (cc5.drew.new (by have := HRE.out; have := HG.out; omega) ((Chg.refl (· = r) w5.drew).set1 (128 + p) (.int .i64 X)))
                    clear hb2 f2 hx r5 h5 cc5
                    go_wp2_with fail
                    go_meet
                    case rel => exact ⟨by simp, rfl, _, h6.out, r6.out, HBD.out, cc6.out⟩
                  · have q3 : (K == 3) = false := by simpa using h3
                    by_cases h4 : K = 4
                    · subst h4
                      as_aux_lemma =>
                      have HV := hide (drop_yes HT.out HB0.out ho)
                      have hpi : (p : Int) < 64 := by have := ho.1; omega
                      have hp64 := ho.1
                      have htp := ho.2.1
                      have hbd : Bd (upd S p ⟨(S p).e + 1, false, 0⟩) (k + 1) := (HBK.out.mono (Nat.le_succ k)).upd (by have := HBK.out p hp64; dsimp only; omega)
                      have HBD := hide hbd
                      have HTP := hide htp
                      clear ho hbd htp
                      go_wp2_with fail
                      refine HV.out.mono ?_
                      rintro e w5 ⟨rfl, h5, c5⟩
                      have r5 := HRT.out.chg c5 (by have := HRE.out; omega)
                      have cc5 := HCC.out.new HG.out c5
                      have hx := r5.c1 hp64
                      have f2 := r5.frozen (64 + p)
                      have r6 := hide (r5.drop hp64 HTP.out)
                      have h6 := hide (h5.chg ((Chg.refl (· = r) w5).set1 (64 + p) (.bool false)) (by have := HRE.out; omega))
                      have cc6 := hide (cc5.new (by have := HRE.out; have := HG.out; omega) ((Chg.refl (· = r) w5).set1 (64 + p) (.bool false)))
                      clear c5 HV r5 h5 cc5
                      go_wp2_with fail
                      go_meet
                      case rel => exact ⟨by simp, rfl, _, h6.out, r6.out, HBD.out, cc6.out⟩
                    · have q4 : (K == 4) = false := by simpa using h4
                      by_cases h5 : K = 5
                      · subst h5
                        as_aux_lemma =>
                        have hmf := HM.out
                        go_wp2_with fail
                        refine (each_by 18 #[ptr ob] (enters_of Try.func18 (by kernel_rfl) rfl) (fun x => wrap64 (x + X)) (fun _ => False) (fun B l W => Blk W ob 36 [.int .i64 5, .int .i64 H', .int .i64 X, .bool o]) HT.out HB0.out id (fun _ h => h.elim)
                          (fun w1 c => HOB.out.chg c id) (fun B l W W' hI hB c => hI.chg c (by have := HGO.out; omega))
                          (fun B l x W hI hB hBW hl => (adds_any hI x).mono (fun e W' ⟨he, hw⟩ => ⟨he, hw ▸ hI, hw ▸ Chg.refl _ _⟩))).mono ?_
                        rintro e w5 ⟨rfl, ⟨B, hob5, _, _⟩, h5, c5⟩
                        have R5 := HRT.out.chg c5 (fun hx => by have := HRE.out; rcases hx with hx | hx; omega; exact hx)
                        have cc5 := HCC.out.new HG.out (c5.mono (fun i _ hx => hx.elim id False.elim))
                        have H5 := hide h5
                        have HOB5 := hide hob5
                        have HX := hide (mx_zero S X)
                        clear c5 h5 hob5 hmf
                        go_wp2_with fail
                        go_loopw [172] (fun i wr => ∃ j : Nat, i = .int .i64 j ∧ j ≤ 64 ∧ Rt wr r (mx S X j) ∧ Chg (· = r) w5 wr) (fun i _ => 64 - (intOf i).toNat)
                        case atStart => exact ⟨0, rfl, Nat.zero_le _, by rw [HX.out]; exact R5, Chg.refl _ _⟩
                        case round =>
                          clear R5
                          obtain ⟨j, rfl, hj, rj, cj⟩ := hrel
                          by_cases hj64 : j < 64
                          · have hji : (j : Int) < 64 := by omega
                            obtain ⟨x, hx, hxv⟩ := rj.c2 hj64
                            rw [mx_at] at hxv
                            have hb2 : wr.cell? ⟨ob, 2, none⟩ = some (.int .i64 X) := (HOB5.out.chg cj (by have := HRO.out; omega)).cell 2
                            have f2 := rj.frozen (128 + j)
                            have RJ := hide ((rj.lay hj64 (y := wrap64 (x + X)) (v := wrap64 ((S j).v + X)) (fun ht => by rw [mx_at] at ht; rw [hxv ht])).eq (mx_succ S X j))
                            clear rj hxv
                            go_wp2_with fail
                            go_still_tail 14, (by kernel_rfl)
                            change wpList _ _ _ _ _ (World.drew _)
                            have hb2' : wr.drew.cell? ⟨ob, 2, none⟩ = some (.int .i64 X) := hb2
                            have f2' : wr.drew.frozen? ⟨r, 128 + j, none⟩ = false := f2
                            have hx' : wr.drew.cell? ⟨r, 128 + j, none⟩ = some (.int .i64 x) := hx
                            clear hb2 f2 hx
                            go_wp2_with fail
                            go_roundw
                            case rel => exact ⟨j + 1, by simp, by omega, RJ.out, cj.drew.set1 _ _⟩
                            case measure => simp [intOf]; omega
                          · obtain rfl : j = 64 := by omega
                            have cc7 := cc5.new (by have := HRE.out; have := HG.out; omega) cj
                            have h7 := H5.out.chg cj (by have := HRE.out; omega)
                            have r7 := rj.eq (mx_all S X)
                            clear rj cj
                            go_wp2_with fail
                            go_meet
                            case rel => exact ⟨rfl, rfl, _, h7, r7, stt_bd (HBK.out.mono (Nat.le_succ k)), cc7⟩
                      · have q5 : (K == 5) = false := by simpa using h5
                        as_aux_lemma =>
                        go_wp2_with fail
                        go_meet
                        case rel => exact ⟨rfl, rfl, S, HT.out, HRT.out, HBK.out.mono (Nat.le_succ k), HCC.out⟩
            case rest =>
              clear ho hT hRt cc hob hb0 hb1 hb2 hp0 hp1
              as_aux_lemma =>
              obtain ⟨rfl, rfl, S', hT, hRt, hB, cc⟩ := hcut
              obtain ⟨w7, rfl⟩ : ∃ w7, w7 = wc := ⟨_, rfl⟩
              have HB1 := hide hB
              have HB2 := hide (hB.mono (show k + 1 ≤ 1000000 by have := HLT.out; have := HL.out; omega))
              clear hB
              go_wp2_with fail
              refine (rall_is hRt HB2.out).mono ?_
              rintro e w8 ⟨v, rfl, hown, c8⟩
              obtain ⟨m, hm⟩ : ∃ m, (hs S' 64).length = m := ⟨_, rfl⟩
              rw [hm] at hown
              have HMM := hide hm
              obtain ⟨ma, mcap, rfl⟩ := own_len hown
              have HNOW := hide hown
              replace hT := hT.grow c8
              replace hRt := hRt.grow c8
              replace cc := cc.trans c8
              have HLEN := hide (len_any hT HB2.out)
              rw [hm] at HLEN
              clear c8 hown hm
              go_wp2_with fail
              refine HLEN.out.mono ?_
              rintro e w9 ⟨rfl, c9⟩
              replace HNOW := hide (own_grow HNOW.out c9)
              replace hT := hT.grow c9
              replace hRt := hRt.grow c9
              replace cc := cc.trans c9
              clear c9 HLEN
              go_wp2_with fail
              refine (all_is hT HB2.out).mono ?_
              rintro e w10 ⟨v, rfl, hown, c10⟩
              rw [HMM.out] at hown
              obtain ⟨va, vcap, rfl⟩ := own_len hown
              have HALL := hide hown
              replace HNOW := hide (own_grow HNOW.out c10)
              replace hT := hT.grow c10
              replace hRt := hRt.grow c10
              replace cc := cc.trans c10
              have hm64 : m ≤ 64 := HMM.out ▸ hs_length S' 64
              clear c10 hown
              go_wp2_with fail
              refine (L1.same_yes _ _ m _ _ (hs S' 64) _ (own_rd HALL.out) (own_rd HNOW.out) (by omega)).mono ?_
              rintro e w11 ⟨rfl, c11⟩
              replace HNOW := hide (own_grow HNOW.out c11)
              have HT3 := hide (hT.grow c11)
              have HR3 := hide (hRt.grow c11)
              have HCC3 := hide (cc.trans c11)
              clear c11 HALL hT hRt cc
              go_wp2_with fail
              go_loopw [210] (fun i wr => ∃ j : Nat, i = .int .i64 j ∧ j ≤ m ∧ Grow w11 wr) (fun i _ => m - (intOf i).toNat)
              case atStart => exact ⟨0, rfl, Nat.zero_le _, Chg.refl _ _⟩
              case round =>
                obtain ⟨j, rfl, hj, c⟩ := hrel
                by_cases hjm : j < m
                · have hji : (j : Int) < m := by omega
                  obtain ⟨lg2, cap2, e1, _, _, _, _, hcl⟩ := own_ints HNOW.out (by omega)
                  cases e1
                  obtain ⟨i, _, hi, ht, eh, _, _⟩ := ix_at (S := S') (n := 64) (k := j) (by rw [← hs_len, HMM.out]; exact hjm)
                  have hc := c.cell (hcl j hjm)
                  rw [eh] at hc
                  have HOF : Hid (Of S' i (hd S' i : Nat)) := hide ⟨hi, ht, rfl⟩
                  obtain ⟨y, hy⟩ : ∃ y : Int, (hd S' i : Nat) = y := ⟨_, rfl⟩
                  rw [hy] at hc HOF
                  have HGT := hide (get_yes (HT3.out.grow c) HB2.out HOF.out)
                  obtain ⟨x, hx, hxv⟩ := (HR3.out.grow c).c2 hi
                  rw [hxv ht] at hx
                  have HR4 := hide (HR3.out.grow c)
                  have hii : (i : Int) < 64 := by omega
                  generalize (S' i).v = vv at *
                  clear eh hcl hxv hy ht
                  go_wp2_with fail
                  refine HGT.out.mono ?_
                  rintro e w12 ⟨rfl, c12⟩
                  replace hc := c12.cell hc
                  replace hx := c12.cell hx
                  replace HR4 := hide (HR4.out.grow c12)
                  replace c := c.trans c12
                  clear c12 HGT
                  go_wp2_with fail
                  refine wp_region_grow (by kernel_rfl) (by kernel_rfl) ?_
                  repeat (
                    with_reducible refine wpQuiet_step ?_
                    intro K hK
                    first
                      | ((with_reducible refine quiet_offT rfl ?_ (hK _ ?_)); focus (refine ⟨_, rfl, ?_⟩; with_reducible rfl))
                      | ((with_reducible refine quiet_offF rfl ?_ (hK _ ?_)); focus (refine ⟨_, rfl, ?_⟩; with_reducible rfl))
                      | ((with_reducible refine quiet_offN rfl ?_ (hK _ ?_)); focus (exact rfl))
                      | ((first | with_reducible refine quiet_free rfl ?_ | ((with_reducible refine quiet_on rfl ?_ ?_); focus (refine ⟨_, rfl, ?_⟩; with_reducible rfl)))
                         apply Exists.intro
                         refine ⟨fun Wq hW => ?_, hK _ ?_⟩
                         focus (have q0 := Grow.cell hW hc; have q1 := Grow.cell hW hx; go_simp; first | done | with_reducible rfl | (go_at_call 11; (first | with_reducible exact grown_call hW (rplace_yes (HR4.out.grow hW) HB2.out HOF.out) | with_reducible exact grown_same hW (rplace_yes (HR4.out.grow hW) HB2.out HOF.out)))))
                    clear hK K
                    simp only [Act.put, List.setIfInBounds_toArray, List.set_cons_zero, List.set_cons_succ])
                  with_reducible refine wpQuiet_nil ?_
                  intro w13 c13
                  go_wp2_with fail
                  go_roundw
                  case rel => exact ⟨j + 1, by simp, by omega, c.trans c13⟩
                  case measure => simp [intOf]; omega
                · obtain rfl : j = m := by omega
                  have hT4 := HT3.out.grow c
                  have hR4 := HR3.out.grow c
                  have cc4 := HCC3.out.trans c
                  have hk300 : k < 300 := by have := HLT.out; have := HL.out; omega
                  go_wp2_with fail
                  go_roundw
                  case rel => exact ⟨k + 1, S', by simp, HLT.out, hT4, hR4, HB1.out, cc4⟩
                  case measure => have := HLT.out; simp [intOf]; omega
          · have ho : ∀ i, ¬ Of S i H' := fun i hi => hof ⟨i, hi⟩
            clear hof
            go_wp2_with fail
            refine (rplace_no hRt HB0.out ho).mono ?_
            rintro e w5 ⟨rfl, rfl⟩
            go_upto_block 2 with fail
            go_cut [10, 36] from 36 to 240 (fun okv i wx => okv = .bool true ∧ i = .int .i64 k ∧ ∃ S', Tb wx g S' ∧ Rt wx r S' ∧ Bd S' (k + 1) ∧ Grow w wx)
            case first =>
              have HT := hide hT
              have HRT := hide hRt
              have HOB := hide hob
              have HCC := hide cc
              clear hT hRt hob cc
              by_cases h1 : K = 1
              · subst h1
                as_aux_lemma =>
                obtain ⟨y, z, S', hS, HC⟩ := new_any HB0.out X
                replace HC := hide HC
                have HS := hide hS
                clear hS
                go_wp2_with fail
                refine (HC.out _ _ HT.out).mono ?_
                rintro e w5 ⟨rfl, h5, c5⟩
                have R5 := HRT.out.chg c5 (by have := HRE.out; omega)
                have hb2 : w5.cell? ⟨ob, 2, none⟩ = some (.int .i64 X) := (HOB.out.chg c5 (by have := HGO.out; omega)).cell 2
                have cc5 := HCC.out.new HG.out c5
                clear c5
                go_wp2_with fail
                refine (rnew_any HB0.out HS.out R5).mono ?_
                rintro e w6 ⟨rfl, r6, c6⟩
                have h6 := h5.chg c6 (by have := HRE.out; omega)
                have cc6 := cc5.new (by have := HRE.out; have := HG.out; omega) c6
                clear h5 R5 c6 cc5 hb2
                go_wp2_with fail
                go_meet
                case rel => exact ⟨by simp, rfl, S', h6, r6, (HS.out.bd HBK.out).mono (Nat.le_succ k), cc6⟩
              · have q1 : (K == 1) = false := by simpa using h1
                by_cases h2 : K = 2
                · subst h2
                  as_aux_lemma =>
                  have HV := hide (get_no HT.out HB0.out wH' ho)
                  clear ho
                  go_wp2_with fail
                  refine HV.out.mono ?_
                  rintro e w5 ⟨rfl, c5⟩
                  have h5 := HT.out.grow c5
                  have r5 := HRT.out.grow c5
                  have cc5 := HCC.out.trans c5
                  clear c5 HV
                  go_wp2_with fail
                  go_meet
                  case rel => exact ⟨by simp, rfl, S, h5, r5, HBK.out.mono (Nat.le_succ k), cc5⟩
                · have q2 : (K == 2) = false := by simpa using h2
                  by_cases h3 : K = 3
                  · subst h3
                    as_aux_lemma =>
                    have HV := hide (set_no HT.out HB0.out wH' ho X)
                    clear ho
                    go_wp2_with fail
                    refine HV.out.mono ?_
                    rintro e w5 ⟨rfl, c5⟩
                    have h5 := HT.out.grow c5
                    have r5 := HRT.out.grow c5
                    have cc5 := HCC.out.trans c5
                    clear c5 HV
                    go_wp2_with fail
                    go_meet
                    case rel => exact ⟨by simp, rfl, S, h5, r5, HBK.out.mono (Nat.le_succ k), cc5⟩
                  · have q3 : (K == 3) = false := by simpa using h3
                    by_cases h4 : K = 4
                    · subst h4
                      as_aux_lemma =>
                      have HV := hide (drop_no HT.out HB0.out wH' ho)
                      clear ho
                      go_wp2_with fail
                      refine HV.out.mono ?_
                      rintro e w5 ⟨rfl, c5⟩
                      have h5 := HT.out.grow c5
                      have r5 := HRT.out.grow c5
                      have cc5 := HCC.out.trans c5
                      clear c5 HV
                      go_wp2_with fail
                      go_meet
                      case rel => exact ⟨by simp, rfl, S, h5, r5, HBK.out.mono (Nat.le_succ k), cc5⟩
                    · have q4 : (K == 4) = false := by simpa using h4
                      by_cases h5 : K = 5
                      · subst h5
                        as_aux_lemma =>
                        have hmf := HM.out
                        go_wp2_with fail
                        refine (each_by 18 #[ptr ob] (enters_of Try.func18 (by kernel_rfl) rfl) (fun x => wrap64 (x + X)) (fun _ => False) (fun B l W => Blk W ob 36 [.int .i64 5, .int .i64 H', .int .i64 X, .bool o]) HT.out HB0.out id (fun _ h => h.elim)
                          (fun w1 c => HOB.out.chg c id) (fun B l W W' hI hB c => hI.chg c (by have := HGO.out; omega))
                          (fun B l x W hI hB hBW hl => (adds_any hI x).mono (fun e W' ⟨he, hw⟩ => ⟨he, hw ▸ hI, hw ▸ Chg.refl _ _⟩))).mono ?_
                        rintro e w5 ⟨rfl, ⟨B, hob5, _, _⟩, h5, c5⟩
                        have R5 := HRT.out.chg c5 (fun hx => by have := HRE.out; rcases hx with hx | hx; omega; exact hx)
                        have cc5 := HCC.out.new HG.out (c5.mono (fun i _ hx => hx.elim id False.elim))
                        have H5 := hide h5
                        have HOB5 := hide hob5
                        have HX := hide (mx_zero S X)
                        clear c5 h5 hob5 hmf
                        go_wp2_with fail
                        go_loopw [172] (fun i wr => ∃ j : Nat, i = .int .i64 j ∧ j ≤ 64 ∧ Rt wr r (mx S X j) ∧ Chg (· = r) w5 wr) (fun i _ => 64 - (intOf i).toNat)
                        case atStart => exact ⟨0, rfl, Nat.zero_le _, by rw [HX.out]; exact R5, Chg.refl _ _⟩
                        case round =>
                          clear R5
                          obtain ⟨j, rfl, hj, rj, cj⟩ := hrel
                          by_cases hj64 : j < 64
                          · have hji : (j : Int) < 64 := by omega
                            obtain ⟨x, hx, hxv⟩ := rj.c2 hj64
                            rw [mx_at] at hxv
                            have hb2 : wr.cell? ⟨ob, 2, none⟩ = some (.int .i64 X) := (HOB5.out.chg cj (by have := HRO.out; omega)).cell 2
                            have f2 := rj.frozen (128 + j)
                            have RJ := hide ((rj.lay hj64 (y := wrap64 (x + X)) (v := wrap64 ((S j).v + X)) (fun ht => by rw [mx_at] at ht; rw [hxv ht])).eq (mx_succ S X j))
                            clear rj hxv
                            go_wp2_with fail
                            go_still_tail 14, (by kernel_rfl)
                            change wpList _ _ _ _ _ (World.drew _)
                            have hb2' : wr.drew.cell? ⟨ob, 2, none⟩ = some (.int .i64 X) := hb2
                            have f2' : wr.drew.frozen? ⟨r, 128 + j, none⟩ = false := f2
                            have hx' : wr.drew.cell? ⟨r, 128 + j, none⟩ = some (.int .i64 x) := hx
                            clear hb2 f2 hx
                            go_wp2_with fail
                            go_roundw
                            case rel => exact ⟨j + 1, by simp, by omega, RJ.out, cj.drew.set1 _ _⟩
                            case measure => simp [intOf]; omega
                          · obtain rfl : j = 64 := by omega
                            have cc7 := cc5.new (by have := HRE.out; have := HG.out; omega) cj
                            have h7 := H5.out.chg cj (by have := HRE.out; omega)
                            have r7 := rj.eq (mx_all S X)
                            clear rj cj
                            go_wp2_with fail
                            go_meet
                            case rel => exact ⟨rfl, rfl, _, h7, r7, stt_bd (HBK.out.mono (Nat.le_succ k)), cc7⟩
                      · have q5 : (K == 5) = false := by simpa using h5
                        as_aux_lemma =>
                        go_wp2_with fail
                        go_meet
                        case rel => exact ⟨rfl, rfl, S, HT.out, HRT.out, HBK.out.mono (Nat.le_succ k), HCC.out⟩
            case rest =>
              clear ho hT hRt cc hob hb0 hb1 hb2
              as_aux_lemma =>
              obtain ⟨rfl, rfl, S', hT, hRt, hB, cc⟩ := hcut
              obtain ⟨w7, rfl⟩ : ∃ w7, w7 = wc := ⟨_, rfl⟩
              have HB1 := hide hB
              have HB2 := hide (hB.mono (show k + 1 ≤ 1000000 by have := HLT.out; have := HL.out; omega))
              clear hB
              go_wp2_with fail
              refine (rall_is hRt HB2.out).mono ?_
              rintro e w8 ⟨v, rfl, hown, c8⟩
              obtain ⟨m, hm⟩ : ∃ m, (hs S' 64).length = m := ⟨_, rfl⟩
              rw [hm] at hown
              have HMM := hide hm
              obtain ⟨ma, mcap, rfl⟩ := own_len hown
              have HNOW := hide hown
              replace hT := hT.grow c8
              replace hRt := hRt.grow c8
              replace cc := cc.trans c8
              have HLEN := hide (len_any hT HB2.out)
              rw [hm] at HLEN
              clear c8 hown hm
              go_wp2_with fail
              refine HLEN.out.mono ?_
              rintro e w9 ⟨rfl, c9⟩
              replace HNOW := hide (own_grow HNOW.out c9)
              replace hT := hT.grow c9
              replace hRt := hRt.grow c9
              replace cc := cc.trans c9
              clear c9 HLEN
              go_wp2_with fail
              refine (all_is hT HB2.out).mono ?_
              rintro e w10 ⟨v, rfl, hown, c10⟩
              rw [HMM.out] at hown
              obtain ⟨va, vcap, rfl⟩ := own_len hown
              have HALL := hide hown
              replace HNOW := hide (own_grow HNOW.out c10)
              replace hT := hT.grow c10
              replace hRt := hRt.grow c10
              replace cc := cc.trans c10
              have hm64 : m ≤ 64 := HMM.out ▸ hs_length S' 64
              clear c10 hown
              go_wp2_with fail
              refine (L1.same_yes _ _ m _ _ (hs S' 64) _ (own_rd HALL.out) (own_rd HNOW.out) (by omega)).mono ?_
              rintro e w11 ⟨rfl, c11⟩
              replace HNOW := hide (own_grow HNOW.out c11)
              have HT3 := hide (hT.grow c11)
              have HR3 := hide (hRt.grow c11)
              have HCC3 := hide (cc.trans c11)
              clear c11 HALL hT hRt cc
              go_wp2_with fail
              go_loopw [210] (fun i wr => ∃ j : Nat, i = .int .i64 j ∧ j ≤ m ∧ Grow w11 wr) (fun i _ => m - (intOf i).toNat)
              case atStart => exact ⟨0, rfl, Nat.zero_le _, Chg.refl _ _⟩
              case round =>
                obtain ⟨j, rfl, hj, c⟩ := hrel
                by_cases hjm : j < m
                · have hji : (j : Int) < m := by omega
                  obtain ⟨lg2, cap2, e1, _, _, _, _, hcl⟩ := own_ints HNOW.out (by omega)
                  cases e1
                  obtain ⟨i, _, hi, ht, eh, _, _⟩ := ix_at (S := S') (n := 64) (k := j) (by rw [← hs_len, HMM.out]; exact hjm)
                  have hc := c.cell (hcl j hjm)
                  rw [eh] at hc
                  have HOF : Hid (Of S' i (hd S' i : Nat)) := hide ⟨hi, ht, rfl⟩
                  obtain ⟨y, hy⟩ : ∃ y : Int, (hd S' i : Nat) = y := ⟨_, rfl⟩
                  rw [hy] at hc HOF
                  have HGT := hide (get_yes (HT3.out.grow c) HB2.out HOF.out)
                  obtain ⟨x, hx, hxv⟩ := (HR3.out.grow c).c2 hi
                  rw [hxv ht] at hx
                  have HR4 := hide (HR3.out.grow c)
                  have hii : (i : Int) < 64 := by omega
                  generalize (S' i).v = vv at *
                  clear eh hcl hxv hy ht
                  go_wp2_with fail
                  refine HGT.out.mono ?_
                  rintro e w12 ⟨rfl, c12⟩
                  replace hc := c12.cell hc
                  replace hx := c12.cell hx
                  replace HR4 := hide (HR4.out.grow c12)
                  replace c := c.trans c12
                  clear c12 HGT
                  go_wp2_with fail
                  refine wp_region_grow (by kernel_rfl) (by kernel_rfl) ?_
                  repeat (
                    with_reducible refine wpQuiet_step ?_
                    intro K hK
                    first
                      | ((with_reducible refine quiet_offT rfl ?_ (hK _ ?_)); focus (refine ⟨_, rfl, ?_⟩; with_reducible rfl))
                      | ((with_reducible refine quiet_offF rfl ?_ (hK _ ?_)); focus (refine ⟨_, rfl, ?_⟩; with_reducible rfl))
                      | ((with_reducible refine quiet_offN rfl ?_ (hK _ ?_)); focus (exact rfl))
                      | ((first | with_reducible refine quiet_free rfl ?_ | ((with_reducible refine quiet_on rfl ?_ ?_); focus (refine ⟨_, rfl, ?_⟩; with_reducible rfl)))
                         apply Exists.intro
                         refine ⟨fun Wq hW => ?_, hK _ ?_⟩
                         focus (have q0 := Grow.cell hW hc; have q1 := Grow.cell hW hx; go_simp; first | done | with_reducible rfl | (go_at_call 11; (first | with_reducible exact grown_call hW (rplace_yes (HR4.out.grow hW) HB2.out HOF.out) | with_reducible exact grown_same hW (rplace_yes (HR4.out.grow hW) HB2.out HOF.out)))))
                    clear hK K
                    simp only [Act.put, List.setIfInBounds_toArray, List.set_cons_zero, List.set_cons_succ])
                  with_reducible refine wpQuiet_nil ?_
                  intro w13 c13
                  go_wp2_with fail
                  go_roundw
                  case rel => exact ⟨j + 1, by simp, by omega, c.trans c13⟩
                  case measure => simp [intOf]; omega
                · obtain rfl : j = m := by omega
                  have hT4 := HT3.out.grow c
                  have hR4 := HR3.out.grow c
                  have cc4 := HCC3.out.trans c
                  have hk300 : k < 300 := by have := HLT.out; have := HL.out; omega
                  go_wp2_with fail
                  go_roundw
                  case rel => exact ⟨k + 1, S', by simp, HLT.out, hT4, hR4, HB1.out, cc4⟩
                  case measure => have := HLT.out; simp [intOf]; omega
    · obtain rfl : k = len := by omega
      go_wp2
      go_ret
      exact ⟨rfl, cc.below (fun _ _ h => h) (Nat.le_refl _)⟩
theorem walk (a : Option Addr) (len cap : Nat) (rows : List (List Value)) (w : World) (hr : IsOps w a len cap rows) :
    Calls Try.prog 3 #[.slice a len cap] w fun e w' => e = .returned (.bool true) ∧ Below w.heap.size w w' := by
  by_cases hl : 300 < len
  · exact walk_long a len cap w hl
  · exact walk_short a len cap rows w (by omega) hr

theorem own : ownKnob Try.prog.godebug = none := by kernel_rfl
theorem laidOut : laidOutB Try.prog = true := by kernel_rfl

set_option maxRecDepth 100000 in
theorem lifted (os : Os) (started : os.Started) (H : Type) (enc : TypeId × Value → H) :
    ReturnsInHanded {} Try.checked os 3 .any (Rows.handlePlaysSpec.pre6 enc Try.prog Try.f3 Rows.handlePlaysRow.domain false) (Rows.handlePlaysSpec.post enc Try.prog Try.f3 false true false false) := by
  refine returnsInHanded_of_change (C := Try.checked) own started (by kernel_rfl) Try.func3
    (ChangeSpec.witness6 (enc := enc) (C := Try.checked) false ⟨#[], #[.slice none 0 0], []⟩ 8 (by kernel_rfl) (by kernel_rfl) (by kernel_rfl) (by kernel_rfl)) ?_
  intro W base args ds gs before hval0 hW hcnd _
  have hval : ∀ (j : Nat) t v, Try.f3.params[j]? = some t → args[j]? = some v → Value.okWide Try.prog W .any base t v := hval0
  have hW' := hW
  obtain ⟨p, q, hA0, hV, rfl, hfz, hnd⟩ := hW
  have hA : DataW.TrodAll enc Try.prog W 0 (fun _ => true) true Try.f3.params.toList args.toList ds p := hA0
  rw [Try.params3] at hA hval
  obtain ⟨v0, vs0, d0, ds0, p0, q0, hargs, rfl, rfl, h0, r0⟩ := trodAll_cons hA
  obtain ⟨rfl, rfl, rfl⟩ := trodAll_nil r0
  obtain rfl : args = #[v0] := by cases args; simp_all
  obtain ⟨rfl, rfl⟩ := trodVars_none hV
  have k0 := h0
  have lt0 : ∀ x ∈ p0, x.block < W.heap.size := by obtain ⟨m, hm⟩ := k0; exact DataW.trod_lt m _ _ _ hm
  obtain ⟨a0, len0, cap0, rows0, rfl, w0⟩ := open_ops (hval 0 22 v0 rfl rfl) h0
  clear hA0 hval0
  refine (walk a0 len0 cap0 rows0 W w0).mono fun e W' ⟨he, bel⟩ => ?_
  subst he
  exact ⟨_, rfl, _, _, _, [], _, [], hW', trodAll_mk1 (shut_bool Try.underlying4 _), (trodAll_cons_mk (Below.trod laidOut (by kernel_rfl) (of_decide_eq_true (by kernel_rfl)) k0 bel lt0) trodAll_mk0), rfl, bel.frame _, fun h => by cases h⟩

theorem over : Rows.handlePlaysRow.holds Try.pinned (OpenSpec.ofChange Rows.handlePlaysSpec) :=
  OpenClaim.holds_of_wide 3 Try.f3 rfl rfl rfl rfl rfl rfl rfl ⟨rfl, rfl, rfl, rfl, rfl⟩ rfl rfl rfl rfl rfl (by kernel_rfl) Try.func3 (by kernel_rfl)
    (of_decide_eq_true (by kernel_rfl)) (by unfold Func.isWrapper; first | (rw [if_pos (by decide +kernel)]; kernel_rfl) | (rw [if_neg (by decide +kernel)]; exact ⟨rfl, rfl⟩))
    (fun os started H enc _ => lifted os started H enc)

/-- The statement. -/
theorem proved : Rows.HandlePlaysSaid := over
#print axioms proved
end Go.Proofs.Ytmklmoahkcekiaa.handlePlays


/- For all numbers HandleOnce answers true: no handle is ever told twice, whatever is dropped in between, and one that was dropped is never there again. Conditions: none. -/
import Derived.Test.YtmklmoahkcekiaaL8Hist
import Derived.ShutString
namespace Go.Proofs.Ytmklmoahkcekiaa.handleOnce
open Go.ChangeShapes Go.WideShapes Go.ChangeAt Go.RowKit Go.Maps Go.Proofs.Ytmklmoahkcekiaa.L8
set_option linter.unusedVariables false

set_option maxHeartbeats 1000000 in
set_option maxRecDepth 100000 in
theorem walk_long (a : Option Addr) (len cap : Nat) (w : World) (hl : 300 < len) :
    Calls Try.prog 4 #[.slice a len cap] w fun e w' => e = .returned (.bool true) ∧ Below w.heap.size w w' := by
  go_enter Try.func4, Try.ntmps4
  go_wp2_with fail
  refine (awake_any _).mono ?_
  rintro e wa ⟨rfl, ca⟩
  go_wp2_with fail
  refine (awake_any _).mono ?_
  rintro e wb ⟨rfl, cb⟩
  go_wp2
  go_ret
  exact ⟨rfl, (ca.trans cb).below (fun _ _ h => h) (Nat.le_refl _)⟩
set_option maxHeartbeats 4000000 in
set_option maxRecDepth 100000 in
theorem walk_short (a : Option Addr) (len cap : Nat) (zs : List Int) (w : World) (hl : len ≤ 300) (hr : IsRow .u8 w a len cap zs) :
    Calls Try.prog 4 #[.slice a len cap] w fun e w' => e = .returned (.bool true) ∧ Below w.heap.size w w' := by
  have HR := hide hr
  have hl' : decide ((len : Int) > 300) = false := by simp; omega
  have hmm := @run_makeMap Try.prog
  clear hr
  obtain ⟨A, hz, HZ⟩ := zero_is
  go_enter Try.func4, Try.ntmps4
  go_wp2_with fail
  refine (awake_any _).mono ?_
  rintro e wa ⟨rfl, cc⟩
  go_wp2_with fail
  have h := ((HZ.out wa).grow (Grow.box _ (.map #[] 0))).grow (Grow.box _ (.map #[] 0))
  have hs := (Mp.made (wa.alloc (.cells A 29))).grow (Grow.box _ (.map #[] 0))
  have hg := Mp.made ((wa.alloc (.cells A 29)).alloc (.map #[] 0))
  simp only [World.size_alloc] at hs hg
  have hgw : w.heap.size ≤ wa.heap.size := cc.size
  replace cc := ((cc.alloc (.cells A 29)).alloc (.map #[] 0)).alloc (.map #[] 0)
  generalize ((wa.alloc (.cells A 29)).alloc (.map #[] 0)).alloc (.map #[] 0) = w0 at *
  obtain ⟨g, hge⟩ : ∃ g, wa.heap.size = g := ⟨_, rfl⟩
  rw [hge] at h hs hg hgw ⊢
  obtain ⟨ms, hmse⟩ : ∃ ms, g + 1 = ms := ⟨_, rfl⟩
  rw [hmse] at hs hg ⊢
  obtain ⟨mg, hmge⟩ : ∃ mg, ms + 1 = mg := ⟨_, rfl⟩
  rw [hmge] at hg ⊢
  have HG := hide hgw
  have HM := hide (show g + 1 = ms ∧ ms + 1 = mg from ⟨hmse, hmge⟩)
  have hs0 : Mp w0 ms 0 (0 + (ix (fun _ => zero) 64).length) (sn fun _ => zero) := by rw [zero_ix]; exact hs.iff (fun x => ⟨fun h => zero_sn x h, fun h => h.elim⟩)
  have hg0 : Mp w0 mg 0 0 (gn fun _ => zero) := hg.iff (fun x => ⟨fun h => zero_gn x h, fun h => h.elim⟩)
  clear HZ hz hge hmse hmge hl' hgw hs hg hmm
  go_loopw [29] (fun i wr => ∃ (k : Nat) (S : Nat → Sl) (N : Nat), i = .int .i64 k ∧ k ≤ len ∧ Tb wr g S ∧ Bd S k ∧ Mp wr ms k (N + (ix S 64).length) (sn S) ∧ Mp wr mg k N (gn S) ∧ Grow w wr) (fun i _ => len - (intOf i).toNat)
  case atStart => exact ⟨0, _, 0, rfl, Nat.zero_le _, h, zero_bd 0, hs0, hg0, cc⟩
  case round =>
    clear h hs0 hg0 cc
    obtain ⟨k, S, N, rfl, hk, h, hB, hs, hg, cc⟩ := hrel
    by_cases hlt : k < len
    · have HB0 := hide (hB.mono (show k ≤ 1000000 by omega))
      have HBK := hide hB
      have HLT := hide hlt
      have HL := hide hl
      have hki : (k : Int) < len := by omega
      have hkm : k < maxLen := by unfold maxLen; omega
      have HKM := hide hkm
      obtain ⟨m, hm, hall, hfree⟩ := first_free S 64
      clear hB hlt hl hk hkm
      by_cases hm64 : m < 64
      · have hf := hfree hm64
        have HNW := hide (new_at h HB0.out m hm64 hall hf k)
        have hpos : ((hd S m : Nat) : Int) < 1 → False := by unfold hd; omega
        have hwf : (Lit.int .i64 (hd S m : Nat)).wf = true := WalkArith.wf_i64 (by have := HB0.out m hm64; unfold hd; omega)
        have HF := hide (show (∀ x, sn (upd S m ⟨(S m).e, true, (k : Int)⟩) x ↔ sn S x ∨ x = (hd S m : Nat)) ∧ (∀ x, gn (upd S m ⟨(S m).e, true, (k : Int)⟩) x ↔ gn S x) ∧ ¬ sn S (hd S m : Nat) ∧ (ix (upd S m ⟨(S m).e, true, (k : Int)⟩) 64).length = (ix S 64).length + 1 ∧ Bd (upd S m ⟨(S m).e, true, (k : Int)⟩) k from
          ⟨fun x => new_sn hm64 hf, fun x => new_gn hf, new_fresh hm64 hf, by rw [ix_more 64 hf rfl, if_pos hm64], HBK.out.upd (HBK.out m hm64)⟩)
        obtain ⟨y, hy⟩ : ∃ y : Int, ((hd S m : Nat) : Int) = y := ⟨_, rfl⟩
        rw [hy] at HNW hpos hwf HF
        have hy1 : decide (y < 1) = false := by simpa using hpos
        generalize upd S m ⟨(S m).e, true, (k : Int)⟩ = S1 at *
        have HS5 := hide fun W (c : Chg (· = g) wr W) => hs.chg c (by have := HM.out; omega)
        have HG5 := hide fun W (c : Chg (· = g) wr W) => hg.chg c (by have := HM.out; omega)
        have HLK := hide fun W (c : Chg (· = g) wr W) => (HS5.out W c).look hwf (c := false) (fun hx => absurd hx HF.out.2.2.1) (fun _ => rfl)
        have HWF := hide hwf
        clear hall hfree hf hpos hwf hy h hs hg
        go_wp2_with fail
        refine HNW.out.mono ?_
        rintro e w4 ⟨rfl, h4, c4⟩
        have hlk := HLK.out _ c4
        obtain ⟨w5, hput, hs5, c5⟩ := (HS5.out _ c4).put HWF.out HF.out.2.2.1 HKM.out
        have hg5 := (HG5.out _ c4).chg c5 (by have := HM.out; omega)
        have h5 := h4.chg c5 (by have := HM.out; omega)
        have cc5 := (cc.new HG.out c4).new (by have := HM.out; have := HG.out; omega) c5
        replace hs5 := hs5.iff (fun x => HF.out.1 x)
        replace hg5 := hg5.iff (fun x => HF.out.2.1 x)
        rw [show N + (ix S 64).length + 1 = N + (ix S1 64).length by rw [HF.out.2.2.2.1]; omega] at hs5
        have hBK1 := HF.out.2.2.2.2
        have hB1 := hBK1.mono (show k ≤ 1000000 by have := HLT.out; have := HL.out; omega)
        clear HNW HLK HS5 HG5 HWF HF h4 c4 c5 cc HKM
        have HB1 := hide hB1
        have HBK1 := hide hBK1
        go_wp2_with fail
        refine (all_is h5 HB1.out).mono ?_
        rintro e w6 ⟨v, rfl, hown, c6⟩
        have h6 := h5.grow c6
        have hg6 := hg5.grow c6
        have hs6 := hs5.grow c6
        have cc6 := cc5.trans c6
        have HZ6 := hide (show g < w5.heap.size ∧ ms < w5.heap.size ∧ mg < w5.heap.size from ⟨h5.lt, hs5.lt, hg5.lt⟩)
        rw [hs_len] at hown
        obtain ⟨n, hn⟩ : ∃ n, (ix S1 64).length = n := ⟨_, rfl⟩
        rw [hn] at hown
        have HN64 := hide (show n ≤ 64 from hn ▸ ix_length S1 64)
        obtain ⟨oa, ocap, rfl⟩ := own_len hown
        have HLC : Hid (∀ j, j < n → ∃ lg cap i, Value.slice oa n ocap = .slice (some ⟨lg, 0, none⟩) n cap ∧ w6.cell? ⟨lg, j, none⟩ = some (.int .i64 (hd S1 i : Nat)) ∧ Of S1 i (hd S1 i : Nat)) := hide fun j hj => by
          obtain ⟨lg, cap2, e1, _, _, _, _, hcl⟩ := own_ints hown (by omega)
          obtain ⟨i, _, hi, ht, eh, _, _⟩ := ix_at (S := S1) (n := 64) (k := j) (by rw [hn]; exact hj)
          have hc := hcl j hj
          rw [eh] at hc
          exact ⟨lg, cap2, i, e1, hc, hi, ht, rfl⟩
        have HBASE : Hid (∀ lg c, (Value.slice oa n ocap) = .slice (some ⟨lg, 0, none⟩) n c → w5.heap.size ≤ lg) := hide fun lg c e => (hown.lt lg (by rw [e]; rfl)).1
        clear c6 hown hn h5 hg5 hs5 cc5
        obtain ⟨x, rfl, hx, hz⟩ := (HR.out.chg cc6 (fun i hi => id)).at_ HLT.out
        have hzb := bounds_u8 hz
        obtain ⟨z, hzn⟩ : ∃ z : Nat, zs.getD k 0 = (z : Int) := ⟨(zs.getD k 0).toNat, by omega⟩
        rw [hzn] at hx hzb
        have hn64 := HN64.out
        clear hz hzn
        by_cases hz2 : (z : Int) % 2 = 1
        · by_cases hn0 : 0 < n
          · obtain ⟨z2, hz2e⟩ : ∃ z2, z / 2 = z2 := ⟨_, rfl⟩
            obtain ⟨r, hre⟩ : ∃ r, z2 % n = r := ⟨_, rfl⟩
            have hrn : r < n := hre ▸ Nat.mod_lt _ hn0
            have p1 : (z : Int) / 2 = (z2 : Int) := by omega
            have p2 : (z2 : Int) % (n : Int) = (r : Int) := by rw [← hre]; simp
            have p3 : (r : Int) < n := by omega
            obtain ⟨lg, cap2, i, e1, hcw, hof⟩ := HLC.out r hrn
            cases e1
            have hi := hof.1
            have ht := hof.2.1
            have he := HB1.out i hi
            have hwf : (Lit.int .i64 (hd S1 i : Nat)).wf = true := WalkArith.wf_i64 (by unfold hd; omega)
            have HDR := hide (drop_yes h6 HB1.out hof)
            have HFA := hide (show (∀ x, sn (upd S1 i ⟨(S1 i).e + 1, false, 0⟩) x ↔ sn S1 x) ∧ (∀ x, gn (upd S1 i ⟨(S1 i).e + 1, false, 0⟩) x ↔ gn S1 x ∨ x = (hd S1 i : Nat)) ∧ ¬ gn S1 (hd S1 i : Nat) ∧ (ix (upd S1 i ⟨(S1 i).e + 1, false, 0⟩) 64).length + 1 = (ix S1 64).length ∧ Bd (upd S1 i ⟨(S1 i).e + 1, false, 0⟩) (k + 1) from
              ⟨fun x => drop_sn hi ht, fun x => drop_gn hi, drop_fresh hi ht, by have := ix_less (S := S1) (m := i) (s := ⟨(S1 i).e + 1, false, 0⟩) 64 ht rfl; rwa [if_pos hi] at this, (HBK1.out.mono (Nat.le_succ k)).upd (by have := HBK1.out i hi; dsimp only; omega)⟩)
            obtain ⟨y, hy⟩ : ∃ y : Int, ((hd S1 i : Nat) : Int) = y := ⟨_, rfl⟩
            rw [hy] at hcw hwf HDR HFA
            generalize upd S1 i ⟨(S1 i).e + 1, false, 0⟩ = S2 at *
            have HWF := hide hwf
            have HKM := hide (show k < maxLen by have := HLT.out; have := HL.out; unfold maxLen; omega)
            clear hz2e hre he ht hof hwf hy
            go_wp2_with fail
            refine HDR.out.mono ?_
            rintro e w8 ⟨rfl, h8, c8⟩
            clear p1 p2 p3 hz2
            obtain ⟨w7, hput2, hg7, c9⟩ := (hg6.chg c8 (by have := HM.out; omega)).put HWF.out HFA.out.2.2.1 HKM.out
            have HT2 := hide (h8.chg c9 (by have := HM.out; omega))
            have HG2 := hide (hg7.iff (fun x => HFA.out.2.1 x))
            have HS2 : Hid (Mp w7 ms (k + 1) (N + 1 + (ix S2 64).length) (sn S2)) := hide (by
              have := ((hs6.chg c8 (by have := HM.out; omega)).chg c9 (by have := HM.out; omega)).iff (fun x => HFA.out.1 x)
              rwa [show N + (ix S1 64).length = N + 1 + (ix S2 64).length by have := HFA.out.2.2.2.1; omega] at this)
            obtain ⟨N2, hN2⟩ : ∃ N2, N2 = N + 1 := ⟨_, rfl⟩
            rw [← hN2] at HG2 HS2
            have HBD2 := hide HFA.out.2.2.2.2
            have HB2 := hide (HBD2.out.mono (show k + 1 ≤ 1000000 by have := HLT.out; have := HL.out; omega))
            have HSN : Hid (∀ y i, Of S1 i y → sn S2 y) := hide fun y i ho => (HFA.out.1 y).2 (.inr ⟨i, ho⟩)
            have HCC7 := hide ((cc6.new HG.out c8).new (by have := HM.out; have := HG.out; omega) c9)
            have HC7 : Hid (Chg (fun b => b = g ∨ b = mg) w6 w7) := hide ((c8.mono (fun _ _ hx => .inl hx)).step c9 (fun _ _ hx => .inr hx))
            have HLG : Hid (∀ b c, (Value.slice (some ⟨lg, 0, none⟩) n ocap) = .slice (some ⟨b, 0, none⟩) n c → ¬ (b = g ∨ b = mg)) := hide fun b c e hx => by
              have := HBASE.out b c e
              have := HZ6.out
              omega
            clear HDR HFA HWF HKM h8 h6 hg6 hs6 hg7 cc6 c8 c9 hN2 HZ6 HBASE hcw
            go_wp2_with fail
            go_loopw [89] (fun i wr => ∃ j : Nat, i = .int .i64 j ∧ j ≤ n ∧ Grow w7 wr) (fun i _ => n - (intOf i).toNat)
            case atStart => exact ⟨0, rfl, Nat.zero_le _, Chg.refl _ _⟩
            case round =>
              obtain ⟨j, rfl, hj, c⟩ := hrel
              have hn64 := HN64.out
              by_cases hjn : j < n
              · have hji : (j : Int) < n := by omega
                obtain ⟨lg2, cap2, i, e1, hcw, hof⟩ := HLC.out j hjn
                cases e1
                have hc := c.cell (HC7.out.cell hcw (HLG.out _ _ rfl))
                have hi64 := hof.1
                have he := HB1.out i hi64
                have hwf : (Lit.int .i64 (hd S1 i : Nat)).wf = true := WalkArith.wf_i64 (by unfold hd; omega)
                have hsn := HSN.out _ i hof
                obtain ⟨y, hy⟩ : ∃ y : Int, (hd S1 i : Nat) = y := ⟨_, rfl⟩
                rw [hy] at hc hwf hsn
                have HT4 := hide (HT2.out.grow c)
                have HG4 := hide (HG2.out.grow c)
                clear hy he hof hcw
                rcases hsn with hg | ⟨i2, ho⟩
                · have HGET := hide (get_no HT4.out HB2.out hwf (gn_not hg))
                  have HLK := hide (fun W (cW : Grow wr W) => (HG4.out.grow cW).look hwf (c := true) (fun _ => rfl) (fun h => absurd hg h))
                  clear hg hwf
                  go_wp2_with fail
                  refine HGET.out.mono ?_
                  rintro e w12 ⟨rfl, c12⟩
                  have hlk := HLK.out _ c12
                  replace hc := c12.cell hc
                  replace c := c.trans c12
                  clear c12 HGET HLK
                  go_wp2_with fail
                  go_roundw
                  case rel => exact ⟨j + 1, by simp, by omega, c⟩
                  case measure => simp [intOf]; omega
                · have HGET := hide (get_yes HT4.out HB2.out ho)
                  have HLK := hide (fun W (cW : Grow wr W) => (HG4.out.grow cW).look hwf (c := false) (fun h => absurd ho (gn_not h i2)) (fun _ => rfl))
                  clear ho hwf
                  go_wp2_with fail
                  refine HGET.out.mono ?_
                  rintro e w12 ⟨rfl, c12⟩
                  have hlk := HLK.out _ c12
                  replace hc := c12.cell hc
                  replace c := c.trans c12
                  clear c12 HGET HLK
                  go_wp2_with fail
                  go_roundw
                  case rel => exact ⟨j + 1, by simp, by omega, c⟩
                  case measure => simp [intOf]; omega
              · obtain rfl : j = n := by omega
                have hT := HT2.out.grow c
                have hS := HS2.out.grow c
                have hG := HG2.out.grow c
                have hcc := HCC7.out.trans c
                have hk300 : k < 300 := by have := HLT.out; have := HL.out; omega
                clear hjn hj c
                go_wp2_with fail
                go_roundw
                case rel => exact ⟨k + 1, S2, N2, by simp, HLT.out, hT, HBD2.out, hS, hG, hcc⟩
                case measure => have := HLT.out; simp [intOf]; omega
          · have q0 : decide ((n : Int) > 0) = false := by simp; omega
            have q00 : decide (0 < n) = false := by simp; omega
            have HT2 := hide h6
            have HG2 := hide (hg6.mono (Nat.le_succ k))
            have HS2 := hide hs6
            have HB2 := hide HB1.out
            have HBD2 := hide (HBK1.out.mono (Nat.le_succ k))
            obtain ⟨S2, hS2⟩ : ∃ S2, S2 = S1 := ⟨_, rfl⟩
            rw [← hS2] at HT2 HG2 HS2 HB2 HBD2
            have HSN : Hid (∀ y i, Of S1 i y → sn S2 y) := hide fun y i ho => .inr ⟨i, hS2 ▸ ho⟩
            obtain ⟨N2, hN2⟩ : ∃ N2, N2 = N := ⟨_, rfl⟩
            rw [← hN2] at HG2 HS2
            have HCC7 := hide cc6
            obtain ⟨w7, hw7⟩ : ∃ w7, w7 = w6 := ⟨_, rfl⟩
            have HC7 : Hid (Chg (fun _ => False) w6 w7) := hide (hw7 ▸ Chg.refl _ _)
            have HLG : Hid (∀ b c, (Value.slice oa n ocap) = .slice (some ⟨b, 0, none⟩) n c → ¬ False) := hide fun _ _ _ h => h
            rw [← hw7] at HT2 HG2 HS2 HCC7
            subst hw7
            clear h6 hg6 hs6 cc6 hS2 hN2 HZ6
            go_wp2_with fail
            go_loopw [89] (fun i wr => ∃ j : Nat, i = .int .i64 j ∧ j ≤ n ∧ Grow w7 wr) (fun i _ => n - (intOf i).toNat)
            case atStart => exact ⟨0, rfl, Nat.zero_le _, Chg.refl _ _⟩
            case round =>
              obtain ⟨j, rfl, hj, c⟩ := hrel
              have hn64 := HN64.out
              by_cases hjn : j < n
              · exact absurd hjn (by omega)
              · obtain rfl : j = n := by omega
                have hT := HT2.out.grow c
                have hS := HS2.out.grow c
                have hG := HG2.out.grow c
                have hcc := HCC7.out.trans c
                have hk300 : k < 300 := by have := HLT.out; have := HL.out; omega
                clear hjn hj c
                go_wp2_with fail
                go_roundw
                case rel => exact ⟨k + 1, S2, N2, by simp, HLT.out, hT, HBD2.out, hS, hG, hcc⟩
                case measure => have := HLT.out; simp [intOf]; omega
        · have hz3 : ((z : Int) % 2 == 1) = false := by simpa using hz2
          clear hz2
          have HT2 := hide h6
          have HG2 := hide (hg6.mono (Nat.le_succ k))
          have HS2 := hide hs6
          have HB2 := hide HB1.out
          have HBD2 := hide (HBK1.out.mono (Nat.le_succ k))
          obtain ⟨S2, hS2⟩ : ∃ S2, S2 = S1 := ⟨_, rfl⟩
          rw [← hS2] at HT2 HG2 HS2 HB2 HBD2
          have HSN : Hid (∀ y i, Of S1 i y → sn S2 y) := hide fun y i ho => .inr ⟨i, hS2 ▸ ho⟩
          obtain ⟨N2, hN2⟩ : ∃ N2, N2 = N := ⟨_, rfl⟩
          rw [← hN2] at HG2 HS2
          have HCC7 := hide cc6
          obtain ⟨w7, hw7⟩ : ∃ w7, w7 = w6 := ⟨_, rfl⟩
          have HC7 : Hid (Chg (fun _ => False) w6 w7) := hide (hw7 ▸ Chg.refl _ _)
          have HLG : Hid (∀ b c, (Value.slice oa n ocap) = .slice (some ⟨b, 0, none⟩) n c → ¬ False) := hide fun _ _ _ h => h
          rw [← hw7] at HT2 HG2 HS2 HCC7
          subst hw7
          clear h6 hg6 hs6 cc6 hS2 hN2 HZ6
          go_wp2_with fail
          go_loopw [89] (fun i wr => ∃ j : Nat, i = .int .i64 j ∧ j ≤ n ∧ Grow w7 wr) (fun i _ => n - (intOf i).toNat)
          case atStart => exact ⟨0, rfl, Nat.zero_le _, Chg.refl _ _⟩
          case round =>
            obtain ⟨j, rfl, hj, c⟩ := hrel
            have hn64 := HN64.out
            by_cases hjn : j < n
            · have hji : (j : Int) < n := by omega
              obtain ⟨lg2, cap2, i, e1, hcw, hof⟩ := HLC.out j hjn
              cases e1
              have hc := c.cell (HC7.out.cell hcw (HLG.out _ _ rfl))
              have hi64 := hof.1
              have he := HB1.out i hi64
              have hwf : (Lit.int .i64 (hd S1 i : Nat)).wf = true := WalkArith.wf_i64 (by unfold hd; omega)
              have hsn := HSN.out _ i hof
              obtain ⟨y, hy⟩ : ∃ y : Int, (hd S1 i : Nat) = y := ⟨_, rfl⟩
              rw [hy] at hc hwf hsn
              have HT4 := hide (HT2.out.grow c)
              have HG4 := hide (HG2.out.grow c)
              clear hy he hof hcw
              rcases hsn with hg | ⟨i2, ho⟩
              · have HGET := hide (get_no HT4.out HB2.out hwf (gn_not hg))
                have HLK := hide (fun W (cW : Grow wr W) => (HG4.out.grow cW).look hwf (c := true) (fun _ => rfl) (fun h => absurd hg h))
                clear hg hwf
                go_wp2_with fail
                refine HGET.out.mono ?_
                rintro e w12 ⟨rfl, c12⟩
                have hlk := HLK.out _ c12
                replace hc := c12.cell hc
                replace c := c.trans c12
                clear c12 HGET HLK
                go_wp2_with fail
                go_roundw
                case rel => exact ⟨j + 1, by simp, by omega, c⟩
                case measure => simp [intOf]; omega
              · have HGET := hide (get_yes HT4.out HB2.out ho)
                have HLK := hide (fun W (cW : Grow wr W) => (HG4.out.grow cW).look hwf (c := false) (fun h => absurd ho (gn_not h i2)) (fun _ => rfl))
                clear ho hwf
                go_wp2_with fail
                refine HGET.out.mono ?_
                rintro e w12 ⟨rfl, c12⟩
                have hlk := HLK.out _ c12
                replace hc := c12.cell hc
                replace c := c.trans c12
                clear c12 HGET HLK
                go_wp2_with fail
                go_roundw
                case rel => exact ⟨j + 1, by simp, by omega, c⟩
                case measure => simp [intOf]; omega
            · obtain rfl : j = n := by omega
              have hT := HT2.out.grow c
              have hS := HS2.out.grow c
              have hG := HG2.out.grow c
              have hcc := HCC7.out.trans c
              have hk300 : k < 300 := by have := HLT.out; have := HL.out; omega
              clear hjn hj c
              go_wp2_with fail
              go_roundw
              case rel => exact ⟨k + 1, S2, N2, by simp, HLT.out, hT, HBD2.out, hS, hG, hcc⟩
              case measure => have := HLT.out; simp [intOf]; omega
      · obtain rfl : m = 64 := by omega
        have HNW := hide (new_full h hall k)
        have hlen : (L8.hs S 64).length = 64 := by rw [hs_len, ix_full hall]
        have HLEN := hide hlen
        obtain ⟨S1, rfl⟩ : ∃ S1, S1 = S := ⟨_, rfl⟩
        clear hfree hall hm64 hm hlen
        go_wp2_with fail
        refine HNW.out.mono ?_
        rintro e w4 ⟨rfl, c4⟩
        have hln := len_any (h.grow c4) HB0.out
        rw [HLEN.out] at hln
        have HLN := hide hln
        clear hln HNW HLEN
        go_wp2_with fail
        refine HLN.out.mono ?_
        rintro e w5 ⟨rfl, c5⟩
        have hs5 := ((hs.grow c4).grow c5).mono (Nat.le_succ k)
        have hg5 := (hg.grow c4).grow c5
        have h5 := (h.grow c4).grow c5
        have cc5 := (cc.trans c4).trans c5
        have hBK1 := HBK.out
        have hB1 := HB0.out
        clear HLN c4 c5 cc HKM h hs hg
        have HB1 := hide hB1
        have HBK1 := hide hBK1
        go_wp2_with fail
        refine (all_is h5 HB1.out).mono ?_
        rintro e w6 ⟨v, rfl, hown, c6⟩
        have h6 := h5.grow c6
        have hg6 := hg5.grow c6
        have hs6 := hs5.grow c6
        have cc6 := cc5.trans c6
        have HZ6 := hide (show g < w5.heap.size ∧ ms < w5.heap.size ∧ mg < w5.heap.size from ⟨h5.lt, hs5.lt, hg5.lt⟩)
        rw [hs_len] at hown
        obtain ⟨n, hn⟩ : ∃ n, (ix S1 64).length = n := ⟨_, rfl⟩
        rw [hn] at hown
        have HN64 := hide (show n ≤ 64 from hn ▸ ix_length S1 64)
        obtain ⟨oa, ocap, rfl⟩ := own_len hown
        have HLC : Hid (∀ j, j < n → ∃ lg cap i, Value.slice oa n ocap = .slice (some ⟨lg, 0, none⟩) n cap ∧ w6.cell? ⟨lg, j, none⟩ = some (.int .i64 (hd S1 i : Nat)) ∧ Of S1 i (hd S1 i : Nat)) := hide fun j hj => by
          obtain ⟨lg, cap2, e1, _, _, _, _, hcl⟩ := own_ints hown (by omega)
          obtain ⟨i, _, hi, ht, eh, _, _⟩ := ix_at (S := S1) (n := 64) (k := j) (by rw [hn]; exact hj)
          have hc := hcl j hj
          rw [eh] at hc
          exact ⟨lg, cap2, i, e1, hc, hi, ht, rfl⟩
        have HBASE : Hid (∀ lg c, (Value.slice oa n ocap) = .slice (some ⟨lg, 0, none⟩) n c → w5.heap.size ≤ lg) := hide fun lg c e => (hown.lt lg (by rw [e]; rfl)).1
        clear c6 hown hn h5 hg5 hs5 cc5
        obtain ⟨x, rfl, hx, hz⟩ := (HR.out.chg cc6 (fun i hi => id)).at_ HLT.out
        have hzb := bounds_u8 hz
        obtain ⟨z, hzn⟩ : ∃ z : Nat, zs.getD k 0 = (z : Int) := ⟨(zs.getD k 0).toNat, by omega⟩
        rw [hzn] at hx hzb
        have hn64 := HN64.out
        clear hz hzn
        by_cases hz2 : (z : Int) % 2 = 1
        · by_cases hn0 : 0 < n
          · obtain ⟨z2, hz2e⟩ : ∃ z2, z / 2 = z2 := ⟨_, rfl⟩
            obtain ⟨r, hre⟩ : ∃ r, z2 % n = r := ⟨_, rfl⟩
            have hrn : r < n := hre ▸ Nat.mod_lt _ hn0
            have p1 : (z : Int) / 2 = (z2 : Int) := by omega
            have p2 : (z2 : Int) % (n : Int) = (r : Int) := by rw [← hre]; simp
            have p3 : (r : Int) < n := by omega
            obtain ⟨lg, cap2, i, e1, hcw, hof⟩ := HLC.out r hrn
            cases e1
            have hi := hof.1
            have ht := hof.2.1
            have he := HB1.out i hi
            have hwf : (Lit.int .i64 (hd S1 i : Nat)).wf = true := WalkArith.wf_i64 (by unfold hd; omega)
            have HDR := hide (drop_yes h6 HB1.out hof)
            have HFA := hide (show (∀ x, sn (upd S1 i ⟨(S1 i).e + 1, false, 0⟩) x ↔ sn S1 x) ∧ (∀ x, gn (upd S1 i ⟨(S1 i).e + 1, false, 0⟩) x ↔ gn S1 x ∨ x = (hd S1 i : Nat)) ∧ ¬ gn S1 (hd S1 i : Nat) ∧ (ix (upd S1 i ⟨(S1 i).e + 1, false, 0⟩) 64).length + 1 = (ix S1 64).length ∧ Bd (upd S1 i ⟨(S1 i).e + 1, false, 0⟩) (k + 1) from
              ⟨fun x => drop_sn hi ht, fun x => drop_gn hi, drop_fresh hi ht, by have := ix_less (S := S1) (m := i) (s := ⟨(S1 i).e + 1, false, 0⟩) 64 ht rfl; rwa [if_pos hi] at this, (HBK1.out.mono (Nat.le_succ k)).upd (by have := HBK1.out i hi; dsimp only; omega)⟩)
            obtain ⟨y, hy⟩ : ∃ y : Int, ((hd S1 i : Nat) : Int) = y := ⟨_, rfl⟩
            rw [hy] at hcw hwf HDR HFA
            generalize upd S1 i ⟨(S1 i).e + 1, false, 0⟩ = S2 at *
            have HWF := hide hwf
            have HKM := hide (show k < maxLen by have := HLT.out; have := HL.out; unfold maxLen; omega)
            clear hz2e hre he ht hof hwf hy
            go_wp2_with fail
            refine HDR.out.mono ?_
            rintro e w8 ⟨rfl, h8, c8⟩
            clear p1 p2 p3 hz2
            obtain ⟨w7, hput2, hg7, c9⟩ := (hg6.chg c8 (by have := HM.out; omega)).put HWF.out HFA.out.2.2.1 HKM.out
            have HT2 := hide (h8.chg c9 (by have := HM.out; omega))
            have HG2 := hide (hg7.iff (fun x => HFA.out.2.1 x))
            have HS2 : Hid (Mp w7 ms (k + 1) (N + 1 + (ix S2 64).length) (sn S2)) := hide (by
              have := ((hs6.chg c8 (by have := HM.out; omega)).chg c9 (by have := HM.out; omega)).iff (fun x => HFA.out.1 x)
              rwa [show N + (ix S1 64).length = N + 1 + (ix S2 64).length by have := HFA.out.2.2.2.1; omega] at this)
            obtain ⟨N2, hN2⟩ : ∃ N2, N2 = N + 1 := ⟨_, rfl⟩
            rw [← hN2] at HG2 HS2
            have HBD2 := hide HFA.out.2.2.2.2
            have HB2 := hide (HBD2.out.mono (show k + 1 ≤ 1000000 by have := HLT.out; have := HL.out; omega))
            have HSN : Hid (∀ y i, Of S1 i y → sn S2 y) := hide fun y i ho => (HFA.out.1 y).2 (.inr ⟨i, ho⟩)
            have HCC7 := hide ((cc6.new HG.out c8).new (by have := HM.out; have := HG.out; omega) c9)
            have HC7 : Hid (Chg (fun b => b = g ∨ b = mg) w6 w7) := hide ((c8.mono (fun _ _ hx => .inl hx)).step c9 (fun _ _ hx => .inr hx))
            have HLG : Hid (∀ b c, (Value.slice (some ⟨lg, 0, none⟩) n ocap) = .slice (some ⟨b, 0, none⟩) n c → ¬ (b = g ∨ b = mg)) := hide fun b c e hx => by
              have := HBASE.out b c e
              have := HZ6.out
              omega
            clear HDR HFA HWF HKM h8 h6 hg6 hs6 hg7 cc6 c8 c9 hN2 HZ6 HBASE hcw
            go_wp2_with fail
            go_loopw [89] (fun i wr => ∃ j : Nat, i = .int .i64 j ∧ j ≤ n ∧ Grow w7 wr) (fun i _ => n - (intOf i).toNat)
            case atStart => exact ⟨0, rfl, Nat.zero_le _, Chg.refl _ _⟩
            case round =>
              obtain ⟨j, rfl, hj, c⟩ := hrel
              have hn64 := HN64.out
              by_cases hjn : j < n
              · have hji : (j : Int) < n := by omega
                obtain ⟨lg2, cap2, i, e1, hcw, hof⟩ := HLC.out j hjn
                cases e1
                have hc := c.cell (HC7.out.cell hcw (HLG.out _ _ rfl))
                have hi64 := hof.1
                have he := HB1.out i hi64
                have hwf : (Lit.int .i64 (hd S1 i : Nat)).wf = true := WalkArith.wf_i64 (by unfold hd; omega)
                have hsn := HSN.out _ i hof
                obtain ⟨y, hy⟩ : ∃ y : Int, (hd S1 i : Nat) = y := ⟨_, rfl⟩
                rw [hy] at hc hwf hsn
                have HT4 := hide (HT2.out.grow c)
                have HG4 := hide (HG2.out.grow c)
                clear hy he hof hcw
                rcases hsn with hg | ⟨i2, ho⟩
                · have HGET := hide (get_no HT4.out HB2.out hwf (gn_not hg))
                  have HLK := hide (fun W (cW : Grow wr W) => (HG4.out.grow cW).look hwf (c := true) (fun _ => rfl) (fun h => absurd hg h))
                  clear hg hwf
                  go_wp2_with fail
                  refine HGET.out.mono ?_
                  rintro e w12 ⟨rfl, c12⟩
                  have hlk := HLK.out _ c12
                  replace hc := c12.cell hc
                  replace c := c.trans c12
                  clear c12 HGET HLK
                  go_wp2_with fail
                  go_roundw
                  case rel => exact ⟨j + 1, by simp, by omega, c⟩
                  case measure => simp [intOf]; omega
                · have HGET := hide (get_yes HT4.out HB2.out ho)
                  have HLK := hide (fun W (cW : Grow wr W) => (HG4.out.grow cW).look hwf (c := false) (fun h => absurd ho (gn_not h i2)) (fun _ => rfl))
                  clear ho hwf
                  go_wp2_with fail
                  refine HGET.out.mono ?_
                  rintro e w12 ⟨rfl, c12⟩
                  have hlk := HLK.out _ c12
                  replace hc := c12.cell hc
                  replace c := c.trans c12
                  clear c12 HGET HLK
                  go_wp2_with fail
                  go_roundw
                  case rel => exact ⟨j + 1, by simp, by omega, c⟩
                  case measure => simp [intOf]; omega
              · obtain rfl : j = n := by omega
                have hT := HT2.out.grow c
                have hS := HS2.out.grow c
                have hG := HG2.out.grow c
                have hcc := HCC7.out.trans c
                have hk300 : k < 300 := by have := HLT.out; have := HL.out; omega
                clear hjn hj c
                go_wp2_with fail
                go_roundw
                case rel => exact ⟨k + 1, S2, N2, by simp, HLT.out, hT, HBD2.out, hS, hG, hcc⟩
                case measure => have := HLT.out; simp [intOf]; omega
          · have q0 : decide ((n : Int) > 0) = false := by simp; omega
            have q00 : decide (0 < n) = false := by simp; omega
            have HT2 := hide h6
            have HG2 := hide (hg6.mono (Nat.le_succ k))
            have HS2 := hide hs6
            have HB2 := hide HB1.out
            have HBD2 := hide (HBK1.out.mono (Nat.le_succ k))
            obtain ⟨S2, hS2⟩ : ∃ S2, S2 = S1 := ⟨_, rfl⟩
            rw [← hS2] at HT2 HG2 HS2 HB2 HBD2
            have HSN : Hid (∀ y i, Of S1 i y → sn S2 y) := hide fun y i ho => .inr ⟨i, hS2 ▸ ho⟩
            obtain ⟨N2, hN2⟩ : ∃ N2, N2 = N := ⟨_, rfl⟩
            rw [← hN2] at HG2 HS2
            have HCC7 := hide cc6
            obtain ⟨w7, hw7⟩ : ∃ w7, w7 = w6 := ⟨_, rfl⟩
            have HC7 : Hid (Chg (fun _ => False) w6 w7) := hide (hw7 ▸ Chg.refl _ _)
            have HLG : Hid (∀ b c, (Value.slice oa n ocap) = .slice (some ⟨b, 0, none⟩) n c → ¬ False) := hide fun _ _ _ h => h
            rw [← hw7] at HT2 HG2 HS2 HCC7
            subst hw7
            clear h6 hg6 hs6 cc6 hS2 hN2 HZ6
            go_wp2_with fail
            go_loopw [89] (fun i wr => ∃ j : Nat, i = .int .i64 j ∧ j ≤ n ∧ Grow w7 wr) (fun i _ => n - (intOf i).toNat)
            case atStart => exact ⟨0, rfl, Nat.zero_le _, Chg.refl _ _⟩
            case round =>
              obtain ⟨j, rfl, hj, c⟩ := hrel
              have hn64 := HN64.out
              by_cases hjn : j < n
              · exact absurd hjn (by omega)
              · obtain rfl : j = n := by omega
                have hT := HT2.out.grow c
                have hS := HS2.out.grow c
                have hG := HG2.out.grow c
                have hcc := HCC7.out.trans c
                have hk300 : k < 300 := by have := HLT.out; have := HL.out; omega
                clear hjn hj c
                go_wp2_with fail
                go_roundw
                case rel => exact ⟨k + 1, S2, N2, by simp, HLT.out, hT, HBD2.out, hS, hG, hcc⟩
                case measure => have := HLT.out; simp [intOf]; omega
        · have hz3 : ((z : Int) % 2 == 1) = false := by simpa using hz2
          clear hz2
          have HT2 := hide h6
          have HG2 := hide (hg6.mono (Nat.le_succ k))
          have HS2 := hide hs6
          have HB2 := hide HB1.out
          have HBD2 := hide (HBK1.out.mono (Nat.le_succ k))
          obtain ⟨S2, hS2⟩ : ∃ S2, S2 = S1 := ⟨_, rfl⟩
          rw [← hS2] at HT2 HG2 HS2 HB2 HBD2
          have HSN : Hid (∀ y i, Of S1 i y → sn S2 y) := hide fun y i ho => .inr ⟨i, hS2 ▸ ho⟩
          obtain ⟨N2, hN2⟩ : ∃ N2, N2 = N := ⟨_, rfl⟩
          rw [← hN2] at HG2 HS2
          have HCC7 := hide cc6
          obtain ⟨w7, hw7⟩ : ∃ w7, w7 = w6 := ⟨_, rfl⟩
          have HC7 : Hid (Chg (fun _ => False) w6 w7) := hide (hw7 ▸ Chg.refl _ _)
          have HLG : Hid (∀ b c, (Value.slice oa n ocap) = .slice (some ⟨b, 0, none⟩) n c → ¬ False) := hide fun _ _ _ h => h
          rw [← hw7] at HT2 HG2 HS2 HCC7
          subst hw7
          clear h6 hg6 hs6 cc6 hS2 hN2 HZ6
          go_wp2_with fail
          go_loopw [89] (fun i wr => ∃ j : Nat, i = .int .i64 j ∧ j ≤ n ∧ Grow w7 wr) (fun i _ => n - (intOf i).toNat)
          case atStart => exact ⟨0, rfl, Nat.zero_le _, Chg.refl _ _⟩
          case round =>
            obtain ⟨j, rfl, hj, c⟩ := hrel
            have hn64 := HN64.out
            by_cases hjn : j < n
            · have hji : (j : Int) < n := by omega
              obtain ⟨lg2, cap2, i, e1, hcw, hof⟩ := HLC.out j hjn
              cases e1
              have hc := c.cell (HC7.out.cell hcw (HLG.out _ _ rfl))
              have hi64 := hof.1
              have he := HB1.out i hi64
              have hwf : (Lit.int .i64 (hd S1 i : Nat)).wf = true := WalkArith.wf_i64 (by unfold hd; omega)
              have hsn := HSN.out _ i hof
              obtain ⟨y, hy⟩ : ∃ y : Int, (hd S1 i : Nat) = y := ⟨_, rfl⟩
              rw [hy] at hc hwf hsn
              have HT4 := hide (HT2.out.grow c)
              have HG4 := hide (HG2.out.grow c)
              clear hy he hof hcw
              rcases hsn with hg | ⟨i2, ho⟩
              · have HGET := hide (get_no HT4.out HB2.out hwf (gn_not hg))
                have HLK := hide (fun W (cW : Grow wr W) => (HG4.out.grow cW).look hwf (c := true) (fun _ => rfl) (fun h => absurd hg h))
                clear hg hwf
                go_wp2_with fail
                refine HGET.out.mono ?_
                rintro e w12 ⟨rfl, c12⟩
                have hlk := HLK.out _ c12
                replace hc := c12.cell hc
                replace c := c.trans c12
                clear c12 HGET HLK
                go_wp2_with fail
                go_roundw
                case rel => exact ⟨j + 1, by simp, by omega, c⟩
                case measure => simp [intOf]; omega
              · have HGET := hide (get_yes HT4.out HB2.out ho)
                have HLK := hide (fun W (cW : Grow wr W) => (HG4.out.grow cW).look hwf (c := false) (fun h => absurd ho (gn_not h i2)) (fun _ => rfl))
                clear ho hwf
                go_wp2_with fail
                refine HGET.out.mono ?_
                rintro e w12 ⟨rfl, c12⟩
                have hlk := HLK.out _ c12
                replace hc := c12.cell hc
                replace c := c.trans c12
                clear c12 HGET HLK
                go_wp2_with fail
                go_roundw
                case rel => exact ⟨j + 1, by simp, by omega, c⟩
                case measure => simp [intOf]; omega
            · obtain rfl : j = n := by omega
              have hT := HT2.out.grow c
              have hS := HS2.out.grow c
              have hG := HG2.out.grow c
              have hcc := HCC7.out.trans c
              have hk300 : k < 300 := by have := HLT.out; have := HL.out; omega
              clear hjn hj c
              go_wp2_with fail
              go_roundw
              case rel => exact ⟨k + 1, S2, N2, by simp, HLT.out, hT, HBD2.out, hS, hG, hcc⟩
              case measure => have := HLT.out; simp [intOf]; omega
    · obtain rfl : k = len := by omega
      obtain ⟨w8, rfl⟩ : ∃ w8, w8 = wr := ⟨_, rfl⟩
      have hB0 := hB.mono (show k ≤ 1000000 by omega)
      have HB0 := hide hB0
      have HS := hide hs
      have HT := hide h
      obtain ⟨D, hown, hD⟩ := hg
      have HD := hide hD
      have HOW := hide hown
      obtain ⟨r, hr⟩ : ∃ r, w8.heap.size = r := ⟨_, rfl⟩
      have HRR := hide hr
      have HCC := hide cc
      clear hB0 hB hs h hD hlt hk cc
      go_wp2_with (at_range; refine wpList_range_own _ rfl _ 52 rfl 3 4 keyI Try.underlying52 _ mg k D rfl hown ?_; intro w9 hrg0 hg0 hs0)
      go_frame
      rw [hr] at hrg0 ⊢
      clear hr hown
      go_loopw [14] (fun _ wr => ∃ (left : Lit → Bool) (cnt : Nat), wr.ranges Try.prog 3 (plainElem Try.prog 4) mg r k D left cnt ∧ Grow w8 wr) (fun _ wr => wr.rangeLeft mg r)
      case atStart => exact ⟨_, _, hrg0, hg0.os, hg0.tape, hg0.output, hg0.size, fun i hi _ => hg0.block i hi (by simp)⟩
      case round =>
        clear hrg0 hg0 hs0
        obtain ⟨left, cnt, hrg, c⟩ := hrel
        go_wp2_with (at_next; refine wpList_next_ranges _ rfl _ rfl 3 keyI (plainElem Try.prog 4) (Value.int .i64) (fun v : Value => v) (fun key kl hkey => by obtain ⟨x, rfl, _⟩ := Maps.keyOf_int_inv Try.underlying3 hkey; exact ⟨x, rfl⟩) (fun v y hv => ⟨v, rfl⟩) mg r k D left cnt rfl hrg ?_ ?_)
        · intro hc0 hl0
          have HLN := hide (len_any (HT.out.grow c) HB0.out)
          have HLS := hide fun W (cW : Grow wr W) => ((HS.out.grow c).grow cW).len
          have HLG := hide fun W (cW : Grow wr W) => Mp.len ((show Mp wr mg k N (gn S) from ⟨D, hrg.owns, HD.out⟩).grow cW)
          obtain ⟨L, hL⟩ : ∃ L, (ix S 64).length = L := ⟨_, rfl⟩
          have hsz := HS.out.le
          rw [hs_len, hL] at HLN
          rw [hL] at HLS hsz
          have qs : IntKind.i64.wrap (((N + L : Nat) : Int) - (N : Int)) = (L : Int) := by rw [wrap_i64_id _ (by omega)]; omega
          have HQS := hide qs
          obtain ⟨M, hM⟩ : ∃ M, N + L = M := ⟨_, rfl⟩
          rw [hM] at HLS HQS
          have hcc := HCC.out.trans c
          clear hrg hc0 hl0 c hL hsz qs hM
          go_wp2_with fail
          refine HLN.out.mono ?_
          rintro e w10 ⟨rfl, c10⟩
          have hls := HLS.out _ c10
          have hlg := HLG.out _ c10
          have qs := HQS.out
          clear HLS HLG HLN HQS
          go_wp2_with fail
          go_ret
          exact ⟨rfl, (hcc.trans c10).below (fun _ _ h => h) (Nat.le_refl _)⟩
        · intro x cv kl yd yp w2 cnt2 hkey hlk hv hat hrg2 hlt hg2 hs2 hen
          obtain ⟨x', ex, rfl, hwx⟩ := Maps.keyOf_int_inv Try.underlying3 hkey
          cases ex
          have hgn : gn S x := Classical.byContradiction fun hn => by
            have h1 := (HD.out.2 x).2 hn
            have h2 := has_true_of_atKey hat
            rw [h1] at h2
            cases h2
          have c2 : Grow w8 w2 := c.grown hg2 (fun i hi e => by have := HRR.out; injection e with e; omega)
          have HTX := hide fun W (cW : Grow w2 W) => (HT.out.grow c2).grow cW
          have HNO := hide (gn_not hgn)
          have HWX := hide hwx
          have HRG := hide hrg2
          have HLT := hide hlt
          have HEQ := hide hrg.left_eq
          have HC2 := hide c2
          clear hkey hlk hv hat hrg2 hlt hg2 hs2 hgn hwx hrg c c2
          go_wp2_with fail
          refine (drop_no (HTX.out _ (Chg.refl _ _)) HB0.out HWX.out HNO.out).mono ?_
          rintro e w3 ⟨rfl, c3⟩
          go_wp2_with fail
          refine (set_no (HTX.out _ c3) HB0.out HWX.out HNO.out 1).mono ?_
          rintro e w4 ⟨rfl, c4⟩
          have hrg4 := HRG.out.kept (Grow.grownBy (c3.trans c4)) (by simp) (by simp)
          have c24 := HC2.out.trans (c3.trans c4)
          clear c3 c4
          go_wp2_with fail
          go_roundw
          case rel => exact ⟨_, _, hrg4, c24⟩
          case measure => rw [hrg4.left_eq, HEQ.out]; exact HLT.out
theorem walk (a : Option Addr) (len cap : Nat) (zs : List Int) (w : World) (hr : IsRow .u8 w a len cap zs) :
    Calls Try.prog 4 #[.slice a len cap] w fun e w' => e = .returned (.bool true) ∧ Below w.heap.size w w' := by
  by_cases hl : 300 < len
  · exact walk_long a len cap w hl
  · exact walk_short a len cap zs w (by omega) hr

theorem own : ownKnob Try.prog.godebug = none := by kernel_rfl
theorem laidOut : laidOutB Try.prog = true := by kernel_rfl

set_option maxRecDepth 100000 in
theorem lifted (os : Os) (started : os.Started) (H : Type) (enc : TypeId × Value → H) :
    ReturnsInHanded {} Try.checked os 4 .any (Rows.handleOnceSpec.pre6 enc Try.prog Try.f4 Rows.handleOnceRow.domain false) (Rows.handleOnceSpec.post enc Try.prog Try.f4 false true false false) := by
  refine returnsInHanded_of_change (C := Try.checked) own started (by kernel_rfl) Try.func4
    (ChangeSpec.witness6 (enc := enc) (C := Try.checked) false ⟨#[], #[.slice none 0 0], []⟩ 8 (by kernel_rfl) (by kernel_rfl) (by kernel_rfl) (by kernel_rfl)) ?_
  intro W base args ds gs before hval0 hW hcnd _
  have hval : ∀ (j : Nat) t v, Try.f4.params[j]? = some t → args[j]? = some v → Value.okWide Try.prog W .any base t v := hval0
  have hW' := hW
  obtain ⟨p, q, hA0, hV, rfl, hfz, hnd⟩ := hW
  have hA : DataW.TrodAll enc Try.prog W 0 (fun _ => true) true Try.f4.params.toList args.toList ds p := hA0
  rw [Try.params4] at hA hval
  obtain ⟨v0, vs0, d0, ds0, p0, q0, hargs, rfl, rfl, h0, r0⟩ := trodAll_cons hA
  obtain ⟨rfl, rfl, rfl⟩ := trodAll_nil r0
  obtain rfl : args = #[v0] := by cases args; simp_all
  obtain ⟨rfl, rfl⟩ := trodVars_none hV
  obtain ⟨a0, len0, cap0, rfl⟩ := okWide_slice Try.underlying51 (hval 0 51 v0 rfl rfl)
  have k0 := h0
  have lt0 : ∀ x ∈ p0, x.block < W.heap.size := by obtain ⟨m, hm⟩ := k0; exact DataW.trod_lt m _ _ _ hm
  obtain ⟨z0, w0⟩ : ∃ zs, IsRow .u8 W a0 len0 cap0 zs := open_row Try.underlying51 Try.underlying5 (by kernel_rfl) h0
  clear hA0 hval0
  refine (walk a0 len0 cap0 z0 W w0).mono fun e W' ⟨he, bel⟩ => ?_
  subst he
  exact ⟨_, rfl, _, _, _, [], _, [], hW', trodAll_mk1 (shut_bool Try.underlying4 _), (trodAll_cons_mk (Below.trod laidOut (by kernel_rfl) (of_decide_eq_true (by kernel_rfl)) k0 bel lt0) trodAll_mk0), rfl, bel.frame _, fun h => by cases h⟩

theorem over : Rows.handleOnceRow.holds Try.pinned (OpenSpec.ofChange Rows.handleOnceSpec) :=
  OpenClaim.holds_of_wide 4 Try.f4 rfl rfl rfl rfl rfl rfl rfl ⟨rfl, rfl, rfl, rfl, rfl⟩ rfl rfl rfl rfl rfl (by kernel_rfl) Try.func4 (by kernel_rfl)
    (of_decide_eq_true (by kernel_rfl)) (by unfold Func.isWrapper; first | (rw [if_pos (by decide +kernel)]; kernel_rfl) | (rw [if_neg (by decide +kernel)]; exact ⟨rfl, rfl⟩))
    (fun os started H enc _ => lifted os started H enc)

/-- The statement. -/
theorem proved : Rows.HandleOnceSaid := over
#print axioms proved
end Go.Proofs.Ytmklmoahkcekiaa.handleOnce


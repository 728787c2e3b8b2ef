/- For all lists of numbers and all numbers QueueNames answers true: renamed there and back all is as it was, and what was ever put in isn't put in by its new name. Conditions: none. -/
import Derived.Test.YtgaoodjlcjmomaaL12Nm
import Derived.ShutString
namespace Go.Proofs.Ytgaoodjlcjmomaa.queueNames
open Go.ChangeShapes Go.WideShapes Go.ChangeAt Go.RowKit Go.Proofs.Ytgaoodjlcjmomaa.L12
set_option linter.unusedVariables false
section
variable {a : Option Addr} {len cap : Nat} {zs : List Int} {w : World} {p : Nat} {ad : Int}
set_option maxHeartbeats 2000000 in
set_option maxRecDepth 100000 in
theorem walk_long (hl : 200 < len) :
    Calls Try.prog 5 #[.slice a len cap, .int .u8 (p : Int), .int .i64 ad] w fun e w' => e = .returned (.bool true) ∧ Below w.heap.size w w' := by
  have q1 : decide ((len : Int) > 200) = true := by simp; omega
  clear hl
  go_enter Try.func5, Try.ntmps5
  go_wp2_with fail
  refine (awake_any _).mono ?_
  rintro e w1 ⟨rfl, g1⟩
  have HG := hide g1
  clear g1
  go_wp2_with fail
  refine (awake_any _).mono ?_
  rintro e w2 ⟨rfl, g2⟩
  have HG2 := hide (HG.out.trans g2)
  clear g2
  go_wp2
  go_ret
  exact ⟨rfl, HG2.out.below (fun _ _ h => h) (Nat.le_refl _)⟩
set_option maxHeartbeats 2000000 in
set_option maxRecDepth 100000 in
theorem walk_main (hr : IsRow .u8 w a len cap zs) (hl : len ≤ 200) (hp : p < 256) :
    Calls Try.prog 5 #[.slice a len cap, .int .u8 (p : Int), .int .i64 ad] w fun e w' => e = .returned (.bool true) ∧ Below w.heap.size w w' := by
  have q1 : decide ((len : Int) > 200) = false := by simp; omega
  have HR := hide hr
  have HL := hide hl
  have HP := hide hp
  have HH := hide (held_any ad)
  obtain ⟨n, hn⟩ : ∃ n, 1 + hd ad = n := ⟨_, rfl⟩
  have hnb : 2 ≤ n ∧ n ≤ 1001 := by have := hd_bd ad; omega
  have HNB := hide hnb
  have hw1 : IntKind.i64.wrap (1 + hd ad) = n := (w64 (by omega)).trans hn
  generalize hd ad = ha at *
  clear hr hl hp hn hnb
  go_enter Try.func5, Try.ntmps5
  go_wp2_with fail
  refine (awake_any _).mono ?_
  rintro e w1 ⟨rfl, g1⟩
  have H0 := hide ((new_set w1).grow (Grow.box _ (.cells #[.int .i64 n] 3)))
  have hb0 := Blk.new (w1.alloc (.cells setV 29)) 3 [.int .i64 n]
  have G0 := hide ((g1.trans (Grow.box w1 (.cells setV 29))).alloc (.cells #[.int .i64 n] 3))
  have S0 := hide g1.size
  have HB0 := hide (hb0.cell 0)
  have HSB := hide (show ¬ ((w1.alloc (.cells setV 29)).heap.size = w1.heap.size) by simp)
  clear g1 hb0
  go_wp2_with fail
  refine (HH.out _).mono ?_
  rintro e w2 ⟨rfl, rfl⟩
  go_wp2_with fail
  have e1 : (w1.alloc (.cells setV 29)).heap.size = w1.heap.size + 1 := by simp
  rw [e1] at HB0
  obtain ⟨b, hb⟩ : ∃ b, w1.heap.size + 1 = b := ⟨_, rfl⟩
  have HBS := hide (show b ≠ w1.heap.size ∧ b < ((w1.alloc (.cells setV 29)).alloc (.cells #[.int .i64 n] 3)).heap.size by simp; omega)
  rw [hb] at HB0 ⊢
  clear e1 hb HSB hw1 HH
  go_loopw [33] (fun c wr => ∃ (i : Nat) (S : Nat → Prop) (Q : Nat → List Int) (E : List Int), i ≤ len ∧ c = .int .i64 i ∧ QS wr w1.heap.size S w1.heap.size Q E ∧ Few Q E i ∧ ((∀ x ∈ E, 0 ≤ x ∧ x ≤ 255) ∧ ∀ j, j < i → zs.getD j 0 ∈ E) ∧ (wr.cell? ⟨b, 0, none⟩ = some (.int .i64 n) ∧ ¬ S b ∧ b < wr.heap.size) ∧ Grow w wr) (fun c _ => len - (Go.RowKit.intOf c).toNat)
  case atStart => exact ⟨0, _, _, _, Nat.zero_le _, rfl, H0.out, few_new, ⟨fun x hx => (by cases hx), fun j hj => absurd hj (by omega)⟩, ⟨HB0.out, HBS.out.1, HBS.out.2⟩, G0.out⟩
  case round =>
    clear H0 G0 HB0 HBS
    obtain ⟨i, S, Q, E, hi, rfl, hq, hf, ⟨he, hz⟩, ⟨hcb, hsb, hbl⟩, hg⟩ := hrel
    rcases Nat.eq_or_lt_of_le hi with rfl | hlt
    · have q1 : decide ((i : Int) < i) = false := by simp
      have HQ := hide hq
      have HG := hide hg
      have HE := hide he
      have HZ := hide hz
      have HF := hide hf
      have HB := hide (And.intro hcb (And.intro hsb hbl))
      clear hq hg he hi hz hf hcb hsb hbl
      go_wp2_with fail
      rw [show ((p : Int) % 20) = ((p % 20 : Nat) : Int) by omega]
      obtain ⟨M, hM, hM30⟩ : ∃ M, p % 20 = M ∧ M < 30 := ⟨_, rfl, by have := Nat.mod_lt p (show 0 < 20 by omega); omega⟩
      rw [hM]
      have HM30 := hide hM30
      clear hM hM30
      go_loopw [49] (fun c wr => ∃ (k : Nat) (Q : Nat → List Int), k ≤ M ∧ c = .int .u8 k ∧ QS wr w1.heap.size S w1.heap.size Q E ∧ Few Q E i ∧ (wr.cell? ⟨b, 0, none⟩ = some (.int .i64 n) ∧ ¬ S b ∧ b < wr.heap.size) ∧ Grow w wr) (fun c _ => M - (Go.RowKit.intOf c).toNat)
      case atStart => exact ⟨0, Q, Nat.zero_le _, rfl, HQ.out, HF.out, HB.out, HG.out⟩
      case round =>
        clear HQ HF HB HG
        obtain ⟨k, Q, hk, rfl, hq, hf, ⟨hcb, hsb, hbl⟩, hg⟩ := hrel
        rcases Nat.eq_or_lt_of_le hk with rfl | hlt
        · have q1 : decide ((k : Int) < k) = false := by simp
          have HQ := hide hq
          have HG := hide hg
          have HF := hide hf
          have HB := hide (And.intro hcb (And.intro hsb hbl))
          have HFB := hide (hf.b (by have := HL.out; omega))
          clear hq hg hk hf hsb hbl hcb
          go_wp2_with fail
          refine (all_any HQ.out HFB.out.2).mono ?_
          rintro e w3 ⟨a1, c1, rfl, h3, g3⟩
          obtain ⟨N, hN⟩ : ∃ N, (cat Q 4).length = N := ⟨_, rfl⟩
          rw [hN] at h3 ⊢
          have HNN := hide hN
          have HNL := hide (show N ≤ 100000 by rw [← hN]; have := cat_len HFB.out.2 4 (Nat.le_refl _); have h1 := HF.out.2 0 (by omega); have h2 := HF.out.2 1 (by omega); have h3 := HF.out.2 2 (by omega); have h4 := HF.out.2 3 (by omega); have := HL.out; simp [cat]; omega)
          have HRD3 := hide (show L1.Rd w3 a1 N (cat Q 4) by
            obtain ⟨a', c', e, hr⟩ := h3.form
            injection e with e1 e2 e3
            rw [e1, e2]
            exact hr)
          have HAS1 := hide (show ∀ x, a1 = some x → wr.heap.size ≤ x.block ∧ x.block < w3.heap.size from fun x e => h3.lt x.block (by rw [e]; rfl))
          have HQ3 := hide (HQ.out.grow g3)
          have HB3 := hide (g3.cell HB.out.1)
          have HG3 := hide (HG.out.trans g3)
          have HT3 := hide (show Apart S (tN b a1 none) from fun k hk ht => by
            have h1 := (HQ.out.s hk).2
            rcases ht with rfl | ⟨x, e, rfl⟩ | ⟨x, e, _⟩
            · exact HB.out.2.1 hk
            · have := (HAS1.out x e).1; omega
            · cases e)
          have HL3 := hide (show ∀ k, tN b a1 none k → k < w3.heap.size from fun k ht => by
            have h1 := HB.out.2.2
            have h2 := g3.size
            rcases ht with rfl | ⟨x, e, rfl⟩ | ⟨x, e, _⟩
            · omega
            · exact (HAS1.out x e).2
            · cases e)
          have HCE := hide (show ∀ y ∈ cat Q 4, 0 ≤ y ∧ y ≤ 255 from fun y hy => HE.out y (mem_cat HQ.out.inn 4 (Nat.le_refl _) y hy))
          have HEL := hide HFB.out.1
          clear h3 g3 hN HQ HG HB HFB
          go_wp2_with fail
          have hup : ∀ x ∈ E, upF n x ≠ 0 := fun x hx => by have := HE.out x hx; have := HNB.out; unfold upF; omega
          have FB3 := HF.out.b (show i < 1000000 by have := HL.out; omega)
          have hren := rename_any (f := upF n) (fid := 25) (lb := #[ptr b]) HQ3.out FB3.1 FB3.2 (fun x hx => by
              have := HE.out x hx
              have := HNB.out
              exact in64 (by unfold upF; omega)) (enters_of Try.func25 (by kernel_rfl) rfl) (fun W x hx g => (cls_up (g.cell HB3.out) (by have := HNB.out; omega) (by have := HE.out x hx; omega)).mono fun e w' ⟨h1, h2⟩ => ⟨h1, by rw [h2]; exact Chg.refl _ _⟩)
          refine hren.mono ?_
          clear hren
          rintro e w4 ⟨rfl, c4, S4, h4, s4⟩
          rw [rnE_all hup] at h4
          have HQ4 := hide h4
          have HF4 := hide (show Few (rnQ (upF n) Q) (E.map (upF n)) i by rw [← rnE_all hup (Q := Q)]; exact few_rn HF.out (upF n))
          have HT4 := hide (HT3.out.more s4 HL3.out)
          have HB4 := hide (c4.cell HB3.out fun h => HT3.out b h (.inl rfl))
          have HRD4 := hide (Rd.chg HRD3.out c4 fun x e h => HT3.out x.block h (.inr (.inl ⟨x, e, rfl⟩)))
          have HG4 := hide (HQ3.out.step HG3.out S0.out c4)
          have HL4 := hide (show ∀ k, tN b a1 none k → k < w4.heap.size from fun k ht => Nat.lt_of_lt_of_le (HL3.out k ht) c4.size)
          have HFB4 := hide (HF4.out.b (show i < 1000000 by have := HL.out; omega))
          clear h4 c4 s4 hup FB3 HQ3 HT3 HB3 HRD3 HG3 HL3 HAS1
          go_wp2_with fail
          refine (rename_nil HQ4.out).mono ?_
          rintro e w9 ⟨rfl, rfl⟩
          go_wp2_with fail
          refine (all_any HQ4.out HFB4.out.2).mono ?_
          rintro e w5 ⟨a2, c2, rfl, h5, g5⟩
          rw [cat_rn] at h5 ⊢
          rw [List.length_map, HNN.out] at h5 ⊢
          have HRD5 := hide (show L1.Rd w5 a2 N ((cat Q 4).map (upF n)) by
            obtain ⟨a', c', e, hr⟩ := h5.form
            rw [List.length_map, HNN.out] at e hr
            injection e with e1 e2 e3
            rw [e1]
            exact hr)
          have HAS5 := hide (show ∀ x, a2 = some x → w4.heap.size ≤ x.block ∧ x.block < w5.heap.size from fun x e => h5.lt x.block (by rw [e]; rfl))
          have HQ5 := hide (HQ4.out.grow g5)
          have HB5 := hide (g5.cell HB4.out)
          have HRA5 := hide (Rd.grow HRD4.out g5)
          have HG5 := hide (HG4.out.trans g5)
          have HT5 := hide (show Apart S4 (tN b a1 a2) from fun k hk ht => by
            have h1 := (HQ4.out.s hk).2
            rcases ht with rfl | h | ⟨x, e, rfl⟩
            · exact HT4.out k hk (.inl rfl)
            · exact HT4.out k hk (.inr (.inl h))
            · have := (HAS5.out x e).1; omega)
          have HL5 := hide (show ∀ k, tN b a1 a2 k → k < w5.heap.size from fun k ht => by
            have h2 := g5.size
            rcases ht with rfl | h | ⟨x, e, rfl⟩
            · exact Nat.lt_of_lt_of_le (HL4.out k (.inl rfl)) h2
            · exact Nat.lt_of_lt_of_le (HL4.out k (.inr (.inl h))) h2
            · exact (HAS5.out x e).2)
          clear h5 g5 HQ4 HB4 HRD4 HG4 HT4 HL4 HAS5
          go_wp2_with fail
          go_loopw [65] (fun c wr => ∃ k : Nat, k ≤ N ∧ c = .int .i64 k ∧ Grow w5 wr) (fun c _ => N - (Go.RowKit.intOf c).toNat)
          case atStart => exact ⟨0, Nat.zero_le _, rfl, Chg.refl _ _⟩
          case round =>
            obtain ⟨k, hk, rfl, hg⟩ := hrel
            rcases Nat.eq_or_lt_of_le hk with rfl | hlt
            · have q1 : decide ((k : Int) < k) = false := by simp
              have HG6 := hide hg
              clear hg hk
              go_wp2_with fail
              go_loopw [89] (fun c wr => ∃ j : Nat, j ≤ i ∧ c = .int .i64 j ∧ Grow w5 wr) (fun c _ => i - (Go.RowKit.intOf c).toNat)
              case atStart => exact ⟨0, Nat.zero_le _, rfl, HG6.out⟩
              case round =>
                clear HG6
                obtain ⟨j, hj, rfl, hg⟩ := hrel
                rcases Nat.eq_or_lt_of_le hj with rfl | hlt
                · have q1 : decide ((j : Int) < j) = false := by simp
                  have HQ7 := hide (HQ5.out.grow hg)
                  have HB7 := hide (hg.cell HB5.out)
                  have HR7 := hide (Rd.grow HRA5.out hg)
                  have HG7 := hide (HG5.out.trans hg)
                  have HL7 := hide (show ∀ k, tN b a1 a2 k → k < wr.heap.size from fun k ht => Nat.lt_of_lt_of_le (HL5.out k ht) hg.size)
                  clear hg hj HQ5 HB5 HRA5 HRD5 HG5 HL5
                  go_wp2_with fail
                  have hup : ∀ x ∈ E.map (upF n), 500 ≤ downF n x ∧ downF n x ≤ 755 ∧ 2000 ≤ x ∧ x ≤ 1002000 := fun x hx => by
                    obtain ⟨y, hy, rfl⟩ := List.mem_map.1 hx
                    have := HE.out y hy
                    have := HNB.out
                    unfold downF upF
                    omega
                  have HUP := hide hup
                  have hren := rename_any (f := downF n) (fid := 26) (lb := #[ptr b]) HQ7.out HFB4.out.1 HFB4.out.2 (fun x hx => in64 (by have := hup x hx; omega)) (enters_of Try.func26 (by kernel_rfl) rfl) (fun W x hx g => (cls_down (g.cell HB7.out) (by have := HNB.out; omega) (by have := hup x hx; omega)).mono fun e w' ⟨h1, h2⟩ => ⟨h1, by rw [h2]; exact Chg.refl _ _⟩)
                  refine hren.mono ?_
                  clear hren
                  rintro e w8 ⟨rfl, c8, S8, h8, s8⟩
                  have hd0 : ∀ x ∈ E.map (upF n), downF n x ≠ 0 := fun x hx => by have := hup x hx; omega
                  rw [rnE_all hd0] at h8
                  have HQ8 := hide h8
                  have HF8 := hide (show Few (rnQ (downF n) (rnQ (upF n) Q)) ((E.map (upF n)).map (downF n)) j by rw [← rnE_all hd0 (Q := rnQ (upF n) Q)]; exact few_rn HF4.out (downF n))
                  have HT8 := hide (HT5.out.more s8 HL7.out)
                  have HB8 := hide (c8.cell HB7.out fun h => HT5.out b h (.inl rfl))
                  have HR8 := hide (Rd.chg HR7.out c8 fun x e h => HT5.out x.block h (.inr (.inl ⟨x, e, rfl⟩)))
                  have HG8 := hide (HQ7.out.step HG7.out S0.out c8)
                  have HL8 := hide (show ∀ k, tN b a1 a2 k → k < w8.heap.size from fun k ht => Nat.lt_of_lt_of_le (HL7.out k ht) c8.size)
                  have HFB8 := hide (HF8.out.b (show j < 1000000 by have := HL.out; omega))
                  have HD8 := hide (show ∀ x ∈ (E.map (upF n)).map (downF n), 500 ≤ x ∧ x ≤ 755 from fun x hx => by
                    obtain ⟨y, hy, rfl⟩ := List.mem_map.1 hx
                    have := hup y hy
                    omega)
                  clear hup hd0 h8 c8 s8 HQ7 HB7 HR7 HG7 HL7 HT5
                  go_wp2_with fail
                  have hren := rename_any (f := fiveF) (fid := 27) (lb := #[]) HQ8.out HFB8.out.1 HFB8.out.2 (fun x hx => in64 (by have := HD8.out x hx; unfold fiveF; omega)) (enters_of Try.func27 (by kernel_rfl) rfl) (fun W x hx g => (cls_five (by have := HD8.out x hx; omega) W).mono fun e w' ⟨h1, h2⟩ => ⟨h1, by rw [h2]; exact Chg.refl _ _⟩)
                  refine hren.mono ?_
                  clear hren
                  rintro e w10 ⟨rfl, c10, S10, h10, s10⟩
                  have HE10 := hide (show ∀ y ∈ rnE fiveF (rnQ (downF n) (rnQ (upF n) Q)) ((E.map (upF n)).map (downF n)), y ∈ E from fun y hy => three_mem _ hy)
                  have HF10 := hide (show Few Q (rnE fiveF (rnQ (downF n) (rnQ (upF n) Q)) ((E.map (upF n)).map (downF n))) j from ⟨(few_rn HF8.out fiveF).1, HF.out.2⟩)
                  rw [three] at h10
                  generalize rnE fiveF (rnQ (downF n) (rnQ (upF n) Q)) ((E.map (upF n)).map (downF n)) = E10 at *
                  have HQ10 := hide h10
                  have HB10 := hide (c10.cell HB8.out fun h => HT8.out b h (.inl rfl))
                  have HR10 := hide (Rd.chg HR8.out c10 fun x e h => HT8.out x.block h (.inr (.inl ⟨x, e, rfl⟩)))
                  have HG10 := hide (HQ8.out.step HG8.out S0.out c10)
                  have HFB10 := hide (HF10.out.b (show j < 1000000 by have := HL.out; omega))
                  clear h10 c10 s10 HQ8 HR8 HG8 HL8 HT8 HD8 HF8 HFB8
                  go_wp2_with fail
                  refine (all_any HQ10.out HFB10.out.2).mono ?_
                  rintro e w11 ⟨a3, c3, rfl, h11, g11⟩
                  rw [HNN.out] at h11 ⊢
                  have hr3 : L1.Rd w11 a3 (cat Q 4).length (cat Q 4) := by
                    obtain ⟨a', c', e, hr⟩ := h11.form
                    injection e with e1 e2 e3
                    rw [e1]
                    exact hr
                  rw [HNN.out] at hr3
                  have HS11 := hide (L1.same_yes a3 a1 _ c3 c1 _ w11 hr3 (Rd.grow HR10.out g11) (by have := HNL.out; omega))
                  have HQ11 := hide (HQ10.out.grow g11)
                  have HG11 := hide (HG10.out.trans g11)
                  have HB11 := hide (g11.cell HB10.out)
                  clear h11 g11 hr3 HQ10 HG10 HR10
                  go_wp2_with fail
                  refine HS11.out.mono ?_
                  rintro e w12 ⟨rfl, g12⟩
                  have HQ12 := hide (HQ11.out.grow g12)
                  have HG12 := hide (HG11.out.trans g12)
                  have HB12 := hide (g12.cell HB11.out)
                  have hn := HNB.out
                  have d1 : IntKind.i64.wrap (1000 * n) = 1000 * n := w64 (by omega)
                  have d2 : IntKind.i64.wrap (1000 * n + 256) = 1000 * n + 256 := w64 (by omega)
                  have hb2 : puB E10 3 (1000 * n + 256) = true := by
                    unfold puB
                    rw [decide_eq_false fun h => by have := HE.out _ (HE10.out _ h); omega]
                    rfl
                  have HPUT := hide (put_any HQ12.out (x := 1000 * n + 256) (in64 (by omega)) 3 HFB10.out.1 HFB10.out.2)
                  rw [hb2] at HPUT
                  have kb := HB12.out
                  clear g12 HQ11 HG11 HS11 hn hb2
                  go_wp2_with fail
                  refine HPUT.out.mono ?_
                  rintro e w13 ⟨rfl, c13, -⟩
                  have HG13 := hide (HQ12.out.step HG12.out S0.out c13)
                  clear c13
                  go_wp2
                  go_ret
                  exact ⟨rfl, HG13.out.below (fun _ _ h => h) (Nat.le_refl _)⟩
                · obtain ⟨ax, rfl, hc, hwf⟩ := (HR.out.chg (HG5.out.trans hg) fun _ _ => id).at_ hlt
                  have hm := HZ.out j hlt
                  obtain ⟨u, hu, hub⟩ := u8_bd hwf
                  rw [hu] at hc hm
                  have kb := hg.cell HB5.out
                  have hn := HNB.out
                  have q1 : (j : Int) < i := by omega
                  have d0 : IntKind.i64.wrap (u : Int) = u := w64 (by omega)
                  have d1 : IntKind.i64.wrap (1000 * n) = 1000 * n := w64 (by omega)
                  have d2 : IntKind.i64.wrap ((u : Int) + 1000 * n) = (u : Int) + 1000 * n := w64 (by omega)
                  have d3 : IntKind.i64.wrap ((j : Int) + 1) = ((j + 1 : Nat) : Int) := (w64 (by have := HL.out; omega)).trans (by omega)
                  have hiw : In64 ((u : Int) + 1000 * n) := in64 (by omega)
                  have hme : (u : Int) + 1000 * n ∈ E.map (upF n) := List.mem_map.2 ⟨u, hm, rfl⟩
                  have HPO := hide (fun (W : World) (g : Grow wr W) => put_old ((HQ5.out.grow hg).grow g) hiw hme (show isQ 2 = true from rfl))
                  have HG6 := hide hg
                  have HJ := hide hlt
                  clear hg hj hlt hwf hm hu hub hn hiw hme
                  go_wp2_with fail
                  refine wp_region_grow (by kernel_rfl) (by kernel_rfl) ?_
                  repeat (
                    with_reducible refine wpQuiet_step ?_
                    intro K hK
                    first
                      | ((with_reducible refine quiet_offT rfl ?_ (hK _ ?_)); focus (refine ⟨_, rfl, ?_⟩; with_reducible rfl))
                      | ((with_reducible refine quiet_offF rfl ?_ (hK _ ?_)); focus (refine ⟨_, rfl, ?_⟩; with_reducible rfl))
                      | ((with_reducible refine quiet_offN rfl ?_ (hK _ ?_)); focus (exact rfl))
                      | ((first | with_reducible refine quiet_free rfl ?_ | ((with_reducible refine quiet_on rfl ?_ ?_); focus (refine ⟨_, rfl, ?_⟩; with_reducible rfl)))
                         apply Exists.intro
                         refine ⟨fun Wq hW => ?_, hK _ ?_⟩
                         focus (have q0 := Grow.cell hW hc; have q1 := Grow.cell hW kb; go_simp; first | done | with_reducible rfl | (go_at_call 11; (first | with_reducible exact grown_call hW (HPO.out _ hW) | with_reducible exact grown_same hW (HPO.out _ hW)))))
                    clear hK K
                    simp only [Act.put, List.setIfInBounds_toArray, List.set_cons_zero, List.set_cons_succ])
                  with_reducible refine wpQuiet_nil ?_
                  intro W9 g9
                  have HG9 := hide (HG6.out.trans g9)
                  clear g9
                  go_wp2
                  go_roundw
                  case rel => exact ⟨j + 1, HJ.out, rfl, HG9.out⟩
                  case measure => have := HJ.out; simp [Go.RowKit.intOf]; omega
            · have q1 : (k : Int) < N := by omega
              have d3 : IntKind.i64.wrap ((k : Int) + 1) = ((k + 1 : Nat) : Int) := (w64 (by have := HNL.out; omega)).trans (by omega)
              obtain ⟨x1, rfl, k1⟩ := (Rd.grow HRA5.out hg).at_ hlt
              obtain ⟨x2, rfl, k2⟩ := (Rd.grow HRD5.out hg).at_ hlt
              have kb := hg.cell HB5.out
              have hkl : k < (cat Q 4).length := by rw [HNN.out]; exact hlt
              have hy := HCE.out _ (getD_in hkl)
              have em : ((cat Q 4).map (upF n)).getD k 0 = upF n ((cat Q 4).getD k 0) := by
                rw [List.getD_eq_getElem?_getD, List.getD_eq_getElem?_getD, List.getElem?_map, List.getElem?_eq_getElem hkl]
                rfl
              rw [em] at k2
              generalize (cat Q 4).getD k 0 = y at *
              have hn := HNB.out
              have d1 : IntKind.i64.wrap (1000 * n) = 1000 * n := w64 (by omega)
              have d2 : IntKind.i64.wrap (y + 1000 * n) = y + 1000 * n := w64 (by omega)
              unfold upF at k2
              have HK := hide hlt
              have HG6 := hide hg
              have q5 : decide ((N : Int) ≤ (k : Int)) = false := by simp; omega
              have q6 : decide ((k : Int) ≥ (N : Int)) = false := q5
              have q7 : decide (N ≤ k) = false := by simp; omega
              have q8 : ¬ (N : Int) ≤ (k : Int) := by omega
              clear hg hk hlt hkl hy em hn
              go_wp2_with fail
              refine wp_region_grow (by kernel_rfl) (by kernel_rfl) ?_
              repeat (
                with_reducible refine wpQuiet_step ?_
                intro K hK
                first
                  | ((with_reducible refine quiet_offT rfl ?_ (hK _ ?_)); focus (refine ⟨_, rfl, ?_⟩; with_reducible rfl))
                  | ((with_reducible refine quiet_offF rfl ?_ (hK _ ?_)); focus (refine ⟨_, rfl, ?_⟩; with_reducible rfl))
                  | ((with_reducible refine quiet_offN rfl ?_ (hK _ ?_)); focus (exact rfl))
                  | ((first | with_reducible refine quiet_free rfl ?_ | ((with_reducible refine quiet_on rfl ?_ ?_); focus (refine ⟨_, rfl, ?_⟩; with_reducible rfl)))
                     apply Exists.intro
                     refine ⟨fun Wq hW => ?_, hK _ ?_⟩
                     focus (have q0 := Grow.cell hW k1; have q1 := Grow.cell hW k2; have q2 := Grow.cell hW kb; go_simp; first | done | with_reducible rfl))
                clear hK K
                simp only [Act.put, List.setIfInBounds_toArray, List.set_cons_zero, List.set_cons_succ])
              with_reducible refine wpQuiet_nil ?_
              intro W9 g9
              have HG9 := hide (HG6.out.trans g9)
              clear g9
              go_wp2
              go_roundw
              case rel => exact ⟨k + 1, HK.out, rfl, HG9.out⟩
              case measure => have := HK.out; simp [Go.RowKit.intOf]; omega
        · have q1 : (k : Int) < M := by omega
          have c3 : IntKind.u8.wrap ((k : Int) + 1) = ((k + 1 : Nat) : Int) := by
            have h30 := HM30.out
            have hw : IntKind.u8.wrap ((k : Int) + 1) = (k : Int) + 1 := by
              simp [IntKind.wrap, IntKind.signed, IntKind.bits]
              omega
            rw [hw]; omega
          have HQ := hide hq
          have HG := hide hg
          have HF := hide hf
          have HB := hide (And.intro hcb (And.intro hsb hbl))
          have HK := hide hlt
          have HFB := hide (hf.b (by have := HL.out; omega))
          clear hq hg hk hf hsb hbl hcb hlt
          go_wp2_with fail
          refine (poll_any HQ.out 1 HFB.out.2).mono ?_
          rintro e w3 ⟨rfl, c4, h3⟩
          have HR3 := hide (And.intro h3 (And.intro (few_poll HF.out 1) (And.intro (And.intro (c4.cell HB.out.1 HB.out.2.1) (And.intro HB.out.2.1 (Nat.lt_of_lt_of_le HB.out.2.2 c4.size))) (HQ.out.step HG.out S0.out c4))))
          clear h3 c4
          go_wp2
          go_roundw
          case rel => exact ⟨k + 1, _, HK.out, rfl, HR3.out⟩
          case measure => have := HK.out; simp [Go.RowKit.intOf]; omega
    · obtain ⟨ax, rfl, hc, hwf⟩ := (HR.out.chg hg fun _ _ => id).at_ hlt
      obtain ⟨u, hu, hub⟩ := u8_bd hwf
      rw [hu] at hc
      have HU := hide (And.intro hu hub)
      have q1 : (i : Int) < len := by omega
      have d1 : IntKind.i64.wrap (u : Int) = u := w64 (by omega)
      obtain ⟨X, hX, eX⟩ : ∃ X : Nat, X < 4 ∧ 1 + (i : Int) % 4 = (X : Int) + 1 := ⟨i % 4, by omega, by omega⟩
      have d3 : IntKind.i64.wrap ((i : Int) + 1) = ((i + 1 : Nat) : Int) := (w64 (by have := HL.out; omega)).trans (by omega)
      have HQ := hide hq
      have HG := hide hg
      have HE := hide he
      have HZ := hide hz
      have HF := hide hf
      have HB := hide (And.intro hcb (And.intro hsb hbl))
      have HI := hide hlt
      have HX := hide hX
      have hiw : In64 (u : Int) := in64 (by omega)
      have HFB := hide (hf.b (by have := HL.out; omega))
      clear hq hg he hi hz hf hcb hsb hbl hlt hwf hu hub hX
      go_wp2_with fail
      refine (put_any HQ.out hiw ((X : Int) + 1) HFB.out.1 HFB.out.2).mono ?_
      rintro e w3 ⟨rfl, c4, S3, h3, s3⟩
      have HR3 := hide (And.intro h3 (And.intro (few_put HF.out ((X : Int) + 1) u) (And.intro (show (∀ x ∈ puE E ((X : Int) + 1) u, 0 ≤ x ∧ x ≤ 255) ∧ ∀ j, j < i + 1 → zs.getD j 0 ∈ puE E ((X : Int) + 1) u from ⟨pu_all HE.out (by have := HU.out.2; omega), fun j hj => by
        rcases Nat.eq_or_lt_of_le (Nat.le_of_lt_succ hj) with e | e
        · rw [e, HU.out.1]; exact pu_mem (at_q HX.out).1
        · exact pu_old (HZ.out j e)⟩) (And.intro (And.intro (c4.cell HB.out.1 HB.out.2.1) (And.intro (show ¬ S3 b from fun h => (s3 b h).elim HB.out.2.1 fun h => by have := HB.out.2.2; omega) (Nat.lt_of_lt_of_le HB.out.2.2 c4.size))) (HQ.out.step HG.out S0.out c4)))))
      clear h3 c4 s3 hc
      go_wp2
      go_roundw
      case rel => exact ⟨i + 1, S3, _, _, HI.out, rfl, HR3.out⟩
      case measure => have := HI.out; simp [Go.RowKit.intOf]; omega
end
theorem walk (a : Option Addr) (len cap : Nat) (zs : List Int) (a1 ad : Int) (w : World) (hr : IsRow .u8 w a len cap zs) (w1 : (Lit.int .u8 a1).wf = true) (w2 : (Lit.int .i64 ad).wf = true) :
    Calls Try.prog 5 #[.slice a len cap, .int .u8 a1, .int .i64 ad] w fun e w' => e = .returned (.bool true) ∧ Below w.heap.size w w' := by
  obtain ⟨p, rfl, hp⟩ := u8_bd w1
  by_cases h : 200 < len
  · exact walk_long h
  · exact walk_main hr (by omega) hp


theorem own : ownKnob Try.prog.godebug = none := by kernel_rfl
theorem laidOut : laidOutB Try.prog = true := by kernel_rfl

set_option maxRecDepth 100000 in
theorem lifted (os : Os) (started : os.Started) (H : Type) (enc : TypeId × Value → H) :
    ReturnsInHanded {} Try.checked os 5 .any (Rows.queueNamesSpec.pre6 enc Try.prog Try.f5 Rows.queueNamesRow.domain false) (Rows.queueNamesSpec.post enc Try.prog Try.f5 false true false false) := by
  refine returnsInHanded_of_change (C := Try.checked) own started (by kernel_rfl) Try.func5
    (ChangeSpec.witness6 (enc := enc) (C := Try.checked) false ⟨#[], #[.slice none 0 0, .int .u8 0, .int .i64 0], []⟩ 8 (by kernel_rfl) (by kernel_rfl) (by kernel_rfl) (by kernel_rfl)) ?_
  intro W base args ds gs before hval0 hW hcnd _
  have hval : ∀ (j : Nat) t v, Try.f5.params[j]? = some t → args[j]? = some v → Value.okWide Try.prog W .any base t v := hval0
  have hW' := hW
  obtain ⟨p, q, hA0, hV, rfl, hfz, hnd⟩ := hW
  have hA : DataW.TrodAll enc Try.prog W 0 (fun _ => true) true Try.f5.params.toList args.toList ds p := hA0
  rw [Try.params5] at hA hval
  obtain ⟨v0, vs0, d0, ds0, p0, q0, hargs, rfl, rfl, h0, r0⟩ := trodAll_cons hA
  obtain ⟨v1, vs1, d1, ds1, p1, q1, rfl, rfl, rfl, h1, r1⟩ := trodAll_cons r0
  obtain ⟨v2, vs2, d2, ds2, p2, q2, rfl, rfl, rfl, h2, r2⟩ := trodAll_cons r1
  obtain ⟨rfl, rfl, rfl⟩ := trodAll_nil r2
  obtain rfl : args = #[v0, v1, v2] := by cases args; simp_all
  obtain ⟨rfl, rfl⟩ := trodVars_none hV
  obtain ⟨a0, len0, cap0, rfl⟩ := okWide_slice Try.underlying54 (hval 0 54 v0 rfl rfl)
  have k0 := h0
  have lt0 : ∀ x ∈ p0, x.block < W.heap.size := by obtain ⟨m, hm⟩ := k0; exact DataW.trod_lt m _ _ _ hm
  obtain ⟨z0, w0⟩ : ∃ zs, IsRow .u8 W a0 len0 cap0 zs := open_row Try.underlying54 Try.underlying5 (by kernel_rfl) h0
  obtain ⟨a1, rfl, rfl, rfl, w1⟩ := open_int Try.underlying5 (hval 1 5 v1 rfl rfl) h1
  obtain ⟨a2, rfl, rfl, rfl, w2⟩ := open_int Try.underlying3 (hval 2 3 v2 rfl rfl) h2
  clear hA0 hval0
  refine (walk a0 len0 cap0 z0 a1 a2 W w0 w1 w2).mono fun e W' ⟨he, bel⟩ => ?_
  subst he
  exact ⟨_, rfl, _, _, _, [], _, [], hW', trodAll_mk1 (shut_bool Try.underlying4 _), (trodAll_cons_mk (Below.trod laidOut (by kernel_rfl) (of_decide_eq_true (by kernel_rfl)) k0 bel lt0) (trodAll_cons_mk (shut_int Try.underlying5 w1) (trodAll_cons_mk (shut_int Try.underlying3 w2) trodAll_mk0))), rfl, bel.frame _, fun h => by cases h⟩

theorem over : Rows.queueNamesRow.holds Try.pinned (OpenSpec.ofChange Rows.queueNamesSpec) :=
  OpenClaim.holds_of_wide 5 Try.f5 rfl rfl rfl rfl rfl rfl rfl ⟨rfl, rfl, rfl, rfl, rfl⟩ rfl rfl rfl rfl rfl (by kernel_rfl) Try.func5 (by kernel_rfl)
    (of_decide_eq_true (by kernel_rfl)) (by unfold Func.isWrapper; first | (rw [if_pos (by decide +kernel)]; kernel_rfl) | (rw [if_neg (by decide +kernel)]; exact ⟨rfl, rfl⟩))
    (fun os started H enc _ => lifted os started H enc)

/-- The statement. -/
theorem proved : Rows.QueueNamesSaid := over
#print axioms proved
end Go.Proofs.Ytgaoodjlcjmomaa.queueNames


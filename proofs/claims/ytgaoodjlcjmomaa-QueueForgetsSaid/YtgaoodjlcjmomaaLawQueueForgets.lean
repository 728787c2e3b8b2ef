/- For all lists of numbers QueueForgets answers true: what is forgotten can be put anew; what stands in a queue can't be forgotten. Conditions: none. -/
import Derived.Test.YtgaoodjlcjmomaaL12Fg
import Derived.ShutString
namespace Go.Proofs.Ytgaoodjlcjmomaa.queueForgets
open Go.ChangeShapes Go.WideShapes Go.ChangeAt Go.RowKit Go.Proofs.Ytgaoodjlcjmomaa.L12
set_option linter.unusedVariables false
section
variable {a : Option Addr} {len cap : Nat} {zs : List Int} {w : World} {p : Nat}
set_option maxHeartbeats 2000000 in
set_option maxRecDepth 100000 in
theorem walk_long (hl : 200 < len) :
    Calls Try.prog 8 #[.slice a len cap, .int .u8 (p : Int)] w fun e w' => e = .returned (.bool true) ∧ Below w.heap.size w w' := by
  have q1 : decide ((len : Int) > 200) = true := by simp; omega
  clear hl
  go_enter Try.func8, Try.ntmps8
  go_wp2_with fail
  refine (awake_any _).mono ?_
  rintro e w1 ⟨rfl, g1⟩
  have HG := hide g1
  clear g1
  go_wp2_with fail
  refine (awake_any _).mono ?_
  rintro e w2 ⟨rfl, g2⟩
  have HG2 := hide (HG.out.trans g2)
  clear g2
  go_wp2
  go_ret
  exact ⟨rfl, HG2.out.below (fun _ _ h => h) (Nat.le_refl _)⟩
set_option maxHeartbeats 2000000 in
set_option maxRecDepth 100000 in
theorem walk_main (hr : IsRow .u8 w a len cap zs) (hl : len ≤ 200) (hp : p < 256) :
    Calls Try.prog 8 #[.slice a len cap, .int .u8 (p : Int)] w fun e w' => e = .returned (.bool true) ∧ Below w.heap.size w w' := by
  have q1 : decide ((len : Int) > 200) = false := by simp; omega
  have hmm := @run_makeMap Try.prog
  have HR := hide hr
  have HL := hide hl
  have HP := hide hp
  clear hr hl hp
  go_enter Try.func8, Try.ntmps8
  go_wp2_with fail
  refine (awake_any _).mono ?_
  rintro e w1 ⟨rfl, g1⟩
  have H0 := hide (new_set w1)
  have G0 := hide (g1.trans (Grow.box w1 (.cells setV 29)))
  have S0 := hide g1.size
  clear g1
  go_wp2_with fail
  go_loopw [29] (fun c wr => ∃ (i : Nat) (S : Nat → Prop) (E : List Int), i ≤ len ∧ c = .int .i64 i ∧ QS wr w1.heap.size S w1.heap.size (upd noQ 0 E) E ∧ (E.Nodup ∧ (∀ x ∈ E, 1 ≤ x ∧ x ≤ 256) ∧ E.length ≤ i) ∧ Grow w wr) (fun c _ => len - (Go.RowKit.intOf c).toNat)
  case atStart => exact ⟨0, _, [], Nat.zero_le _, rfl, by rw [show upd noQ 0 [] = noQ from upd_self noQ 0]; exact H0.out, ⟨List.nodup_nil, fun x hx => (by cases hx), Nat.le_refl _⟩, G0.out⟩
  case round =>
    clear H0 G0
    obtain ⟨i, S, E, hi, rfl, hq, he, hg⟩ := hrel
    rcases Nat.eq_or_lt_of_le hi with rfl | hlt
    · have q1 : decide ((i : Int) < i) = false := by simp
      have HQ := hide hq
      have HG := hide hg
      have HE := hide he
      clear hq hg he hi
      go_wp2_with fail
      rw [show ((p : Int) % 30) = ((p % 30 : Nat) : Int) by omega]
      obtain ⟨M, hM, hM30⟩ : ∃ M, p % 30 = M ∧ M < 30 := ⟨_, rfl, Nat.mod_lt _ (by omega)⟩
      rw [hM]
      have HM30 := hide hM30
      have gB := Grow.box wr (.map #[] 0)
      have HMG := hide (Mg.made eB wr)
      have HQ1 := hide (HQ.out.grow gB)
      have HG1 := hide (HG.out.trans gB)
      have HSM := hide (show ¬ S wr.heap.size from fun h => by have := (HQ.out.s h).2; omega)
      obtain ⟨m, hm⟩ : ∃ m, wr.heap.size = m := ⟨_, rfl⟩
      obtain ⟨wo, hwo⟩ : ∃ wo, wr.alloc (.map #[] 0) = wo := ⟨_, rfl⟩
      rw [hm, hwo] at HMG
      rw [hwo] at HQ1 HG1
      rw [hm] at HSM
      rw [hm, hwo]
      have HZM := hide (show w.heap.size ≤ m from by rw [← hm]; exact HG.out.size)
      clear gB hM hM30 hm hwo HQ HG
      go_loopw [44] (fun c wr => ∃ (k : Nat) (S : Nat → Prop) (D R : List Int) (n : Nat), k ≤ M ∧ c = .int .u8 k ∧ QS wr w1.heap.size S w1.heap.size (upd noQ 0 R) (D ++ R) ∧ D ++ R = E ∧ ¬ S m ∧ (Mg eB wr m n (goneF D) ∧ n ≤ D.length) ∧ Grow w wr) (fun c _ => M - (Go.RowKit.intOf c).toNat)
      case atStart => exact ⟨0, S, [], E, 0, Nat.zero_le _, rfl, HQ1.out, rfl, HSM.out, ⟨HMG.out, Nat.le_refl _⟩, HG1.out⟩
      case round =>
        clear HMG HQ1 HG1 HSM
        obtain ⟨k, S, D, R, n, hk, rfl, hq, hDR, hsm, ⟨hmg, hmn⟩, hg⟩ := hrel
        have HDL := hide (show (D ++ R).length ≤ 200 by rw [hDR]; have := HE.out.2.2; have := HL.out; omega)
        have HRL := hide (show R.length ≤ 200 by have := HDL.out; rw [List.length_append] at this; omega)
        rcases Nat.eq_or_lt_of_le hk with rfl | hlt
        · have q1 : decide ((k : Int) < k) = false := by simp
          have HQ := hide hq
          have HG := hide hg
          have HMG := hide (And.intro hmg hsm)
          have HDR := hide hDR
          clear hq hg hmg hmn hk hDR hsm
          have HFL := hide (show ∀ i, i < 4 → (upd noQ 0 R i).length < 1000000 from fun i hi => by
            by_cases e : i = 0
            · rw [e, upd_at]; have := HRL.out; omega
            · rw [upd_ne _ _ e]; exact Nat.zero_lt_succ _)
          go_wp2_with fail
          refine (all_any HQ.out HFL.out).mono ?_
          rintro e w5 ⟨a2, c2, rfl, h5, g5⟩
          rw [fg_cat] at h5 ⊢
          obtain ⟨N, hN⟩ : ∃ N, R.length = N := ⟨_, rfl⟩
          rw [hN] at h5 ⊢
          have HNN := hide hN
          have HRD := hide (show L1.Rd w5 a2 N R by
            obtain ⟨a', c', e, hr⟩ := h5.form
            injection e with e1 e2 e3
            rw [e1, e2]
            exact hr)
          have gB := Grow.box w5 (.cells #[.slice a2 N c2] 25)
          have HBX := hide (show Blk (w5.alloc (.cells #[.slice a2 N c2] 25)) w5.heap.size 25 [.slice a2 N c2] from Blk.new w5 _ [.slice a2 N c2])
          have HAS := hide (show ∀ x, a2 = some x → wr.heap.size ≤ x.block ∧ x.block < w5.heap.size from fun x e => h5.lt x.block (by rw [e]; rfl))
          have HG5 := hide ((HG.out.trans g5).trans gB)
          have HQ5 := hide ((HQ.out.grow g5).grow gB)
          have HM5 := hide ((HMG.out.1.grow g5).grow gB)
          have HSS := hide (show ∀ k, S k → k < wr.heap.size from fun k hk => (HQ.out.s hk).2)
          have HRD5 := hide (Rd.grow HRD.out gB)
          have HML := hide (show m < w5.heap.size from Nat.lt_of_lt_of_le HMG.out.1.lt g5.size)
          have HSZ := hide g5.size
          clear h5 g5 gB hN HQ HG HRD
          go_wp2_with fail
          obtain ⟨b, hbx⟩ : ∃ b, w5.heap.size = b := ⟨_, rfl⟩
          obtain ⟨wb, hwb⟩ : ∃ wb, w5.alloc (.cells #[.slice a2 N c2] 25) = wb := ⟨_, rfl⟩
          have hsb : w5.heap.size < wb.heap.size := by rw [← hwb]; simp
          rw [hbx, hwb] at HBX
          rw [hwb] at HG5 HQ5 HM5 HRD5
          rw [hbx] at HAS HML HSZ hsb
          rw [hbx, hwb]
          have HSB := hide hsb
          have HCB := hide (show wb.cell? ⟨b, 0, none⟩ = some (.slice a2 N c2) from HBX.out.cell 0)
          clear hbx hwb hsb
          have HN0 := hide (show ∀ x ∈ R, x ≠ 0 from fun x hx e => by have := HE.out.2.1 x (by rw [← HDR.out]; exact List.mem_append_right _ hx); omega)
          have HNL := hide (show N ≤ 200 by rw [← HNN.out]; exact HRL.out)
          have HXE := hide (show ∀ x ∈ D ++ R, 1 ≤ x ∧ x ≤ 256 from fun x hx => HE.out.2.1 x (by rw [← HDR.out]; exact hx))
          have HND := hide (show (D ++ R).Nodup by rw [HDR.out]; exact HE.out.1)
          have hren := rename_any (f := leftF R) (fid := 29) (lb := #[ptr b]) HQ5.out (by have := HDL.out; omega) HFL.out (fun x hx => by
              have := HXE.out x hx
              unfold leftF
              split
              · exact in64 (by omega)
              · exact in64 (by omega)) (enters_of Try.func29 (by kernel_rfl) rfl) (fun W x hx g => (cls_left (g.cell HCB.out) (Rd.grow HRD5.out g) (by have := HNL.out; omega)).mono fun e w' ⟨h1, h2⟩ => ⟨h1, by rw [h2]; exact Chg.refl _ _⟩)
          refine hren.mono ?_
          clear hren
          rintro e w6 ⟨rfl, c6, S6, h6, s6⟩
          rw [fg_rnQ, fg_rnE HND.out HN0.out, ← fgQ_nil] at h6
          have HAP := hide (show Apart S6 (fun k => k = m ∨ k = b ∨ ∃ x, a2 = some x ∧ x.block = k) from Apart.more (S := S) (n := wb.heap.size) (fun k hk ht => by
              have h1 := HSS.out k hk
              rcases ht with rfl | rfl | ⟨x, e, rfl⟩
              · exact HMG.out.2 hk
              · have := HSZ.out; omega
              · have := HAS.out x e; omega) s6 (fun k ht => by
              have := HSB.out
              rcases ht with rfl | rfl | ⟨x, e, rfl⟩
              · have := HML.out; omega
              · omega
              · have := HAS.out x e; omega))
          have hS : Apart S (fun k => k = m ∨ k = b ∨ ∃ x, a2 = some x ∧ x.block = k) := fun k hk ht => by
              have h1 := HSS.out k hk
              rcases ht with rfl | rfl | ⟨x, e, rfl⟩
              · exact HMG.out.2 hk
              · have := HSZ.out; omega
              · have := HAS.out x e; omega
          have hM6 := HM5.out.chg c6 fun h => hS m h (.inl rfl)
          have HC6 := hide (show w6.cell? ⟨b, 0, none⟩ = some (.slice a2 N c2) from c6.cell HCB.out fun h => hS b h (.inr (.inl rfl)))
          have HRD6 := hide (show L1.Rd w6 a2 N R from Rd.chg HRD5.out c6 fun x e h => hS x.block h (.inr (.inr ⟨x, e, rfl⟩)))
          have HG6 := hide (HQ5.out.step HG5.out S0.out c6)
          have HQ6 := hide (show QS w6 w1.heap.size S6 w1.heap.size (fgQ R []) (R ++ []) by rw [List.append_nil]; exact h6)
          have HS6 := hide c6.size
          clear h6 c6 s6 hS HQ5 HG5 HM5 HCB HRD5 HBX HMG
          go_wp2_with (first
            | (at_range; refine rg_range eB_ok rfl _ rfl rfl hM6 ?_; intro w7 cnt0 hr0 hg0 hs0)
            | go_in)
          go_frame
          have HR7 := hide hr0
          have HQ7 := hide (HQ6.out.grow hg0)
          have HC7 := hide (And.intro (hg0.cell HC6.out) (Rd.grow HRD6.out hg0))
          have HG7 := hide (HG6.out.trans hg0)
          obtain ⟨r, hr⟩ : ∃ r, w6.heap.size = r := ⟨_, rfl⟩
          have HAP7 := hide (show Apart S6 (tB r m b a2) from fun k hk ht => ht.elim (fun e => by have := (HQ6.out.s hk).2; omega) (HAP.out k hk))
          have HTL := hide (show ∀ k, tB r m b a2 k → k < w7.heap.size from fun k ht => by
            have h1 := HSB.out
            have h2 := HS6.out
            rcases ht with rfl | rfl | rfl | ⟨x, e, rfl⟩
            · omega
            · have := HML.out; omega
            · omega
            · have := HAS.out x e; omega)
          have HWR := hide (show w.heap.size ≤ r from by rw [← hr]; exact HG6.out.size)
          have HBR := hide (show b < r ∧ ∀ x, a2 = some x → x.block < r from by
            have h1 := HSB.out
            have h2 := HS6.out
            exact ⟨by omega, fun x e => by have := (HAS.out x e).2; omega⟩)
          rw [hr] at HR7
          rw [hr]
          clear hr0 hg0 hs0 hM6 HC6 HRD6 HG6 HQ6 HS6 hr HAP
          go_loopw [63] (fun c wr => ∃ (left : Int → Bool) (cnt : Nat) (S : Nat → Prop) (P : List Int), Rg eB wr m r (goneF D) left cnt ∧ QS wr w1.heap.size S w1.heap.size (fgQ R P) (R ++ P) ∧ (P.Nodup ∧ ∀ x, x ∈ P ↔ x ∈ D ∧ left x = false) ∧ Apart S (tB r m b a2) ∧ (wr.cell? ⟨b, 0, none⟩ = some (.slice a2 N c2) ∧ L1.Rd wr a2 N R) ∧ Grow w wr ∧ w7.heap.size ≤ wr.heap.size) (fun _ wr => wr.rangeLeft m r)
          case atStart => exact ⟨_, _, S6, [], HR7.out, HQ7.out, ⟨List.nodup_nil, fun x => ⟨fun h => (by cases h), fun ⟨h1, h2⟩ => by simp [goneF, h1] at h2⟩⟩, HAP7.out, HC7.out, HG7.out, Nat.le_refl _⟩
          case round =>
            clear HR7 HQ7 HC7 HG7 HAP7
            obtain ⟨left, cnt, S, P, hrg, hq, ⟨hpn, hpm⟩, hap, ⟨hcb, hrd⟩, hg, hsz⟩ := hrel
            go_wp2_with (first
              | (at_next; refine rg_gone rfl _ rfl rfl hrg ?_ ?_)
              | go_in)
            · intro hl0
              obtain ⟨n9, hM9⟩ := hrg.owns
              have hn9 : n9 = P.length := hM9.size_eq (ids := P) (fun x => by
                rw [hpm x]
                unfold goneF
                by_cases e : x ∈ D
                · simp [e, hl0 x]
                · simp [e]) hpn
              have HM9 := hide hM9
              have HN9 := hide hn9
              have HQ := hide hq
              have HP := hide (show ∀ x ∈ P, x ∈ D from fun x hx => ((hpm x).1 hx).1)
              have HPN := hide hpn
              have HAP := hide hap
              have HCB := hide hcb
              have HRD := hide hrd
              have HG := hide hg
              have HSZ7 := hide hsz
              have HFF := hide ((fg_few (P := P) HDL.out hpn HP.out).b (by omega))
              clear hrg hq hpm hpn hap hrd hg hsz hM9 hn9 hl0
              go_wp2_with fail
              go_loopw [77] (fun c wr => ∃ (k : Nat) (S : Nat → Prop), k ≤ N ∧ c = .int .i64 k ∧ QS wr w1.heap.size S w1.heap.size (fgQ R P) (R ++ P) ∧ Apart S (tB r m b a2) ∧ (wr.cell? ⟨b, 0, none⟩ = some (.slice a2 N c2) ∧ L1.Rd wr a2 N R) ∧ Mg eB wr m n9 (goneF D) ∧ Grow w wr ∧ w7.heap.size ≤ wr.heap.size) (fun c _ => N - (Go.RowKit.intOf c).toNat)
              case atStart => exact ⟨0, S, Nat.zero_le _, rfl, HQ.out, HAP.out, ⟨HCB.out, HRD.out⟩, HM9.out, HG.out, HSZ7.out⟩
              case round =>
                clear HQ HAP HCB HRD HM9 HG HSZ7 hcb
                obtain ⟨k, S, hk, rfl, hq, hap, ⟨hcb, hrd⟩, hmg, hg, hsz⟩ := hrel
                rcases Nat.eq_or_lt_of_le hk with rfl | hlt
                · have q1 : decide ((k : Int) < k) = false := by simp
                  have HQ := hide hq
                  have HG := hide hg
                  have HL1 := hide (fun (W : World) (g : Grow wr W) => len_any (hq.grow g) 1)
                  have HL2 := hide (fun (W : World) (g : Grow wr W) => len_any (hq.grow g) 2)
                  rw [fg_len1, HNN.out] at HL1
                  rw [fg_len2, ← HN9.out] at HL2
                  have HLEN := hide (fun (W : World) (g : Grow wr W) (ty : TypeId) => (show (Builtin.len_ #[52] ty #[.map (some m)]).run Try.prog W = .ok (.int .i64 n9) W from (hmg.grow g).len eB_ok ty))
                  clear hq hg hap hrd hmg hsz hk
                  go_wp2_with fail
                  refine wp_region_grow (by kernel_rfl) (by kernel_rfl) ?_
                  repeat (
                    with_reducible refine wpQuiet_step ?_
                    intro K hK
                    first
                      | ((with_reducible refine quiet_offT rfl ?_ (hK _ ?_)); focus (refine ⟨_, rfl, ?_⟩; with_reducible rfl))
                      | ((with_reducible refine quiet_offF rfl ?_ (hK _ ?_)); focus (refine ⟨_, rfl, ?_⟩; with_reducible rfl))
                      | ((with_reducible refine quiet_offN rfl ?_ (hK _ ?_)); focus (exact rfl))
                      | ((first | with_reducible refine quiet_free rfl ?_ | ((with_reducible refine quiet_on rfl ?_ ?_); focus (refine ⟨_, rfl, ?_⟩; with_reducible rfl)))
                         apply Exists.intro
                         refine ⟨fun Wq hW => ?_, hK _ ?_⟩
                         focus (have q0 := Grow.cell hW hcb; have q1 := HLEN.out _ hW; go_simp; first | done | with_reducible rfl | (go_at_call 21; (first | with_reducible exact grown_call hW (HL1.out _ hW) | with_reducible exact grown_same hW (HL1.out _ hW))) | (go_at_call 21; (first | with_reducible exact grown_call hW (HL2.out _ hW) | with_reducible exact grown_same hW (HL2.out _ hW)))))
                    clear hK K
                    simp only [Act.put, List.setIfInBounds_toArray, List.set_cons_zero, List.set_cons_succ])
                  with_reducible refine wpQuiet_nil ?_
                  intro W9 g9
                  have HG9 := hide (HG.out.trans g9)
                  clear g9
                  go_wp2
                  go_ret
                  exact ⟨rfl, HG9.out.below (fun _ _ h => h) (Nat.le_refl _)⟩
                · obtain ⟨ad, ea, hc⟩ := hrd.at_ hlt
                  have hkR : k < R.length := by rw [HNN.out]; exact hlt
                  have hxR : R.getD k 0 ∈ R := getD_in hkR
                  have q1 : (k : Int) < N := by omega
                  have c3 : IntKind.i64.wrap ((k : Int) + 1) = ((k + 1 : Nat) : Int) := (w64 (by have := HNL.out; omega)).trans (by omega)
                  have hiw : In64 (R.getD k 0) := in64 (by have := HXE.out _ (List.mem_append_right D hxR); omega)
                  obtain ⟨p1, p2, p3⟩ := fg_put3 (P := P) hxR
                  have hput := put_any hq hiw 2 HFF.out.1 HFF.out.2
                  rw [p1, p2, p3] at hput
                  have HPUT := hide hput
                  have HQ := hide hq
                  have HG := hide hg
                  have HAP := hide hap
                  have HC := hide (And.intro hcb hrd)
                  have HM := hide hmg
                  have HS := hide hsz
                  have HK := hide hlt
                  subst ea
                  clear hput hq hg hap hrd hmg hsz hk hlt hkR hxR p1 p2 p3
                  generalize R.getD k 0 = x at *
                  go_wp2_with fail
                  refine HPUT.out.mono ?_
                  rintro e w9 ⟨rfl, c9, S9, h9, s9⟩
                  have hap9 := HAP.out.more s9 fun k hk => Nat.lt_of_lt_of_le (HTL.out k hk) HS.out
                  have HR9 := hide (And.intro h9 (And.intro hap9 (And.intro (And.intro (c9.cell HC.out.1 fun h => HAP.out b h (.inr (.inr (.inl rfl)))) (Rd.chg HC.out.2 c9 fun x e h => HAP.out x.block h (.inr (.inr (.inr ⟨x, e, rfl⟩))))) (And.intro (HM.out.chg c9 fun h => HAP.out m h (.inr (.inl rfl))) (And.intro (HQ.out.step HG.out S0.out c9) (Nat.le_trans HS.out c9.size))))))
                  clear c9 h9 s9 hap9 hc hcb
                  go_wp2
                  go_roundw
                  case rel => exact ⟨k + 1, S9, HK.out, rfl, HR9.out⟩
                  case measure => have := HK.out; simp [Go.RowKit.intOf]; omega
            · intro x w8 cnt1 hx hlx hxD hrg1 hlt hc1 hs1 hen
              have hxP : x ∉ P := fun h => by have := ((hpm x).1 h).2; rw [hlx] at this; cases this
              have hxR : x ∉ R := fun h => (List.nodup_append.1 HND.out).2.2 x hxD x h rfl
              obtain ⟨p1, p2, p3⟩ := fg_put2 (R := R) (P := P) (x := x) (fun h => (List.mem_append.1 h).elim hxR hxP)
              have hF := (fg_few (P := P) HDL.out hpn (fun x hx => ((hpm x).1 hx).1)).b (by omega)
              have hnr : ∀ k, S k → k ≠ r := fun k hk e => hap k hk (.inl e)
              have hq8 : QS w8 w1.heap.size S w1.heap.size (fgQ R P) (R ++ P) := hq.chg hc1 hnr
              have HQ8 := hide hq8
              have HLT := hide (show cnt1 < wr.rangeLeft m r from by rw [hrg.left_eq]; exact hlt)
              have hput := put_any hq8 hx 2 hF.1 hF.2
              rw [p1, p2, p3] at hput
              have HPUT := hide hput
              have HRG := hide hrg1
              have HAP := hide hap
              have HC8 := hide (show w8.cell? ⟨b, 0, none⟩ = some (.slice a2 N c2) ∧ L1.Rd w8 a2 N R from ⟨hc1.cell hcb (show ¬ b = r by have := HBR.out.1; omega), Rd.chg hrd hc1 fun x e => by have := HBR.out.2 x e; omega⟩)
              have HG8 := hide (show Grow w w8 from hg.step hc1 fun i hi e => by have := HWR.out; omega)
              have HSZ8 := hide (show w7.heap.size ≤ w8.heap.size by omega)
              have HPN := hide (show (P ++ [x]).Nodup ∧ ∀ y, y ∈ P ++ [x] ↔ y ∈ D ∧ (left y && !decide (y = x)) = false from by
                refine ⟨List.nodup_append.2 ⟨hpn, by simp, fun y hy z hz => by simp at hz; rw [hz]; rintro rfl; exact hxP hy⟩, fun y => ?_⟩
                rw [List.mem_append, hpm y, List.mem_singleton]
                by_cases e : y = x
                · subst e; simp [hxD]
                · simp [e])
              clear hrg hq hpn hpm hap hcb hrd hg hsz hx hlx hxD hrg1 hlt hc1 hs1 hxP hxR p1 p2 p3 hF hnr hq8 hput
              go_wp2_with fail
              refine HPUT.out.mono ?_
              rintro e w9 ⟨rfl, c9, S9, h9, s9⟩
              have hap9 := HAP.out.more s9 fun k hk => Nat.lt_of_lt_of_le (HTL.out k hk) HSZ8.out
              have HR9 := hide (And.intro (HRG.out.chg c9 (fun h => HAP.out m h (.inr (.inl rfl))) (fun h => HAP.out r h (.inl rfl))) (And.intro h9 (And.intro HPN.out (And.intro hap9 (And.intro (And.intro (c9.cell HC8.out.1 fun h => HAP.out b h (.inr (.inr (.inl rfl)))) (Rd.chg HC8.out.2 c9 fun x e h => HAP.out x.block h (.inr (.inr (.inr ⟨x, e, rfl⟩))))) (And.intro (HQ8.out.step HG8.out S0.out c9) (Nat.le_trans HSZ8.out c9.size)))))))
              clear c9 h9 s9 hap9
              go_wp2_with fail
              exact ⟨⟨_, cnt1, S9, P ++ [x], HR9.out⟩, by rw [HR9.out.1.left_eq]; exact HLT.out⟩
        · have q1 : (k : Int) < M := by omega
          have c3 : IntKind.u8.wrap ((k : Int) + 1) = ((k + 1 : Nat) : Int) := by
            have h30 := HM30.out
            have hw : IntKind.u8.wrap ((k : Int) + 1) = (k : Int) + 1 := by
              simp [IntKind.wrap, IntKind.signed, IntKind.bits]
              omega
            rw [hw]; omega
          have HQ := hide hq
          have HG := hide hg
          have HMG := hide hmg
          have HMN := hide hmn
          have HSM := hide hsm
          have HDR := hide hDR
          have HK := hide hlt
          have HF := hide (show ∀ i, i < 4 → (upd noQ 0 R i).length < 1000000 from fun i hi => by
            by_cases e : i = 0
            · rw [e, upd_at]; have := HRL.out; omega
            · rw [upd_ne _ _ e]; exact Nat.zero_lt_succ _)
          clear hq hg hmg hmn hsm hDR hk hlt
          go_wp2_with fail
          refine (poll_any HQ.out 1 HF.out).mono ?_
          rintro e w3 ⟨rfl, c4, h3⟩
          obtain ⟨e1, e2, e3⟩ := fg_poll R
          rw [e1, e2]
          rw [e3] at h3
          have hg3 := HQ.out.step HG.out S0.out c4
          have hm3 := HMG.out.chg c4 HSM.out
          cases R with
          | nil =>
            rw [if_pos rfl]
            have HR3 := hide (And.intro h3 (And.intro hm3 hg3))
            clear h3 c4 e1 e2 e3 hg3 hm3
            go_wp2
            go_roundw
            case rel => exact ⟨k + 1, S, D, [], n, HK.out, rfl, HR3.out.1, HDR.out, HSM.out, ⟨HR3.out.2.1, HMN.out⟩, HR3.out.2.2⟩
            case measure => have := HK.out; simp [Go.RowKit.intOf]; omega
          | cons x R2 =>
            rw [if_neg (by simp)]
            have hxE : x ∈ E := by rw [← HDR.out]; simp
            obtain ⟨W4, hup, h5, h6⟩ := hm3.put (x := x) eB_ok (show n < maxLen by have := HMN.out; have := HDL.out; rw [List.length_append] at this; unfold maxLen; omega) (in64 (by have := HE.out.2.1 x hxE; omega)) true
            rw [goneF_add] at h5
            have hup' : (Instr.mapUpdate 52 (.map (some m)) (.int .i64 x) (.bool true)).run Try.prog w3 = .ok () W4 := hup
            have HR3 := hide (show QS W4 w1.heap.size S w1.heap.size (upd noQ 0 R2) ((D ++ [x]) ++ R2) from by
              rw [show (D ++ [x]) ++ R2 = D ++ x :: R2 by simp]
              exact h3.chg h6 fun k hk e => HSM.out (by rw [← e]; exact hk))
            have HR4 := hide (show Grow w W4 from hg3.step h6 fun i hi e => by have := HZM.out; omega)
            have HR5 := hide (show ∃ n', Mg eB W4 m n' (goneF (D ++ [x])) ∧ n' ≤ (D ++ [x]).length from ⟨if (goneF D x).isSome = true then n else n + 1, h5, by rw [List.length_append, List.length_singleton]; have := HMN.out; split <;> omega⟩)
            have HDR2 := hide (show (D ++ [x]) ++ R2 = E by rw [← HDR.out]; simp)
            clear h3 c4 e1 e2 e3 hg3 hm3 hup h5 h6 hxE
            simp only [List.headD_cons]
            go_wp2
            go_roundw
            case rel =>
              obtain ⟨n', g1, g2⟩ := HR5.out
              exact ⟨k + 1, S, D ++ [x], R2, n', HK.out, rfl, HR3.out, HDR2.out, HSM.out, ⟨g1, g2⟩, HR4.out⟩
            case measure => have := HK.out; simp [Go.RowKit.intOf]; omega
    · obtain ⟨ad, rfl, hc, hwf⟩ := (HR.out.chg hg fun _ _ => id).at_ hlt
      obtain ⟨u, hu, hub⟩ := u8_bd hwf
      rw [hu] at hc
      have q1 : (i : Int) < len := by omega
      have c1 : IntKind.i64.wrap (u : Int) = u := w64 (by omega)
      have c2 : IntKind.i64.wrap (1 + (u : Int)) = 1 + (u : Int) := w64 (by omega)
      have c3 : IntKind.i64.wrap ((i : Int) + 1) = ((i + 1 : Nat) : Int) := (w64 (by have := HL.out; omega)).trans (by omega)
      have HQ := hide hq
      have HG := hide hg
      have HE := hide he
      have HI := hide hlt
      have HU := hide hub
      have hiw : In64 (1 + (u : Int)) := in64 (by omega)
      have HF := hide ((one_few he.2.2).b (by have := HL.out; omega))
      clear hq hg he hi hlt hwf hu hub
      go_wp2_with fail
      refine (put_any HQ.out hiw 1 HF.out.1 HF.out.2).mono ?_
      rintro e w3 ⟨rfl, c4, S3, h3, s3⟩
      rw [(fg_put E _).1, (fg_put E _).2] at h3
      have HQ3 := hide h3
      have HG3 := hide (HQ.out.step HG.out S0.out c4)
      clear h3 c4 s3 hc
      go_wp2
      go_roundw
      case rel => exact ⟨i + 1, S3, adE E (1 + u), HI.out, rfl, HQ3.out, ⟨adE_nodup HE.out.1 _, adE_mem HE.out.2.1 (by have := HU.out; omega), by have := adE_len E (1 + u); have := HE.out.2.2; omega⟩, HG3.out⟩
      case measure => have := HI.out; simp [Go.RowKit.intOf]; omega
end
theorem walk (a : Option Addr) (len cap : Nat) (zs : List Int) (a1 : Int) (w : World) (hr : IsRow .u8 w a len cap zs) (w1 : (Lit.int .u8 a1).wf = true) :
    Calls Try.prog 8 #[.slice a len cap, .int .u8 a1] w fun e w' => e = .returned (.bool true) ∧ Below w.heap.size w w' := by
  obtain ⟨p, rfl, hp⟩ := u8_bd w1
  by_cases h : 200 < len
  · exact walk_long h
  · exact walk_main hr (by omega) hp


theorem own : ownKnob Try.prog.godebug = none := by kernel_rfl
theorem laidOut : laidOutB Try.prog = true := by kernel_rfl

set_option maxRecDepth 100000 in
theorem lifted (os : Os) (started : os.Started) (H : Type) (enc : TypeId × Value → H) :
    ReturnsInHanded {} Try.checked os 8 .any (Rows.queueForgetsSpec.pre6 enc Try.prog Try.f8 Rows.queueForgetsRow.domain false) (Rows.queueForgetsSpec.post enc Try.prog Try.f8 false true false false) := by
  refine returnsInHanded_of_change (C := Try.checked) own started (by kernel_rfl) Try.func8
    (ChangeSpec.witness6 (enc := enc) (C := Try.checked) false ⟨#[], #[.slice none 0 0, .int .u8 0], []⟩ 8 (by kernel_rfl) (by kernel_rfl) (by kernel_rfl) (by kernel_rfl)) ?_
  intro W base args ds gs before hval0 hW hcnd _
  have hval : ∀ (j : Nat) t v, Try.f8.params[j]? = some t → args[j]? = some v → Value.okWide Try.prog W .any base t v := hval0
  have hW' := hW
  obtain ⟨p, q, hA0, hV, rfl, hfz, hnd⟩ := hW
  have hA : DataW.TrodAll enc Try.prog W 0 (fun _ => true) true Try.f8.params.toList args.toList ds p := hA0
  rw [Try.params8] at hA hval
  obtain ⟨v0, vs0, d0, ds0, p0, q0, hargs, rfl, rfl, h0, r0⟩ := trodAll_cons hA
  obtain ⟨v1, vs1, d1, ds1, p1, q1, rfl, rfl, rfl, h1, r1⟩ := trodAll_cons r0
  obtain ⟨rfl, rfl, rfl⟩ := trodAll_nil r1
  obtain rfl : args = #[v0, v1] := by cases args; simp_all
  obtain ⟨rfl, rfl⟩ := trodVars_none hV
  obtain ⟨a0, len0, cap0, rfl⟩ := okWide_slice Try.underlying54 (hval 0 54 v0 rfl rfl)
  have k0 := h0
  have lt0 : ∀ x ∈ p0, x.block < W.heap.size := by obtain ⟨m, hm⟩ := k0; exact DataW.trod_lt m _ _ _ hm
  obtain ⟨z0, w0⟩ : ∃ zs, IsRow .u8 W a0 len0 cap0 zs := open_row Try.underlying54 Try.underlying5 (by kernel_rfl) h0
  obtain ⟨a1, rfl, rfl, rfl, w1⟩ := open_int Try.underlying5 (hval 1 5 v1 rfl rfl) h1
  clear hA0 hval0
  refine (walk a0 len0 cap0 z0 a1 W w0 w1).mono fun e W' ⟨he, bel⟩ => ?_
  subst he
  exact ⟨_, rfl, _, _, _, [], _, [], hW', trodAll_mk1 (shut_bool Try.underlying4 _), (trodAll_cons_mk (Below.trod laidOut (by kernel_rfl) (of_decide_eq_true (by kernel_rfl)) k0 bel lt0) (trodAll_cons_mk (shut_int Try.underlying5 w1) trodAll_mk0)), rfl, bel.frame _, fun h => by cases h⟩

theorem over : Rows.queueForgetsRow.holds Try.pinned (OpenSpec.ofChange Rows.queueForgetsSpec) :=
  OpenClaim.holds_of_wide 8 Try.f8 rfl rfl rfl rfl rfl rfl rfl ⟨rfl, rfl, rfl, rfl, rfl⟩ rfl rfl rfl rfl rfl (by kernel_rfl) Try.func8 (by kernel_rfl)
    (of_decide_eq_true (by kernel_rfl)) (by unfold Func.isWrapper; first | (rw [if_pos (by decide +kernel)]; kernel_rfl) | (rw [if_neg (by decide +kernel)]; exact ⟨rfl, rfl⟩))
    (fun os started H enc _ => lifted os started H enc)

/-- The statement. -/
theorem proved : Rows.QueueForgetsSaid := over
#print axioms proved
end Go.Proofs.Ytgaoodjlcjmomaa.queueForgets


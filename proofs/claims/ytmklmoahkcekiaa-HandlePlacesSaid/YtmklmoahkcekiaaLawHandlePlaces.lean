/- For all numbers HandlePlaces answers true: a new handle has the least place that no handle has, and there are never more than MaxHandles. Conditions: none. -/
import Derived.Test.YtmklmoahkcekiaaL8Any
import Derived.ShutString
import Derived.Deep.WholeRow
namespace Go.Proofs.Ytmklmoahkcekiaa.handlePlaces
open Go.ChangeShapes Go.WideShapes Go.ChangeAt Go.RowKit Go.Proofs.Ytmklmoahkcekiaa.L8
set_option linter.unusedVariables false

/-- Block u is 64 bools. -/
def Bl (w : World) (u : Nat) (f : Nat → Bool) : Prop := ∃ cs, Blk w u 32 cs ∧ cs.length = 64 ∧ ∀ j, j < 64 → cs[j]? = some (.bool (f j))
section
variable {w w' : World} {u : Nat} {f : Nat → Bool} {C : Nat → Prop}
theorem Bl.chg (h : Bl w u f) (c : Chg C w w') (hu : ¬ C u) : Bl w' u f := by obtain ⟨cs, hb, r⟩ := h; exact ⟨cs, hb.chg c hu, r⟩
theorem Bl.at_ (h : Bl w u f) {j : Nat} (hj : j < 64) : w.cell? ⟨u, j, none⟩ = some (.bool (f j)) := by obtain ⟨cs, hb, _, r⟩ := h; rw [hb.cell]; exact r j hj
theorem Bl.frozen (h : Bl w u f) (j : Nat) : w.frozen? ⟨u, j, none⟩ = false := by obtain ⟨cs, hb, _⟩ := h; exact hb.frozen j
theorem Bl.set (h : Bl w u f) {i : Nat} (hi : i < 64) (b : Bool) : Bl (w.setCell ⟨u, i, none⟩ (.bool b)) u (fun j => if j = i then b else f j) := by
  obtain ⟨cs, hb, hl, r⟩ := h
  refine ⟨_, hb.set_ i _, by simp [hl], fun j hj => ?_⟩
  by_cases hji : j = i
  · subst hji
    simp only [if_pos]
    exact set_at (by omega)
  · simp only [if_neg hji]
    exact (set_off (fun e => hji e.symm)).trans (r j hj)
theorem Bl.eq (h : Bl w u f) {f' : Nat → Bool} (e : f = f') : Bl w u f' := e ▸ h
end
theorem bools_zero (w : World) : (zeroValue 32).run Try.prog w = .ok (.agg (List.replicate 64 (Value.bool false)).toArray) w := by kernel_rfl
theorem rep_get (n j : Nat) (hj : j < n) : (List.replicate n (Value.bool false))[j]? = some (.bool false) := by simp [hj]
theorem bools_is : ∃ A : Array Value, A.size = 64 ∧ (∀ w, (zeroValue 32).run Try.prog w = .ok (.agg A) w) ∧ (∀ w : World, (storeCells ⟨w.heap.size, 0, none⟩ A.toList 0).run Try.prog (w.alloc (.cells A 32)) = .ok () (w.alloc (.cells A 32))) ∧ Hid (∀ w : World, Bl (w.alloc (.cells A 32)) w.heap.size fun _ => false) :=
  ⟨(List.replicate 64 (Value.bool false)).toArray, by simp, bools_zero, fun w => run_storeCells_new (P := Try.prog) w _ _ _ (by kernel_rfl) rfl (by kernel_rfl), hide fun w => ⟨_, Blk.new w _ _, by simp, fun j hj => rep_get 64 j hj⟩⟩
/-- The places that the first k handles have. -/
def us (S : Nat → Sl) (k : Nat) : Nat → Bool := fun j => decide (j ∈ (ix S 64).take k)
theorem us_succ {S : Nat → Sl} {k i : Nat} (h : (ix S 64).take (k + 1) = (ix S 64).take k ++ [i]) : (fun j => if j = i then true else us S k j) = us S (k + 1) := by
  funext j
  unfold us
  rw [h]
  by_cases hj : j = i <;> simp [hj]
theorem us_all (S : Nat → Sl) {k j : Nat} (hk : (ix S 64).length ≤ k) (hj : j < 64) : us S k j = (S j).t := by
  unfold us
  rw [List.take_of_length_le hk]
  simp [ix_mem, hj]

set_option maxHeartbeats 1000000 in
theorem walk_long (a : Option Addr) (len cap : Nat) (w : World) (hl : 300 < len) :
    Calls Try.prog 7 #[.slice a len cap] w fun e w' => e = .returned (.bool true) ∧ Below w.heap.size w w' := by
  go_enter Try.func7, Try.ntmps7
  go_wp2_with fail
  refine (awake_any _).mono ?_
  rintro e wa ⟨rfl, ca⟩
  go_wp2_with fail
  refine (awake_any _).mono ?_
  rintro e wb ⟨rfl, cb⟩
  go_wp2
  go_ret
  exact ⟨rfl, (ca.trans cb).below (fun _ _ h => h) (Nat.le_refl _)⟩
set_option maxHeartbeats 4000000 in
set_option maxRecDepth 100000 in
theorem walk_short (a : Option Addr) (len cap : Nat) (zs : List Int) (w : World) (hl : len ≤ 300) (hr : IsRow .u8 w a len cap zs) :
    Calls Try.prog 7 #[.slice a len cap] w fun e w' => e = .returned (.bool true) ∧ Below w.heap.size w w' := by
  have HR := hide hr
  have hl' : decide ((len : Int) > 300) = false := by simp; omega
  clear hr
  obtain ⟨A, hz, HZ⟩ := zero_is
  obtain ⟨A2, hA2, hz2, hst2, HZ2⟩ := bools_is
  have HST2 := hide hst2
  clear hst2
  have HZB := hide hz2
  clear hz2
  go_enter Try.func7, Try.ntmps7
  go_wp2_with fail
  refine (awake_any _).mono ?_
  rintro e wa ⟨rfl, cc⟩
  go_wp2_with fail
  have h := HZ.out wa
  obtain ⟨g, hg⟩ : ∃ g, wa.heap.size = g := ⟨_, rfl⟩
  have HG : Hid (w.heap.size ≤ g) := hide (by rw [← hg]; exact cc.size)
  replace cc := cc.alloc (.cells A 29)
  rw [hg] at h ⊢
  generalize wa.alloc (.cells A 29) = w0 at *
  clear HZ hz hg
  clear hl'
  go_loopw [23] (fun i wr => ∃ (k : Nat) (S : Nat → Sl), i = .int .i64 k ∧ k ≤ len ∧ Tb wr g S ∧ Bd S k ∧ Grow w wr) (fun i _ => len - (intOf i).toNat)
  case atStart => exact ⟨0, _, rfl, Nat.zero_le _, h, zero_bd 0, cc⟩
  case round =>
    clear h cc
    obtain ⟨k, S, rfl, hk, h, hB, cc⟩ := hrel
    have hB0 := hB.mono (show k ≤ 1000000 by omega)
    by_cases hlt : k < len
    · have HBK := hide hB
      have HB0 := hide hB0
      have HLT := hide hlt
      have HK := hide hk
      have HL := hide hl
      have hki : (k : Int) < len := by omega
      clear hB hB0 hlt hk hl
      have hlt0 := h.lt
      go_wp2_with fail
      refine (all_is h HB0.out).mono ?_
      rintro e w1 ⟨v, rfl, hown, c⟩
      replace h := h.grow c
      replace cc := cc.trans c
      rw [hs_len] at hown
      obtain ⟨n, hn⟩ : ∃ n, (ix S 64).length = n := ⟨_, rfl⟩
      rw [hn] at hown
      have hgb0 : g < wr.heap.size := hlt0
      have HN := hide hn
      obtain ⟨oa, ocap, rfl⟩ := own_len hown
      have HO := hide hown
      have hz2 := HZB.out
      have hst2 := HST2.out
      have hb2 := HZ2.out w1
      have hc2 := Grow.box w1 (.cells A2 32)
      have hgb := hgb0
      clear c hn hown hgb0
      go_wp2
      obtain ⟨u, hu⟩ : ∃ u, w1.heap.size = u := ⟨_, rfl⟩
      have HU := hide hu
      rw [hu] at hb2 ⊢
      have h2 := h.grow hc2
      have hgu : g < u := hu ▸ h.lt
      have hwu : w.heap.size ≤ u := hu ▸ cc.size
      have cc2 := cc.trans hc2
      have HC2 := hide hc2
      clear hz2 hst2 hc2 h cc
      generalize w1.alloc (.cells A2 32) = w2 at *
      go_loopw [31] (fun i wr => ∃ j : Nat, i = .int .i64 j ∧ j ≤ n ∧ Bl wr u (us S j) ∧ Chg (· = u) w2 wr) (fun i _ => n - (intOf i).toNat)
      case atStart => exact ⟨0, rfl, Nat.zero_le _, hb2.eq (by funext j; simp [us]), Chg.refl _ _⟩
      case round =>
        clear hb2
        obtain ⟨j, rfl, hj, hb, c⟩ := hrel
        have hn64 : n ≤ 64 := HN.out ▸ ix_length S 64
        by_cases hjn : j < n
        · obtain ⟨lg, cap2, e1, _, e3, _, _, hcl⟩ := own_ints HO.out (by omega)
          cases e1
          obtain ⟨i, ei, hi, ht, eh, et, _⟩ := ix_at (S := S) (n := 64) (k := j) (by rw [HN.out]; exact hjn)
          have hc := c.cell (HC2.out.cell (hcl j hjn)) (by have := HU.out; dsimp only; omega)
          rw [eh] at hc
          have he := HB0.out i hi
          obtain ⟨m, hm⟩ : ∃ m, 64 * (S i).e + i = m := ⟨_, rfl⟩
          have hhd : hd S i = m + 1 := by rw [← hm]; rfl
          rw [hhd] at hc
          have q2 : IntKind.i64.wrap (((m + 1 : Nat) : Int) - 1) = (m : Int) := by rw [wrap_i64_id _ (by omega)]; omega
          have q3 : (m : Int) % 64 = (i : Int) := by omega
          have hset := (hb.set hi true).eq (us_succ et)
          have f0 := hb.frozen i
          have b0 := hb.at_ hi
          have HSET := hide hset
          have hil : (i : Int) < 64 := by omega
          have q5 : wrap64 (m : Int) = (m : Int) := wrap64_id _ (by omega)
          have q6 : (m : Int).tmod 64 = (i : Int) := (Int.tmod_eq_emod_of_nonneg (Int.natCast_nonneg m)).trans q3
          clear e3 hcl ei ht eh et he hm hhd hset hb
          go_wp2
          clear q5 q6
          go_roundw
          case rel => exact ⟨j + 1, by simp, by omega, HSET.out, c.set1 _ _⟩
          case measure => simp [intOf]; omega
        · obtain rfl : j = n := by omega
          obtain ⟨w3, rfl⟩ : ∃ w3, w3 = wr := ⟨_, rfl⟩
          have HB := hide hb
          have h3 := h2.chg c (by omega)
          have cc3 := cc2.new hwu c
          clear hb
          go_wp2
          go_loopw [8] (fun i wr => ∃ m : Nat, i = .int .i64 m ∧ m ≤ 64 ∧ (∀ j, j < m → (S j).t = true) ∧ wr = w3) (fun i _ => 64 - (intOf i).toNat)
          case atStart => exact ⟨0, rfl, Nat.zero_le _, fun j hj => absurd hj (by omega), rfl⟩
          case round =>
            obtain ⟨m, rfl, hm, hall, rfl⟩ := hrel
            by_cases hm64 : m < 64
            · have hbm := HB.out.at_ hm64
              rw [us_all S (by rw [HN.out]; exact Nat.le_refl _) hm64] at hbm
              have HALL := hide hall
              have hmi : (m : Int) < 64 := by omega
              obtain ⟨t, ht⟩ : ∃ t, (S m).t = t := ⟨_, rfl⟩
              rw [ht] at hbm
              have HT := hide ht
              clear hall ht
              cases t with
              | true =>
                go_wp2
                go_roundw
                case rel => exact ⟨m + 1, by simp, by omega, fun j hj => if e : j = m then by rw [e]; exact HT.out else HALL.out j (by omega), by first | rfl | trivial⟩
                case measure => simp [intOf]; omega
              | false =>
                have HNW := hide (new_at h3 HB0.out m hm64 HALL.out HT.out k)
                have he := HB0.out m hm64
                obtain ⟨m2, hm2⟩ : ∃ m2, 64 * (S m).e + m = m2 := ⟨_, rfl⟩
                have hhd : hd S m = m2 + 1 := by rw [← hm2]; rfl
                rw [hhd] at HNW
                have q2 : IntKind.i64.wrap (((m2 + 1 : Nat) : Int) - 1) = (m2 : Int) := by rw [wrap_i64_id _ (by omega)]; omega
                have q3 : (m2 : Int) % 64 = (m : Int) := by omega
                have Q5 := hide (show wrap64 (m2 : Int) = (m2 : Int) from wrap64_id _ (by omega))
                have Q6 := hide (show (m2 : Int).tmod 64 = (m : Int) from (Int.tmod_eq_emod_of_nonneg (Int.natCast_nonneg m2)).trans q3)
                have q4 : ((m : Int) == 64) = false := by simp; omega
                clear he hm2 hhd
                go_wp2_with fail
                refine HNW.out.mono ?_
                rintro e w5 ⟨rfl, h5, c5⟩
                have hB1 : Bd (upd S m ⟨(S m).e, true, (k : Int)⟩) k := HBK.out.upd (HBK.out m hm64)
                have cc := cc3.new HG.out c5
                have c15 : Chg (fun i => i = u ∨ i = g) w1 w5 := ((HC2.out.mono (fun _ _ hx => hx.elim)).step c (fun _ _ hx => .inl hx)).step c5 (fun _ _ hx => .inr hx)
                generalize upd S m ⟨(S m).e, true, (k : Int)⟩ = S' at *
                clear HNW h3
                have HB1 := hide hB1
                have HB2 := hide (HB1.out.mono (show k ≤ 1000000 by have := HK.out; have := HL.out; omega))
                obtain ⟨x, rfl, hx, hz⟩ := (HR.out.chg cc (fun i hi => id)).at_ HLT.out
                have hzb := bounds_u8 hz
                obtain ⟨z, hzn⟩ : ∃ z : Nat, zs.getD k 0 = (z : Int) := ⟨(zs.getD k 0).toNat, by omega⟩
                rw [hzn] at hx hzb
                have hk3 : k < 300 := by have := HLT.out; have := HL.out; omega
                have HGB := hide hgb
                clear hz hzn hB1 hgb
                by_cases hz3 : (z : Int) % 3 = 1
                · by_cases hj0 : 0 < j
                  · obtain ⟨lg, cap2, e1, e2, e3, _, _, hcl⟩ := own_ints HO.out hj0
                    cases e1
                    obtain ⟨r, hr⟩ : ∃ r, z % j = r := ⟨_, rfl⟩
                    have hrj : r < j := hr ▸ Nat.mod_lt _ hj0
                    have hr' : (z : Int) % (j : Int) = (r : Int) := by rw [← hr]; simp
                    obtain ⟨i, _, hi, _, eh, _, _⟩ := ix_at (S := S) (n := 64) (k := r) (by rw [HN.out]; exact hrj)
                    have hc := c15.cell (hcl r hrj) (fun e => by have := HU.out; have := HGB.out; dsimp only at e; omega)
                    rw [eh] at hc
                    have he := HB0.out i hi
                    have hwf : (Lit.int .i64 (hd S i : Nat)).wf = true := WalkArith.wf_i64 (by unfold hd; omega)
                    obtain ⟨y, hy⟩ : ∃ y : Int, (hd S i : Nat) = y := ⟨_, rfl⟩
                    rw [hy] at hc hwf
                    obtain ⟨ee, S2, hS2, HDR⟩ := drop_any HB2.out hwf
                    replace HDR := hide HDR
                    have hB3 := hide (hS2.bd HB1.out)
                    have hri : (r : Int) < j := by omega
                    clear e2 e3 hcl hr eh he hwf hy hS2 c15
                    (have q5 := Q5.out; have q6 := Q6.out)
                    go_wp2_with fail
                    (clear q5 q6)
                    refine (HDR.out _ _ h5).mono ?_
                    rintro e w6 ⟨rfl, h6, c6⟩
                    replace cc := cc.new HG.out c6
                    clear HDR h5 c6
                    go_wp2
                    go_roundw
                    case rel => exact ⟨k + 1, S2, by simp, HLT.out, h6, hB3.out, cc⟩
                    case measure => have := HLT.out; simp [intOf]; omega
                  · obtain rfl : j = 0 := by omega
                    clear c15 hj0
                    (have q5 := Q5.out; have q6 := Q6.out)
                    go_wp2
                    (clear q5 q6)
                    go_roundw
                    case rel => exact ⟨k + 1, S', by simp, HLT.out, h5, HB1.out.mono (Nat.le_succ k), cc⟩
                    case measure => have := HLT.out; have := HL.out; simp [intOf]; omega
                · have hz4 : ((z : Int) % 3 == 1) = false := by simpa using hz3
                  clear c15 hz3
                  (have q5 := Q5.out; have q6 := Q6.out)
                  go_wp2
                  (clear q5 q6)
                  go_roundw
                  case rel => exact ⟨k + 1, S', by simp, HLT.out, h5, HB1.out.mono (Nat.le_succ k), cc⟩
                  case measure => have := HLT.out; have := HL.out; simp [intOf]; omega
            · obtain rfl : m = 64 := by omega
              have HNW := hide (new_full h3 hall k)
              go_wp2_with fail
              refine HNW.out.mono ?_
              rintro e w5 ⟨rfl, c5⟩
              have hB1 := HBK.out
              have cc := cc3.trans c5
              have c15 : Chg (fun i => i = u ∨ i = g) w1 w5 := ((HC2.out.mono (fun _ _ hx => hx.elim)).step c (fun _ _ hx => .inl hx)).step c5 (fun _ _ hx => hx.elim)
              obtain ⟨S', hS'⟩ : ∃ S', S' = S := ⟨_, rfl⟩
              have h5 : Tb w5 g S' := hS' ▸ h3.grow c5
              rw [← hS'] at hB1
              clear HNW h3 hall hS'
              have HB1 := hide hB1
              have HB2 := hide (HB1.out.mono (show k ≤ 1000000 by have := HK.out; have := HL.out; omega))
              obtain ⟨x, rfl, hx, hz⟩ := (HR.out.chg cc (fun i hi => id)).at_ HLT.out
              have hzb := bounds_u8 hz
              obtain ⟨z, hzn⟩ : ∃ z : Nat, zs.getD k 0 = (z : Int) := ⟨(zs.getD k 0).toNat, by omega⟩
              rw [hzn] at hx hzb
              have hk3 : k < 300 := by have := HLT.out; have := HL.out; omega
              have HGB := hide hgb
              clear hz hzn hB1 hgb
              by_cases hz3 : (z : Int) % 3 = 1
              · by_cases hj0 : 0 < j
                · obtain ⟨lg, cap2, e1, e2, e3, _, _, hcl⟩ := own_ints HO.out hj0
                  cases e1
                  obtain ⟨r, hr⟩ : ∃ r, z % j = r := ⟨_, rfl⟩
                  have hrj : r < j := hr ▸ Nat.mod_lt _ hj0
                  have hr' : (z : Int) % (j : Int) = (r : Int) := by rw [← hr]; simp
                  obtain ⟨i, _, hi, _, eh, _, _⟩ := ix_at (S := S) (n := 64) (k := r) (by rw [HN.out]; exact hrj)
                  have hc := c15.cell (hcl r hrj) (fun e => by have := HU.out; have := HGB.out; dsimp only at e; omega)
                  rw [eh] at hc
                  have he := HB0.out i hi
                  have hwf : (Lit.int .i64 (hd S i : Nat)).wf = true := WalkArith.wf_i64 (by unfold hd; omega)
                  obtain ⟨y, hy⟩ : ∃ y : Int, (hd S i : Nat) = y := ⟨_, rfl⟩
                  rw [hy] at hc hwf
                  obtain ⟨ee, S2, hS2, HDR⟩ := drop_any HB2.out hwf
                  replace HDR := hide HDR
                  have hB3 := hide (hS2.bd HB1.out)
                  have hri : (r : Int) < j := by omega
                  clear e2 e3 hcl hr eh he hwf hy hS2 c15
                  skip
                  go_wp2_with fail
                  skip
                  refine (HDR.out _ _ h5).mono ?_
                  rintro e w6 ⟨rfl, h6, c6⟩
                  replace cc := cc.new HG.out c6
                  clear HDR h5 c6
                  go_wp2
                  go_roundw
                  case rel => exact ⟨k + 1, S2, by simp, HLT.out, h6, hB3.out, cc⟩
                  case measure => have := HLT.out; simp [intOf]; omega
                · obtain rfl : j = 0 := by omega
                  clear c15 hj0
                  skip
                  go_wp2
                  skip
                  go_roundw
                  case rel => exact ⟨k + 1, S', by simp, HLT.out, h5, HB1.out.mono (Nat.le_succ k), cc⟩
                  case measure => have := HLT.out; have := HL.out; simp [intOf]; omega
              · have hz4 : ((z : Int) % 3 == 1) = false := by simpa using hz3
                clear c15 hz3
                skip
                go_wp2
                skip
                go_roundw
                case rel => exact ⟨k + 1, S', by simp, HLT.out, h5, HB1.out.mono (Nat.le_succ k), cc⟩
                case measure => have := HLT.out; have := HL.out; simp [intOf]; omega
    · obtain rfl : k = len := by omega
      go_wp2_with fail
      refine (len_any h hB0).mono ?_
      rintro e w1 ⟨rfl, c⟩
      replace cc := cc.trans c
      have hle : decide (((hs S 64).length : Int) ≤ 64) = true := by have := hs_length S 64; simp; omega
      go_wp2
      go_ret
      exact ⟨rfl, cc.below (fun _ _ h => h) (Nat.le_refl _)⟩
theorem walk (a : Option Addr) (len cap : Nat) (zs : List Int) (w : World) (hr : IsRow .u8 w a len cap zs) :
    Calls Try.prog 7 #[.slice a len cap] w fun e w' => e = .returned (.bool true) ∧ Below w.heap.size w w' := by
  by_cases hl : 300 < len
  · exact walk_long a len cap w hl
  · exact walk_short a len cap zs w (by omega) hr

theorem own : ownKnob Try.prog.godebug = none := by kernel_rfl
theorem laidOut : laidOutB Try.prog = true := by kernel_rfl

set_option maxRecDepth 100000 in
theorem lifted (os : Os) (started : os.Started) (H : Type) (enc : TypeId × Value → H) :
    ReturnsInHanded {} Try.checked os 7 .any (Rows.handlePlacesSpec.pre6 enc Try.prog Try.f7 Rows.handlePlacesRow.domain false) (Rows.handlePlacesSpec.post enc Try.prog Try.f7 false true false false) := by
  refine returnsInHanded_of_change (C := Try.checked) own started (by kernel_rfl) Try.func7
    (ChangeSpec.witness6 (enc := enc) (C := Try.checked) false ⟨#[], #[.slice none 0 0], []⟩ 8 (by kernel_rfl) (by kernel_rfl) (by kernel_rfl) (by kernel_rfl)) ?_
  intro W base args ds gs before hval0 hW hcnd _
  have hval : ∀ (j : Nat) t v, Try.f7.params[j]? = some t → args[j]? = some v → Value.okWide Try.prog W .any base t v := hval0
  have hW' := hW
  obtain ⟨p, q, hA0, hV, rfl, hfz, hnd⟩ := hW
  have hA : DataW.TrodAll enc Try.prog W 0 (fun _ => true) true Try.f7.params.toList args.toList ds p := hA0
  rw [Try.params7] at hA hval
  obtain ⟨v0, vs0, d0, ds0, p0, q0, hargs, rfl, rfl, h0, r0⟩ := trodAll_cons hA
  obtain ⟨rfl, rfl, rfl⟩ := trodAll_nil r0
  obtain rfl : args = #[v0] := by cases args; simp_all
  obtain ⟨rfl, rfl⟩ := trodVars_none hV
  obtain ⟨a0, len0, cap0, rfl⟩ := okWide_slice Try.underlying51 (hval 0 51 v0 rfl rfl)
  have k0 := h0
  have lt0 : ∀ x ∈ p0, x.block < W.heap.size := by obtain ⟨m, hm⟩ := k0; exact DataW.trod_lt m _ _ _ hm
  obtain ⟨z0, w0⟩ : ∃ zs, IsRow .u8 W a0 len0 cap0 zs := open_row Try.underlying51 Try.underlying5 (by kernel_rfl) h0
  clear hA0 hval0
  refine (walk a0 len0 cap0 z0 W w0).mono fun e W' ⟨he, bel⟩ => ?_
  subst he
  exact ⟨_, rfl, _, _, _, [], _, [], hW', trodAll_mk1 (shut_bool Try.underlying4 _), (trodAll_cons_mk (Below.trod laidOut (by kernel_rfl) (of_decide_eq_true (by kernel_rfl)) k0 bel lt0) trodAll_mk0), rfl, bel.frame _, fun h => by cases h⟩

theorem over : Rows.handlePlacesRow.holds Try.pinned (OpenSpec.ofChange Rows.handlePlacesSpec) :=
  OpenClaim.holds_of_wide 7 Try.f7 rfl rfl rfl rfl rfl rfl rfl ⟨rfl, rfl, rfl, rfl, rfl⟩ rfl rfl rfl rfl rfl (by kernel_rfl) Try.func7 (by kernel_rfl)
    (of_decide_eq_true (by kernel_rfl)) (by unfold Func.isWrapper; first | (rw [if_pos (by decide +kernel)]; kernel_rfl) | (rw [if_neg (by decide +kernel)]; exact ⟨rfl, rfl⟩))
    (fun os started H enc _ => lifted os started H enc)

/-- The statement. -/
theorem proved : Rows.HandlePlacesSaid := over
#print axioms proved
end Go.Proofs.Ytmklmoahkcekiaa.handlePlaces


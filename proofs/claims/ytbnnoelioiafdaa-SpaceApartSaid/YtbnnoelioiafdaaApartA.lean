/- The walk through SpaceApart. Conditions: at most 12 sizes. -/
import Derived.Test.YtbnnoelioiafdaaSplitFacts
import Derived.StillTailTactics
import Derived.BigRegion
namespace Go.Proofs.Ytbnnoelioiafdaa.spaceApart
open Go.ChangeShapes Go.WideShapes Go.ChangeAt Go.RowKit
set_option linter.unusedVariables false

/-- What has been summed and laid so far. -/
def Laid (zs : List Int) (w : World) (k : Nat) (s : Int) (v : Value) (wr : World) : Prop :=
  s = (zs.take k).sum ∧ wr.ownsRow w.heap.size 3 1 v k (ints (zs.take k)) ∧ Grow w wr
theorem sum_bd (zs : List Int) (h : ∀ z ∈ zs, 0 ≤ z ∧ z ≤ 255) : 0 ≤ zs.sum ∧ zs.sum ≤ 255 * zs.length := by
  induction zs with
  | nil => simp
  | cons n zs ih =>
    have h1 := h n (by simp)
    have h2 := ih (fun z hz => h z (by simp [hz]))
    simp; omega
theorem take_bd (zs : List Int) (h : ∀ z ∈ zs, 0 ≤ z ∧ z ≤ 255) (k : Nat) (hk : zs.length ≤ 12) : 0 ≤ (zs.take k).sum ∧ (zs.take k).sum ≤ 3060 := by
  have := sum_bd (zs.take k) (fun z hz => h z (List.mem_of_mem_take hz))
  have hl : (zs.take k).length ≤ zs.length := List.length_take_le' _ _
  omega
theorem take_next (zs : List Int) (k : Nat) (h : k < zs.length) : zs.take (k + 1) = zs.take k ++ [zs.getD k 0] := by
  rw [List.take_succ_eq_append_getElem h]; simp [List.getD_eq_getElem?_getD, h]
/-- Is the address in the first spaces? -/
def inB (f p k : Int) : Int := if f ≤ k ∧ k < p then 1 else 0

theorem own_row {w : World} {base n : Nat} {v : Value} {xs : List Int} (h : w.ownsRow base 3 1 v n (ints xs)) (hw : ∀ z ∈ xs, (Lit.int .i64 z).wf = true) : ∃ a cap, v = .slice a n cap ∧ IsRow .i64 w a n cap xs := by
  have hl : xs.length = n := by have := h.1; rw [ints_length] at this; omega
  rcases h.2 with ⟨rfl, rfl⟩ | ⟨g, cap, cur, rfl, hge, hh, hnc, hm, _, _⟩
  · exact ⟨_, _, rfl, hl, Nat.le_refl _, by simp [maxLen], fun h => absurd h (by omega), hw⟩
  · refine ⟨_, _, rfl, hl, hnc, hm, fun _ => ⟨_, rfl, fun i hi => ?_⟩, hw⟩
    exact h.cells (g := g) rfl i _ (ints_get xs i (by omega))
theorem ps_ge (f : Int) (zs : List Int) (h : ∀ z ∈ zs, 0 ≤ z ∧ z ≤ 255) (k : Nat) : f ≤ ps f zs k := by
  have := sum_bd (zs.take k) (fun z hz => h z (List.mem_of_mem_take hz))
  unfold ps; omega

set_option maxHeartbeats 2000000 in
set_option maxRecDepth 100000 in
theorem walk_main (f q : Nat) (a : Option Addr) (len cap : Nat) (zs : List Int) (w : World) (hf : f ≤ 255) (hq : q ≤ 65535) (h0 : IsRow .u8 w a len cap zs) (hl : len ≤ 12) :
    Calls Try.prog 7 #[.int .u8 f, .slice a len cap, .int .u16 q] w fun e w' => e = .returned (.bool true) ∧ Below w.heap.size w w' := by
  have H0 := hide h0
  have HZL := hide h0.1
  have hzs : ∀ z ∈ zs, 0 ≤ z ∧ z ≤ 255 := fun z hz => bounds_u8 (h0.2.2.2.2 z hz)
  have HZS := hide hzs
  clear h0 hzs
  have hl' : decide ((len : Int) > 12) = false := by simp; omega
  obtain ⟨i0, hi0, hz0, hz1, hz2⟩ := info_parts Try.infoInt
  have HI := hide hi0
  have HZ0 := hide hz0
  have HZ1 := hide hz1
  have HZ2 := hide hz2
  clear hi0 hz0 hz1 hz2
  go_enter Try.func7, Try.ntmps7
  go_wp2_with fail
  refine (awake_any _).mono ?_
  rintro e wa ⟨rfl, ca⟩
  go_wp2
  clear hl'
  go_loopw [7, 8, 27] (fun v s i wr => ∃ (k : Nat) (sm : Int), k ≤ len ∧ i = .int .i64 k ∧ s = .int .i64 sm ∧ Laid zs w k sm v wr) (fun _ _ i _ => len - (intOf i).toNat)
  case atStart => exact ⟨0, 0, Nat.zero_le _, rfl, rfl, by simp, World.ownsRow_nil _ _ _ _, ca⟩
  case round =>
    clear ca
    obtain ⟨k, sm, hk, rfl, rfl, hsm, hown, cc⟩ := hrel
    have hbd := take_bd zs HZS.out k (by rw [HZL.out]; exact hl)
    rw [← hsm] at hbd
    have HSM := hide hsm
    clear hsm
    by_cases hlt : k < len
    · obtain ⟨ad, rfl, hcell, hwf⟩ := (H0.out.chg cc (fun i hi => id)).at_ hlt
      have bz := bounds_u8 hwf
      have hnext := take_next zs k (by rw [HZL.out]; exact hlt)
      obtain ⟨z, hz⟩ : ∃ z : Int, z = zs.getD k 0 := ⟨_, rfl⟩
      rw [← hz] at hcell bz hnext
      have HN := hide hnext
      clear hz hwf hnext
      have hb := Blk.new wr 3 [.int .i64 z]
      have hc2 := Grow.cell (Grow.box wr (.cells [.int .i64 z].toArray 3)) hcell
      have HB := hide hb
      have HO := hide (hown.alloc (.cells [.int .i64 z].toArray 3))
      have HC := hide (cc.alloc (.cells [.int .i64 z].toArray 3))
      have HC2 := hide hc2
      have HNO := hide (show some ad.block ≠ _ from fun e => by
        have h1 := (hown.lt ad.block e.symm).1
        obtain ⟨ad', e', h2, -⟩ := H0.out.at_ hlt
        injection e' with e'
        subst e'
        have := cell_lt h2
        rw [add_block] at this
        omega)
      clear hb hc2 hown
      go_wp2_with (at_builtin; refine wpList_append_own _ rfl _ _ 44 rfl w.heap.size 3 i0 (.int .i64 0) 1 8 Try.underlying44 HI.out HZ0.out HZ1.out HZ2.out rfl (by decide) _ _ _ rfl HO.out ⟨wr.heap.size, 0, none⟩ 1 1 [.int .i64 z] rfl rfl ?c1 ?c2 ?c3 ?c4 ?c5 ?_)
      case c1 => intro j u hj; rw [addr_add, Nat.zero_add, HB.out.cell]; exact hj
      case c2 => intro u hu; simp at hu; subst hu; rfl
      case c3 => unfold maxLen; omega
      case c4 => omega
      case c5 => exact HC.out.size
      intro v' w3 hown3 hgrow _
      have c3 := Chg.grownOwn HC.out HO.out (Nat.le_refl _) hgrow
      have hc3 := hgrow.cell HC2.out (by rw [add_block]; exact HNO.out)
      have HO3 := hide hown3
      have HC3 := hide c3
      clear hgrow hown3 c3 HC HO HNO HB HC2 cc
      go_wp2
      go_roundw
      case rel =>
        refine ⟨k + 1, sm + z, by omega, by go_num, rfl, ?_, ?_, HC3.out⟩
        · rw [HN.out, List.sum_append, HSM.out]; simp
        · rw [HN.out]; have := HO3.out; simpa [ints] using this
      case measure => simp [intOf]; omega
    · obtain rfl : len = k := by omega
      rw [List.take_of_length_le (by rw [HZL.out]; exact Nat.le_refl _)] at hown
      have hsum := HSM.out
      rw [List.take_of_length_le (by rw [HZL.out]; exact Nat.le_refl _)] at hsum
      obtain ⟨x1, p1, rfl, hrow⟩ := own_row hown (fun z hz => by have := HZS.out z hz; exact WalkArith.wf_i64 (by omega))
      have HROW := hide hrow
      obtain ⟨l, hsp⟩ := spl_all f zs 12 (by rw [HZL.out]; exact hl) (by omega) (by omega) HZS.out
      have HSP := hide hsp
      have HSUM := hide hsum
      clear hrow hsp hsum hown HSM
      go_wp2_with fail
      refine (split_any f _ len _ zs _ (by omega) HROW.out (by omega)).mono ?_
      rintro e w2 hpost
      rcases hpost with ⟨l1, v1, hs1, rfl, ho1, c1⟩ | ⟨hn, _⟩
      case inr => have := HSP.out; rw [hn] at this; cases this
      obtain rfl : l = l1 := by rw [HSP.out] at hs1; simpa using hs1
      clear hs1
      rw [HZL.out] at ho1
      obtain ⟨x2, p2, rfl⟩ := own_len ho1
      replace c1 := cc.trans c1
      generalize wr.heap.size = ba at *
      have HO1 := hide ho1
      clear ho1 cc
      go_wp2
      go_loopw [13, 59] (fun nv i wr => ∃ k : Nat, k ≤ len ∧ nv = .int .i64 (inB f (ps f zs k) q) ∧ i = .int .i64 k ∧ Grow w2 wr) (fun _ i _ => len - (intOf i).toNat)
      case atStart => exact ⟨0, Nat.zero_le _, by rw [ps_zero]; unfold inB; rw [if_neg (by omega)], rfl, Chg.refl _ _⟩
      case round =>
        obtain ⟨k, hk, rfl, rfl, cr⟩ := hrel
        by_cases hlt : k < len
        · have hz : k < zs.length := by rw [HZL.out]; exact hlt
          obtain ⟨g1, rfl, hg1, hp1, hm1⟩ := own_two HO1.out (by omega)
          obtain ⟨hget, q1, q2, q3⟩ := spl_get HSP.out hz
          have hge := ps_ge f zs HZS.out k
          obtain ⟨A, hA⟩ : ∃ A, A = ps f zs k := ⟨_, rfl⟩
          obtain ⟨B, hB⟩ : ∃ B, B = ps f zs (k + 1) := ⟨_, rfl⟩
          rw [← hA] at hget q1 q2 hge
          rw [← hA]
          rw [← hB] at hget q2 q3
          have HB := hide hB
          obtain ⟨a0, a1, a2⟩ := own_sp (own_grow HO1.out cr) hlt hget
          have HR := hide (show riB A B B = true by simp [riB]; omega)
          clear hget hA hB hz
          unfold maxLen at hm1
          obtain ⟨N, hN⟩ : ∃ N, N = inB f A q := ⟨_, rfl⟩
          rw [← hN]
          have hN1 : 0 ≤ N ∧ N ≤ 1 := by rw [hN]; unfold inB; split <;> omega
          have HN := hide hN
          clear hN
          go_wp2_with fail
          have e0 := Grow.cell (Grow.box wr (.cells [.int .i64 0, .int .i64 0, .int .i64 0].toArray 25)) a0
          have e2 := Grow.cell (Grow.box wr (.cells [.int .i64 0, .int .i64 0, .int .i64 0].toArray 25)) a2
          go_region
          clear a0 a1 a2 e0 e2
          have ht := (Blk.new wr 25 [.int .i64 A, .int .i64 B, .int .i64 B]).drew
          have ct := Chg.drew (cr.alloc (.cells [.int .i64 A, .int .i64 B, .int .i64 B].toArray 25))
          generalize (wr.alloc (.cells #[.int .i64 A, .int .i64 B, .int .i64 B] 25)).drew = wd at *
          replace ht : Blk wd wr.heap.size 25 [.int .i64 A, .int .i64 B, .int .i64 B] := ht
          generalize wr.heap.size = t at *
          obtain ⟨t0, t1, t2⟩ := ht.cell3
          go_wp2_with fail
          by_cases hin : A ≤ q ∧ q < B
          · have HH := hide (show hasB A B B q = true by simp [hasB, HR.out]; omega)
            obtain rfl : N = 0 := by rw [HN.out]; unfold inB; rw [if_neg (by omega)]
            have HI1 := hide (show inB f B q = 1 by unfold inB; rw [if_pos (by omega)])
            clear hin
            refine (has_is A B B q _ HH.out).mono ?_
            rintro e w4 ⟨rfl, c4⟩
            replace ct := ct.trans c4
            clear t0 t1 t2 c4 ht
            go_wp2
            go_roundw
            case rel => exact ⟨k + 1, by omega, by rw [← HB.out, HI1.out], by go_num, ct⟩
            case measure => simp [intOf]; omega
          · have HH := hide (show hasB A B B q = false by simp [hasB, HR.out]; omega)
            have HI1 := hide (show inB f B q = N by rw [HN.out]; unfold inB; by_cases h : (f : Int) ≤ q ∧ (q : Int) < A; · { rw [if_pos h, if_pos (by omega)] }; · { rw [if_neg h, if_neg (by omega)] })
            clear hin
            refine (has_is A B B q _ HH.out).mono ?_
            rintro e w4 ⟨rfl, c4⟩
            replace ct := ct.trans c4
            clear t0 t1 t2 c4 ht
            go_wp2
            go_roundw
            case rel => exact ⟨k + 1, by omega, by rw [← HB.out, HI1.out], by go_num, ct⟩
            case measure => simp [intOf]; omega
        · obtain rfl : len = k := by omega
          have hps : ps f zs len = f + sm := by unfold ps; rw [List.take_of_length_le (by rw [HZL.out]; exact Nat.le_refl _), HSUM.out]
          rw [hps]
          clear hps
          by_cases h1 : (f : Int) ≤ q
          · by_cases h2 : (q : Int) < f + sm
            · rw [show inB f (f + sm) q = 1 by unfold inB; rw [if_pos ⟨h1, h2⟩]]
              have d1 : decide ((f : Int) ≤ q) = true := by simpa using h1
              go_wp2
              go_ret
              exact ⟨rfl, (c1.trans cr).below (fun _ _ h => h) (Nat.le_refl _)⟩
            · rw [show inB f (f + sm) q = 0 by unfold inB; rw [if_neg (by omega)]]
              go_wp2
              go_ret
              exact ⟨rfl, (c1.trans cr).below (fun _ _ h => h) (Nat.le_refl _)⟩
          · rw [show inB f (f + sm) q = 0 by unfold inB; rw [if_neg (by omega)]]
            go_wp2
            go_ret
            exact ⟨rfl, (c1.trans cr).below (fun _ _ h => h) (Nat.le_refl _)⟩
end Go.Proofs.Ytbnnoelioiafdaa.spaceApart

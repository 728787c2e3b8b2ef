/- What Move of package gleaningref01 does; and the calls of package mem in the same words. Conditions: as in the texts before. -/
import Derived.Test.YtaoppfmceijhfaaRef01
import Derived.BigRegion
import Derived.Deep.RegionHeld3
namespace Go.Proofs.Ytaoppfmceijhfaa
open Go.ChangeShapes Go.WideShapes Go.ChangeAt Go.RowKit
set_option linter.unusedVariables false

/-- The words when the first k are moved. -/
def mvTo (xs : List Int) (x y : Nat) : Nat → List Int
  | 0 => xs
  | k + 1 => (mvTo xs x y k).set (x + k) (xs.getD (y + k) 0)
theorem mvTo_length (xs : List Int) (x y k : Nat) : (mvTo xs x y k).length = xs.length := by
  induction k with
  | zero => rfl
  | succ k ih => simp [mvTo, ih]
theorem mvTo_splice (xs : List Int) (x y m : Nat) (hx : x + m ≤ xs.length) (hy : y + m ≤ xs.length) : mvTo xs x y m = splice xs x ((xs.drop y).take m) := by
  have key : ∀ k, k ≤ m → ∀ i : Nat, (mvTo xs x y k)[i]? = if x ≤ i ∧ i < x + k then xs[y + i - x]? else xs[i]? := by
    intro k
    induction k with
    | zero => intro _ i; simp only [mvTo]; rw [if_neg (by omega)]
    | succ k ih =>
      intro hk i
      simp only [mvTo, List.getElem?_set, ih (by omega), mvTo_length]
      by_cases e : x + k = i
      · subst e
        rw [if_pos rfl, if_pos (by omega), if_pos (by omega)]
        have : y + (x + k) - x = y + k := by omega
        rw [this, List.getD_eq_getElem?_getD, List.getElem?_eq_getElem (by omega)]
        rfl
      · rw [if_neg e]
        by_cases h1 : x ≤ i ∧ i < x + k
        · rw [if_pos h1, if_pos (by omega)]
        · rw [if_neg h1, if_neg (by omega)]
  apply List.ext_getElem?
  intro i
  rw [key m (Nat.le_refl _)]
  simp only [splice, List.getElem?_append, List.length_take, List.length_drop, List.getElem?_take, List.getElem?_drop]
  by_cases h1 : i < x
  · rw [if_neg (show ¬ (x ≤ i ∧ i < x + m) by omega), if_pos (show i < min x xs.length by omega), if_pos h1]
  · by_cases h2 : i < x + m
    · rw [if_pos (show x ≤ i ∧ i < x + m by omega), if_neg (show ¬ i < min x xs.length by omega), if_pos (by omega), if_pos (by omega)]
      congr 1; omega
    · rw [if_neg (show ¬ (x ≤ i ∧ i < x + m) by omega), if_neg (show ¬ i < min x xs.length by omega), if_neg (by omega)]
      congr 1; omega

set_option maxHeartbeats 400000 in
theorem rmove_ok (q f : Nat) (xs : List Int) (x y m : Nat) (w : World) (h : RAr w q f xs) (hn : xs.length ≤ 4096) (hx : x + m ≤ xs.length) (hy : y + m ≤ xs.length) :
    Calls Try.prog 16 #[ptr q, .int .i64 x, .int .i64 y, .int .i64 m] w fun e w' => e = .returned (.int .i64 0) ∧ RAr w' q f (mvTo xs x y m) ∧ Chg (· = f) w w' := by
  have hbx : exB xs.length x m = true := by simp [exB]; omega
  have hby : exB xs.length y m = true := by simp [exB]; omega
  have H := hide h
  have hc : (w.alloc (.cells #[] 3)).cell? ⟨q, 0, none⟩ = some (.slice (some ⟨f, 0, none⟩) xs.length xs.length) := (h.1.alloc _).cell 0
  have hfl := h.2.lt
  have hql := h.1.lt
  clear h
  obtain ⟨i0, hi0, hz0, hz1, hz2⟩ := info_parts Try.infoInt
  have hown0 := World.ownsRow_made (base := w.heap.size) (e := 3) (size := 1) w #[] 0 (Nat.le_refl _) (by simp [maxLen]) rfl
  have HOWN := hide hown0
  have HC1 := hide (show ∀ j u, (ints xs)[j]? = some u → (w.alloc (.cells #[] 3)).cell? ((⟨f, 0, none⟩ : Addr).add j) = some u from fun j u hj => by rw [addr_add, Nat.zero_add, (H.out.2.alloc _).cell]; exact hj)
  clear hown0
  go_enter Try.func16, Try.ntmps16
  go_wp2_with fail
  refine (there_any q f xs _ _ _ H.out hn (by omega) (by omega)).mono ?_
  rintro e w' ⟨rfl, rfl⟩
  go_wp2_with fail
  refine (there_any q f xs _ _ _ H.out hn (by omega) (by omega)).mono ?_
  rintro e w' ⟨rfl, rfl⟩
  go_wp2_with (at_builtin; refine wpList_append_own _ rfl _ _ 29 rfl w.heap.size 3 i0 (.int .i64 0) 1 8 Try.underlying29 hi0 hz0 hz1 hz2 rfl (by decide) _ _ _ rfl HOWN.out ⟨f, 0, none⟩ xs.length xs.length (ints xs) rfl ?c0 HC1.out (ints_one _) ?c3 ?c4 ?c5 ?_)
  case c0 => rw [ints_length, Nat.mul_one]
  case c3 => unfold maxLen; omega
  case c4 => omega
  case c5 => simp
  intro v' w1 hown1 hgrow _
  have c1 : Chg (fun _ => False) w w1 := ((Chg.refl _ w).alloc _).grown hgrow (fun k hk e => by simp [Value.ownBlock] at e; omega)
  have h1 := H.out.chg c1 id id
  have HO1 := hide hown1
  clear hgrow hc HC1 HOWN hown1
  go_wp2
  go_loopw [10] (fun i wr => ∃ k : Nat, k ≤ m ∧ i = .int .i64 k ∧ RAr wr q f (mvTo xs x y k) ∧ Chg (· = f) w1 wr) (fun i _ => m - (intOf i).toNat)
  case atStart => exact ⟨0, Nat.zero_le _, rfl, h1, Chg.refl _ _⟩
  case round =>
    obtain ⟨k, hkm, rfl, har, hch⟩ := hrel
    by_cases hlt : k < m
    · obtain ⟨g', cap, rfl, hge, hlt', hncap, _, hcgs⟩ := own_ints HO1.out (by omega)
      have hcg := hcgs (y + k) (by omega)
      clear hcgs
      have hcg' := hch.cell hcg (by show ¬ g' = f; omega)
      have hcf := har.2.cell (x + k)
      rw [ints_get _ _ (by rw [mvTo_length]; omega)] at hcf
      have hff := har.2.frozen (x + k)
      have hq := har.cell
      rw [mvTo_length] at hq
      obtain ⟨z, hz⟩ : ∃ z, z = xs.getD (y + k) 0 := ⟨_, rfl⟩
      rw [← hz] at hcg'
      have HZ := hide hz
      generalize (mvTo xs x y k).getD (x + k) 0 = z2 at *
      clear hcg hz
      have s1 : (↑x + ↑k : Int) < ↑xs.length := by omega
      have s2 : (↑y + ↑k : Int) < ↑xs.length := by omega
      have s3 : (0 : Int) ≤ ↑x + ↑k := by omega
      have s4 : (0 : Int) ≤ ↑y + ↑k := by omega
      have s5 : (↑x + ↑k : Int).toNat = x + k := by omega
      have s6 : (↑y + ↑k : Int).toNat = y + k := by omega
      have s7 : IntKind.i64.wrap (↑x + ↑k) = ↑x + ↑k := IntWalk.i64_in _ (by omega)
      have s8 : IntKind.i64.wrap (↑y + ↑k) = ↑y + ↑k := IntWalk.i64_in _ (by omega)
      go_wp2
      go_region
      clear s5 s6 s7 s8
      have har2 := har.stored (x + k) z
      have hch2 := hch.set1 (x + k) (.int .i64 z)
      go_wp2
      go_roundw
      case rel => exact ⟨k + 1, by omega, by go_num, by rw [HZ.out] at har2 ⊢; exact har2, by first | exact hch2 | exact hch2.drew⟩
      case measure => simp [intOf]; omega
    · obtain rfl : m = k := by omega
      go_wp2
      go_ret
      exact ⟨rfl, har, (c1.mono (fun _ _ h => h.elim)).trans hch⟩

theorem rmove_no (q f : Nat) (xs : List Int) (i j m : Int) (w : World) (h : RAr w q f xs) (hn : xs.length ≤ 4096) (h1 : i ≤ 9223372036854775807) (h3 : j ≤ 9223372036854775807) (h2 : m ≤ 9223372036854775807) (hx : (exB xs.length i m && exB xs.length j m) = false) :
    Calls Try.prog 16 #[ptr q, .int .i64 i, .int .i64 j, .int .i64 m] w fun e w' => e = .returned (.int .i64 2) ∧ w = w' := by
  have H := hide h
  clear h
  cases hy : exB xs.length i m with
  | false =>
    clear hx
    go_enter Try.func16, Try.ntmps16
    go_wp2_with fail
    refine (there_any q f xs _ _ _ H.out hn h1 h2).mono ?_
    rintro e w' ⟨rfl, rfl⟩
    go_wp2
    go_ret
    exact ⟨rfl, rfl⟩
  | true =>
    have hz : exB xs.length j m = false := by simpa [hy] using hx
    clear hx
    go_enter Try.func16, Try.ntmps16
    go_wp2_with fail
    refine (there_any q f xs _ _ _ H.out hn h1 h2).mono ?_
    rintro e w' ⟨rfl, rfl⟩
    go_wp2_with fail
    refine (there_any q f xs _ _ _ H.out hn h3 h2).mono ?_
    rintro e w' ⟨rfl, rfl⟩
    go_wp2
    go_ret
    exact ⟨rfl, rfl⟩

theorem exB_nat {n : Nat} {i m : Int} (h : exB n i m = true) : ∃ a M : Nat, i = a ∧ m = M ∧ a + M ≤ n := by
  simp [exB] at h
  obtain ⟨a, rfl⟩ := Int.eq_ofNat_of_zero_le h.1
  obtain ⟨M, rfl⟩ := Int.eq_ofNat_of_zero_le h.2.1
  exact ⟨a, M, rfl, rfl, by omega⟩

theorem rmove_any (q f : Nat) (xs : List Int) (i j m : Int) (w : World) (h : RAr w q f xs) (hn : xs.length ≤ 4096) (h1 : i ≤ 9223372036854775807) (h3 : j ≤ 9223372036854775807) (h2 : m ≤ 9223372036854775807) :
    Calls Try.prog 16 #[ptr q, .int .i64 i, .int .i64 j, .int .i64 m] w fun e w' => e = .returned (.int .i64 (er (exB xs.length i m && exB xs.length j m))) ∧ RAr w' q f (mvL xs i j m) ∧ Chg (· = f) w w' := by
  cases hx : (exB xs.length i m && exB xs.length j m) with
  | false => exact (rmove_no q f xs i j m w h hn h1 h3 h2 hx).mono fun e w' ⟨he, hw⟩ => ⟨he, by subst hw; simp [mvL, hx]; exact h, by subst hw; exact Chg.refl _ _⟩
  | true =>
    have hx' := hx
    rw [Bool.and_eq_true] at hx'
    obtain ⟨a, M, rfl, rfl, ha⟩ := exB_nat hx'.1
    obtain ⟨b, M', rfl, e, hb⟩ := exB_nat hx'.2
    obtain rfl : M = M' := by omega
    refine (rmove_ok q f xs a b M w h hn ha hb).mono fun e w' ⟨he, hr, hc⟩ => ⟨he, ?_, hc⟩
    rw [mvTo_splice _ _ _ _ ha hb] at hr
    simpa [mvL, hx] using hr

theorem store_any (p g : Nat) (xs : List Int) (i v : Int) (w : World) (h : Ar w p g xs) (hn : xs.length ≤ 4096) (h1 : i ≤ 9223372036854775807) :
    Calls Try.prog 13 #[ptr p, .int .i64 i, .int .i64 v] w fun e w' => e = .returned (.int .i64 (er (exB xs.length i 1))) ∧ Ar w' p g (stL xs i v) ∧ Chg (· = g) w w' := by
  cases hx : exB xs.length i 1 with
  | false => exact (store_no _ _ _ i v w h.sl hn h1 hx).mono fun e w' ⟨he, hw⟩ => ⟨he, by subst hw; simp [stL, hx]; exact h, by subst hw; exact Chg.refl _ _⟩
  | true =>
    obtain ⟨a, M, rfl, e1, ha⟩ := exB_nat hx
    refine (store_ok p g xs a v w h hn (by omega)).mono fun e w' ⟨he, hr, hc⟩ => ⟨he, ?_, hc⟩
    simpa [stL, hx] using hr

theorem fill_any (p g : Nat) (xs : List Int) (i m v : Int) (w : World) (h : Ar w p g xs) (hn : xs.length ≤ 4096) (h1 : i ≤ 9223372036854775807) (h2 : m ≤ 9223372036854775807) :
    Calls Try.prog 17 #[ptr p, .int .i64 i, .int .i64 m, .int .i64 v] w fun e w' => e = .returned (.int .i64 (er (exB xs.length i m))) ∧ Ar w' p g (fiL xs i m v) ∧ Chg (· = g) w w' := by
  cases hx : exB xs.length i m with
  | false => exact (fill_no _ _ _ i m v w h.sl hn h1 h2 hx).mono fun e w' ⟨he, hw⟩ => ⟨he, by subst hw; simp [fiL, hx]; exact h, by subst hw; exact Chg.refl _ _⟩
  | true =>
    obtain ⟨a, M, rfl, rfl, ha⟩ := exB_nat hx
    refine (fill_ok p g xs a M v w h hn (by omega)).mono fun e w' ⟨he, hr, hc⟩ => ⟨he, ?_, hc⟩
    simpa [fiL, hx] using hr

theorem move_any (p g : Nat) (xs : List Int) (i j m : Int) (w : World) (h : Ar w p g xs) (hn : xs.length ≤ 4096) (h1 : i ≤ 9223372036854775807) (h3 : j ≤ 9223372036854775807) (h2 : m ≤ 9223372036854775807) :
    Calls Try.prog 15 #[ptr p, .int .i64 i, .int .i64 j, .int .i64 m] w fun e w' => e = .returned (.int .i64 (er (exB xs.length i m && exB xs.length j m))) ∧ Ar w' p g (mvL xs i j m) ∧ Chg (· = g) w w' := by
  cases hx : (exB xs.length i m && exB xs.length j m) with
  | false => exact (move_no _ _ _ i j m w h.sl hn h1 h3 h2 hx).mono fun e w' ⟨he, hw⟩ => ⟨he, by subst hw; simp [mvL, hx]; exact h, by subst hw; exact Chg.refl _ _⟩
  | true =>
    have hx' := hx
    rw [Bool.and_eq_true] at hx'
    obtain ⟨a, M, rfl, rfl, ha⟩ := exB_nat hx'.1
    obtain ⟨b, M', rfl, e, hb⟩ := exB_nat hx'.2
    obtain rfl : M = M' := by omega
    refine (move_ok p g xs a b M w h hn ha hb).mono fun e w' ⟨he, hr, hc⟩ => ⟨he, ?_, hc⟩
    simpa [mvL, hx] using hr

theorem stL_length (xs : List Int) (i v : Int) : (stL xs i v).length = xs.length := by unfold stL; split <;> simp
theorem fiL_length (xs : List Int) (i m v : Int) : (fiL xs i m v).length = xs.length := by unfold fiL; split <;> simp [fillTo_length]
theorem mvL_length (xs : List Int) (i j m : Int) : (mvL xs i j m).length = xs.length := by
  unfold mvL
  split
  · rename_i h
    rw [Bool.and_eq_true] at h
    obtain ⟨a, M, rfl, rfl, ha⟩ := exB_nat h.1
    obtain ⟨b, M', rfl, e, hb⟩ := exB_nat h.2
    obtain rfl : M = M' := by omega
    rw [length_splice _ _ _ (by simp; omega)]
  · rfl
end Go.Proofs.Ytaoppfmceijhfaa

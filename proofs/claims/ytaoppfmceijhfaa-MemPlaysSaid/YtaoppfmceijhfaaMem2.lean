/- What Move of package mem does to an arena whose words are known, and that the statements' own first look is true. Conditions: as in the text before. -/
import Derived.Test.YtaoppfmceijhfaaMem
namespace Go.Proofs.Ytaoppfmceijhfaa
open Go.ChangeShapes Go.WideShapes Go.ChangeAt Go.RowKit
set_option linter.unusedVariables false

theorem move_no1 (pv : Value) (A : Option Addr) (n : Nat) (i j m : Int) (w : World) (h : Sl w pv A n) (hn : n ≤ 4096) (h1 : i ≤ 9223372036854775807) (h2 : m ≤ 9223372036854775807) (hx : exB n i m = false) :
    Calls Try.prog 15 #[pv, .int .i64 i, .int .i64 j, .int .i64 m] w fun e w' => e = .returned (.int .i64 2) ∧ w = w' := by
  have H := hide h
  clear h
  go_enter Try.func15, Try.ntmps15
  go_wp2_with fail
  refine (exists_any _ A n _ _ _ H.out hn h1 h2).mono ?_
  rintro e w' ⟨rfl, rfl⟩
  go_wp2
  go_ret
  exact ⟨rfl, rfl⟩

theorem move_no2 (pv : Value) (A : Option Addr) (n : Nat) (i j m : Int) (w : World) (h : Sl w pv A n) (hn : n ≤ 4096) (h1 : i ≤ 9223372036854775807) (h3 : j ≤ 9223372036854775807) (h2 : m ≤ 9223372036854775807) (hy : exB n i m = true) (hx : exB n j m = false) :
    Calls Try.prog 15 #[pv, .int .i64 i, .int .i64 j, .int .i64 m] w fun e w' => e = .returned (.int .i64 2) ∧ w = w' := by
  have H := hide h
  clear h
  go_enter Try.func15, Try.ntmps15
  go_wp2_with fail
  refine (exists_any _ A n _ _ _ H.out hn h1 h2).mono ?_
  rintro e w' ⟨rfl, rfl⟩
  go_wp2_with fail
  refine (exists_any _ A n _ _ _ H.out hn h3 h2).mono ?_
  rintro e w' ⟨rfl, rfl⟩
  go_wp2
  go_ret
  exact ⟨rfl, rfl⟩

theorem move_no (pv : Value) (A : Option Addr) (n : Nat) (i j m : Int) (w : World) (h : Sl w pv A n) (hn : n ≤ 4096) (h1 : i ≤ 9223372036854775807) (h3 : j ≤ 9223372036854775807) (h2 : m ≤ 9223372036854775807) (hx : (exB n i m && exB n j m) = false) :
    Calls Try.prog 15 #[pv, .int .i64 i, .int .i64 j, .int .i64 m] w fun e w' => e = .returned (.int .i64 2) ∧ w = w' := by
  cases hy : exB n i m with
  | false => exact move_no1 pv A n i j m w h hn h1 h2 hy
  | true => exact move_no2 pv A n i j m w h hn h1 h3 h2 hy (by simpa [hy] using hx)

set_option maxHeartbeats 400000 in
theorem move_zero (p g : Nat) (xs : List Int) (x y : Nat) (w : World) (h : Ar w p g xs) (hn : xs.length ≤ 4096) (hx : x ≤ xs.length) (hy : y ≤ xs.length) :
    Calls Try.prog 15 #[ptr p, .int .i64 x, .int .i64 y, .int .i64 0] w fun e w' => e = .returned (.int .i64 0) ∧ Ar w' p g xs ∧ Chg (· = g) w w' := by
  have hbx : exB xs.length x 0 = true := by simp [exB]; omega
  have hby : exB xs.length y 0 = true := by simp [exB]; omega
  have hcp := copy_none
  have H := hide h
  clear h
  obtain ⟨n, hnn⟩ : ∃ n, n = xs.length := ⟨_, rfl⟩
  rw [← hnn] at hx hn hy hbx hby
  have HN := hide hnn
  clear hnn
  go_enter Try.func15, Try.ntmps15
  go_wp2_with fail
  refine (exists_any _ _ n _ _ _ (by rw [HN.out]; exact H.out.sl) hn (by omega) (by omega)).mono ?_
  rintro e w' ⟨rfl, rfl⟩
  go_wp2_with fail
  refine (exists_any _ _ n _ _ _ (by rw [HN.out]; exact H.out.sl) hn (by omega) (by omega)).mono ?_
  rintro e w' ⟨rfl, rfl⟩
  go_wp2_with fail
  refine (all_any _ (some ⟨g, 0, none⟩) n _ (by rw [HN.out]; exact H.out.sl)).mono ?_
  rintro e w' ⟨rfl, rfl⟩
  go_wp2
  go_region
  all_goals (try go_wp2)
  all_goals (go_ret; exact ⟨rfl, H.out, (Chg.refl _ _).drew⟩)

set_option maxHeartbeats 400000 in
theorem move_ok (p g : Nat) (xs : List Int) (x y m : Nat) (w : World) (h : Ar w p g xs) (hn : xs.length ≤ 4096) (hx : x + m ≤ xs.length) (hy : y + m ≤ xs.length) :
    Calls Try.prog 15 #[ptr p, .int .i64 x, .int .i64 y, .int .i64 m] w fun e w' => e = .returned (.int .i64 0) ∧ Ar w' p g (splice xs x ((xs.drop y).take m)) ∧ Chg (· = g) w w' := by
  rcases Nat.eq_zero_or_pos m with rfl | hm0
  · have := move_zero p g xs x y w h hn (by omega) (by omega)
    simpa [splice] using this
  have hbx : exB xs.length x m = true := by simp [exB]; omega
  have hby : exB xs.length y m = true := by simp [exB]; omega
  have hxl : ¬ xs.length = x := by omega
  have hyl : ¬ xs.length = y := by omega
  have hl := hide (length_cut xs y m hy)
  have H := hide h
  clear h
  go_enter Try.func15, Try.ntmps15
  go_wp2_with fail
  refine (exists_any _ _ xs.length _ _ _ H.out.sl hn (by omega) (by omega)).mono ?_
  rintro e w' ⟨rfl, rfl⟩
  go_wp2_with fail
  refine (exists_any _ _ xs.length _ _ _ H.out.sl hn (by omega) (by omega)).mono ?_
  rintro e w' ⟨rfl, rfl⟩
  go_wp2_with fail
  refine (all_any _ (some ⟨g, 0, none⟩) xs.length _ H.out.sl).mono ?_
  rintro e w' ⟨rfl, rfl⟩
  go_wp2
  obtain ⟨w2, hrun, hb2, hc2⟩ := run_copyB (P := Try.prog) (w := w.drew) 29 29 3 3 Try.underlying29 Try.sizeInt (some ⟨g, x, none⟩) (some ⟨g, y, none⟩) m (xs.length - x) m (xs.length - y) g x (ints xs) 3 H.out.2.drew (ints ((xs.drop y).take m)) (by rw [ints_length, hl.out]; exact (Nat.min_self m).symm)
    (fun _ => ⟨rfl, _, rfl, fun j v hj => Blk.src H.out.2.drew y m j v hj⟩) (by rw [ints_length, ints_length, hl.out]; omega) (ints_one _)
  have e1 : (↑x + ↑m : Int) ≤ ↑xs.length := by omega
  have e2 : (↑y + ↑m : Int) ≤ ↑xs.length := by omega
  have e3 : (0 : Int) ≤ ↑x + ↑m := by omega
  have e4 : (0 : Int) ≤ ↑y + ↑m := by omega
  have e5 : (↑x + ↑m : Int).toNat = x + m := by omega
  have e6 : (↑y + ↑m : Int).toNat = y + m := by omega
  have e7 : IntKind.i64.wrap (↑x + ↑m) = ↑x + ↑m := IntWalk.i64_in _ (by omega)
  have e8 : IntKind.i64.wrap (↑y + ↑m) = ↑y + ↑m := IntWalk.i64_in _ (by omega)
  go_region
  clear hrun e5 e6 e7 e8
  go_wp2
  go_ret
  refine ⟨rfl, ⟨?_, ?_⟩, (Chg.refl _ _).drew.trans hc2⟩
  · rw [length_splice _ _ _ (by rw [hl.out]; omega)]
    exact H.out.1.drew.chg hc2 H.out.ne
  · rw [← ints_splice]; exact hb2

set_option maxHeartbeats 400000 in
theorem awake_any (w : World) : Calls Try.prog 9 #[] w fun e w' => e = .returned (.bool true) ∧ Chg (fun _ => False) w w' := by
  go_enter Try.func9, Try.ntmps9
  go_wp2_with fail
  refine (new_any 4 _).mono ?_
  rintro e w1 ⟨rfl, h1, c1⟩
  have h1' : Ar w1 (w.heap.size + 1) w.heap.size [0, 0, 0, 0] := h1
  have hlt := Nat.le_refl w.heap.size
  generalize w.heap.size + 1 = p at *
  obtain ⟨g, hg⟩ : ∃ g, g = w.heap.size := ⟨_, rfl⟩
  rw [← hg] at h1'
  have hgl : w.heap.size ≤ g := by omega
  clear hg h1
  go_wp2_with fail
  refine (len_any _ _ 4 _ h1'.sl).mono ?_
  rintro e w' ⟨rfl, rfl⟩
  go_wp2_with fail
  refine (store_ok p g _ 0 7 _ h1' (by decide) (by decide)).mono ?_
  rintro e w2 ⟨rfl, h2, c2⟩
  have h2' : Ar w2 p g [7, 0, 0, 0] := h2
  clear h2
  go_wp2_with fail
  refine (load_ok p g _ 0 _ h2' (by decide) (by decide)).mono ?_
  rintro e w' ⟨rfl, rfl⟩
  go_wp2_with fail
  refine (store_no _ _ 4 4 1 _ h2'.sl (by decide) (by decide) (by decide)).mono ?_
  rintro e w' ⟨rfl, rfl⟩
  go_wp2
  go_ret
  exact ⟨rfl, c1.step c2 (fun i hi e => by omega)⟩
end Go.Proofs.Ytaoppfmceijhfaa

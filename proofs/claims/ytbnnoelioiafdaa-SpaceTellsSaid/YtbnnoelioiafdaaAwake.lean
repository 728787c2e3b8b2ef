/- That 'awake' of the laws of layer 2 answers true, and short forms of the contracts. Conditions: none. -/
import Derived.Test.YtbnnoelioiafdaaTake
namespace Go.Proofs.Ytbnnoelioiafdaa
open Go.ChangeShapes Go.WideShapes Go.ChangeAt Go.RowKit
set_option linter.unusedVariables false

/-- A block that holds a space. -/
abbrev Sp (w : World) (b : Nat) (F T E : Int) : Prop := Blk w b 25 [.int .i64 F, .int .i64 T, .int .i64 E]

theorem new_ok (f n : Int) (w : World) (h1 : 0 ≤ f) (h2 : 0 ≤ n) (h3 : f + n ≤ 4096) :
    Calls Try.prog 13 #[.int .i64 f, .int .i64 n] w fun e w' => e = .returned (.tuple #[spV f f (f + n), .int .i64 0]) ∧ Grow w w' :=
  (new_any f n w (by omega) (by omega)).mono fun _ _ ⟨he, hg⟩ => ⟨by
    have e : nwB f n = true := by simp [nwB]; omega
    rw [he]; simp [nwF, nwE, nwX, e], hg⟩
theorem new_no (f n : Int) (w : World) (h0 : f ≤ 9223372036854775807) (h1 : n ≤ 9223372036854775807) (h : nwB f n = false) :
    Calls Try.prog 13 #[.int .i64 f, .int .i64 n] w fun e w' => e = .returned (.tuple #[spV 0 0 0, .int .i64 1]) ∧ Grow w w' :=
  (new_any f n w h0 h1).mono fun _ _ ⟨he, hg⟩ => ⟨by rw [he]; simp [nwF, nwE, nwX, h], hg⟩
theorem take_ok (F T E n : Int) (w : World) (h : riB F T E = true) (h1 : 1 ≤ n) (h2 : n ≤ E - T) :
    Calls Try.prog 11 #[spV F T E, .int .i64 n] w fun e w' => e = .returned (.tuple #[.int .i64 T, spV F (T + n) E, .int .i64 0]) ∧ Grow w w' :=
  (take_any F T E n w (by have := ri_true h; omega)).mono fun _ _ ⟨he, hg⟩ => ⟨by rw [he, tk_ok h1 h h2]; simp [tkI], hg⟩
theorem take_full (F T E n : Int) (w : World) (h0 : n ≤ 9223372036854775807) (h : riB F T E = true) (h1 : 1 ≤ n) (h2 : E - T < n) :
    Calls Try.prog 11 #[spV F T E, .int .i64 n] w fun e w' => e = .returned (.tuple #[.int .i64 0, spV 0 0 0, .int .i64 3]) ∧ Grow w w' :=
  (take_any F T E n w h0).mono fun _ _ ⟨he, hg⟩ => ⟨by rw [he, tk_full h1 h h2]; simp [tkI], hg⟩
theorem take_no (F T E n : Int) (w : World) (h0 : n ≤ 9223372036854775807) (h : n < 1 ∨ riB F T E = false) :
    Calls Try.prog 11 #[spV F T E, .int .i64 n] w fun e w' => e = .returned (.tuple #[.int .i64 0, spV 0 0 0, .int .i64 1]) ∧ Grow w w' :=
  (take_any F T E n w h0).mono fun _ _ ⟨he, hg⟩ => ⟨by rw [he, tk_no h]; simp [tkI], hg⟩
theorem has_is (F T E a : Int) (w : World) {b : Bool} (h : hasB F T E a = b) :
    Calls Try.prog 16 #[spV F T E, .int .i64 a] w fun e w' => e = .returned (.bool b) ∧ Grow w w' :=
  (has_any F T E a w).mono fun _ _ ⟨he, hg⟩ => ⟨by rw [he, h], hg⟩
theorem right_is (F T E : Int) (w : World) {b : Bool} (h : riB F T E = b) :
    Calls Try.prog 15 #[spV F T E] w fun e w' => e = .returned (.bool b) ∧ Grow w w' :=
  (right_any F T E w).mono fun _ _ ⟨he, hg⟩ => ⟨by rw [he, h], hg⟩
theorem used_ok (F T E : Int) (w : World) (h : riB F T E = true) :
    Calls Try.prog 18 #[spV F T E] w fun e w' => e = .returned (.int .i64 (T - F)) ∧ Grow w w' :=
  (used_any F T E w).mono fun _ _ ⟨he, hg⟩ => ⟨by rw [he, h]; rfl, hg⟩
theorem used_no (F T E : Int) (w : World) (h : riB F T E = false) :
    Calls Try.prog 18 #[spV F T E] w fun e w' => e = .returned (.int .i64 0) ∧ Grow w w' :=
  (used_any F T E w).mono fun _ _ ⟨he, hg⟩ => ⟨by rw [he, h]; rfl, hg⟩
theorem room_no (F T E : Int) (w : World) (h : riB F T E = false) :
    Calls Try.prog 19 #[spV F T E] w fun e w' => e = .returned (.int .i64 0) ∧ Grow w w' :=
  (room_any F T E w).mono fun _ _ ⟨he, hg⟩ => ⟨by rw [he, h]; rfl, hg⟩
theorem empty_ok (F T E : Int) (w : World) (h : riB F T E = true) :
    Calls Try.prog 20 #[spV F T E] w fun e w' => e = .returned (spV F F E) ∧ Grow w w' :=
  (empty_any F T E w).mono fun _ _ ⟨he, hg⟩ => ⟨by rw [he, h]; rfl, hg⟩
theorem empty_no (F T E : Int) (w : World) (h : riB F T E = false) :
    Calls Try.prog 20 #[spV F T E] w fun e w' => e = .returned (spV 0 0 0) ∧ Grow w w' :=
  (empty_any F T E w).mono fun _ _ ⟨he, hg⟩ => ⟨by rw [he, h]; rfl, hg⟩

theorem used_is (F T E : Int) (w : World) (h : riB F T E = true) {v : Int} (hv : T - F = v) :
    Calls Try.prog 18 #[spV F T E] w fun e w' => e = .returned (.int .i64 v) ∧ Grow w w' :=
  (used_ok F T E w h).mono fun _ _ ⟨he, hg⟩ => ⟨by rw [he, hv], hg⟩
theorem room_is (F T E : Int) (w : World) (h : riB F T E = true) {v : Int} (hv : E - T = v) :
    Calls Try.prog 19 #[spV F T E] w fun e w' => e = .returned (.int .i64 v) ∧ Grow w w' :=
  (room_ok F T E w h).mono fun _ _ ⟨he, hg⟩ => ⟨by rw [he, hv], hg⟩

theorem Blk.cell3 {w : World} {b : Nat} {t : TypeId} {x y z : Value} (h : Blk w b t [x, y, z]) : w.cell? ⟨b, 0, none⟩ = some x ∧ w.cell? ⟨b, 1, none⟩ = some y ∧ w.cell? ⟨b, 2, none⟩ = some z :=
  ⟨h.cell 0, h.cell 1, h.cell 2⟩

set_option maxHeartbeats 1000000 in
theorem awake_any (w : World) : Calls Try.prog 9 #[] w fun e w' => e = .returned (.bool true) ∧ Grow w w' := by
  go_enter Try.func9, Try.ntmps9
  go_wp2_with fail
  refine (new_ok 10 5 _ (by omega) (by omega) (by omega)).mono ?_
  rintro e w1 ⟨rfl, c1⟩
  go_wp2_with fail
  refine (take_ok 10 10 15 3 _ (by decide) (by omega) (by omega)).mono ?_
  rintro e w2 ⟨rfl, c2⟩
  have g2 := (c1.alloc _).trans c2
  have ht := Blk.new w2 25 [.int .i64 10, .int .i64 13, .int .i64 15]
  replace g2 := g2.alloc (.cells [.int .i64 10, .int .i64 13, .int .i64 15].toArray 25)
  clear c1 c2
  go_wp2_with fail
  generalize w2.alloc (.cells #[.int .i64 10, .int .i64 13, .int .i64 15] 25) = wt at *
  generalize w2.heap.size = t at *
  refine (room_ok 10 13 15 _ (by decide)).mono ?_
  rintro e w3 ⟨rfl, c3⟩
  replace ht := ht.chg c3 id
  replace g2 := g2.trans c3
  clear c3
  obtain ⟨t0, t1, t2⟩ := ht.cell3
  go_wp2_with fail
  refine (has_is 10 13 15 12 _ (b := true) (by decide)).mono ?_
  rintro e w4 ⟨rfl, c4⟩
  replace ht := ht.chg c4 id
  replace g2 := g2.trans c4
  clear c4 t0 t1 t2
  obtain ⟨t0, t1, t2⟩ := ht.cell3
  go_wp2_with fail
  refine (has_is 10 13 15 13 _ (b := false) (by decide)).mono ?_
  rintro e w5 ⟨rfl, c5⟩
  go_wp2
  go_ret
  exact ⟨rfl, g2.trans c5⟩
end Go.Proofs.Ytbnnoelioiafdaa

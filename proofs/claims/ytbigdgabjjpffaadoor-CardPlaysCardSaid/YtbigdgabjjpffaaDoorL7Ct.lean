/- Tables of cards: what a table is, as numbers; the calls of package card that only look at the struct. Conditions: addresses are at most 4096. -/
import Derived.Test.YtbigdgabjjpffaaDoorL3Is
import Derived.Test.YtbigdgabjjpffaaDoorOwn
import Derived.Test.YtbigdgabjjpffaaDoorInts
import Derived.Deep.RegionHeld3
namespace Go.Proofs.YtbigdgabjjpffaaDoor.L7
open Go.ChangeShapes Go.WideShapes Go.ChangeAt Go.RowKit
open Go.Proofs.YtbigdgabjjpffaaDoor.L3
set_option linter.unusedVariables false

/-- The value of the cards. -/
abbrev cdV (mp : Option Addr) (f t : Nat) : Value := .agg #[.pointer mp, .int .i64 f, .int .i64 t]
/-- Is it an address; its card; the card's number, as the program says it; how many cards there are. -/
def inn (f t : Nat) (a : Int) : Bool := decide ((f : Int) ≤ a ∧ a < (t : Int))
def cd (f : Nat) (a : Int) : Nat := (a - f).toNat / 16
def num (f t : Nat) (a : Int) : Int := if inn f t a then (cd f a : Nat) else -1
def nc (f t : Nat) : Nat := (t - f + 15) / 16
theorem nc_lt {f t : Nat} {a : Int} (h : inn f t a = true) : cd f a < nc f t := by
  simp only [inn, decide_eq_true_eq] at h
  unfold cd nc
  omega
theorem ex_num (f t : Nat) (a : Int) : exB (nc f t) (num f t a) = inn f t a := by
  unfold num
  cases h : inn f t a with
  | true => rw [if_pos rfl]; exact exB_in (nc_lt h)
  | false => exact exB_out (.inl (by simp))
theorem num_in {f t : Nat} {a : Int} (h : inn f t a = true) : num f t a = (cd f a : Nat) := by unfold num; rw [h, if_pos rfl]
theorem num_out {f t : Nat} {a : Int} (h : inn f t a = false) : num f t a = -1 := by unfold num; rw [h]; rfl

/-- What a pointer to a table holds: its map, its bounds; nil holds none. -/
def Cv (w : World) (pv : Value) (mp : Option Addr) (f t : Nat) : Prop := (pv = .pointer none ∧ mp = none ∧ f = 0 ∧ t = 0) ∨ ∃ b, pv = ptr b ∧ Blk w b 51 [.pointer mp, .int .i64 f, .int .i64 t]
theorem Cv.grow {w w' : World} {pv : Value} {mp : Option Addr} {f t : Nat} (h : Cv w pv mp f t) (c : Grow w w') : Cv w' pv mp f t :=
  h.imp id fun ⟨b, e1, hb⟩ => ⟨b, e1, hb.chg c id⟩

section
variable (mp : Option Addr) (f t : Nat) (w : World)
theorem number_any (a : Int) (ht : t ≤ 4096) : Calls Tryd.prog 25 #[cdV mp f t, .int .i64 a] w fun e w' => e = .returned (.int .i64 (num f t a)) ∧ Grow w w' := by
  cases h : inn f t a with
  | false =>
    rw [num_out h]
    simp only [inn, decide_eq_false_iff_not] at h
    by_cases h1 : a < (f : Int)
    · clear h
      go_enter Tryd.func25, Tryd.ntmps25
      go_wp2
      go_ret
      exact ⟨rfl, Grow.box _ _⟩
    · have h2 : decide (a < (f : Int)) = false := by simpa using h1
      have h3 : decide (a ≥ (t : Int)) = true := by simp; omega
      clear h h1
      go_enter Tryd.func25, Tryd.ntmps25
      go_wp2
      go_ret
      exact ⟨rfl, Grow.box _ _⟩
  | true =>
    rw [num_in h]
    simp only [inn, decide_eq_true_eq] at h
    have h2 : decide (a < (f : Int)) = false := by simp; omega
    have h3 : decide (a ≥ (t : Int)) = false := by simp; omega
    obtain ⟨d, hd⟩ : ∃ d : Nat, (a - f).toNat = d := ⟨_, rfl⟩
    have h4 : IntKind.i64.wrap (a - (f : Int)) = (d : Int) := by rw [wrap_i64_id _ (by omega)]; omega
    obtain ⟨c, hc⟩ : ∃ c : Nat, cd f a = c := ⟨_, rfl⟩
    have h5 : IntKind.i64.wrap ((d : Int) / 16) = (c : Int) := by rw [wrap_i64_id _ (by omega), ← hc]; unfold cd; rw [hd]; omega
    rw [hc]
    clear h hd hc
    go_enter Tryd.func25, Tryd.ntmps25
    go_wp2
    go_ret
    exact ⟨rfl, Grow.box _ _⟩

/-- The first address of a card. -/
theorem first_any (c x : Nat) (hx : x = f + 16 * c) (hb : x ≤ 2000000) : Calls Tryd.prog 30 #[cdV mp f t, .int .i64 c] w fun e w' => e = .returned (.int .i64 x) ∧ Grow w w' := by
  obtain ⟨y, hy⟩ : ∃ y, y = 16 * c := ⟨_, rfl⟩
  have h1 : IntKind.i64.wrap ((c : Int) * 16) = (y : Int) := by rw [wrap_i64_id _ (by omega)]; omega
  have h2 : IntKind.i64.wrap ((f : Int) + (y : Int)) = (x : Int) := by rw [wrap_i64_id _ (by omega)]; omega
  clear hx hb hy
  go_enter Tryd.func30, Tryd.ntmps30
  go_wp2
  go_ret
  exact ⟨rfl, Grow.box _ _⟩

theorem all_any (pv : Value) (h : Cv w pv mp f t) : Calls Tryd.prog 23 #[pv] w fun e w' => e = .returned (cdV mp f t) ∧ Grow w w' := by
  rcases h with ⟨rfl, rfl, rfl, rfl⟩ | ⟨b, rfl, hb⟩
  · go_enter Tryd.func23, Tryd.ntmps23
    go_wp2
    refine bodyPost_ret (v := cdV none 0 0) (by simp [results, Tryd.results23, go_sem]) rfl ?_
    exact ⟨rfl, Grow.box _ _⟩
  · replace hb := hb.alloc (.cells [.pointer none, .int .i64 0, .int .i64 0].toArray 49)
    have x0 := hb.cell 0
    have x1 := hb.cell 1
    have x2 := hb.cell 2
    simp only [List.getElem?_cons_zero, List.getElem?_cons_succ] at x0 x1 x2
    clear hb
    go_enter Tryd.func23, Tryd.ntmps23
    go_wp2
    refine bodyPost_ret (v := cdV mp f t) (by simp [results, Tryd.results23, go_sem]) rfl ?_
    exact ⟨rfl, Grow.box _ _⟩

theorem clamp_any (v : Int) (n : Nat) (hn : clamp v = n) : Calls Tryd.prog 21 #[.int .i64 v] w fun e w' => e = .returned (.int .i64 n) ∧ w = w' := by
  obtain ⟨m, hm⟩ : ∃ m : Nat, max v 0 = m := ⟨(max v 0).toNat, by omega⟩
  have hmx : ∀ ts t W, (Builtin.max_ ts t #[.int .i64 v, .int .i64 0]).run Tryd.prog W = .ok (.int .i64 m) W := fun ts t W => by
    rw [run_max_int2]; congr 2; split <;> omega
  have hmn : ∀ ts t W, (Builtin.min_ ts t #[.int .i64 m, .int .i64 4096]).run Tryd.prog W = .ok (.int .i64 n) W := fun ts t W => by
    rw [run_min_int2]; congr 2; unfold clamp at hn; split <;> omega
  clear hn hm
  go_enter Tryd.func21, Tryd.ntmps21
  go_wp2
  go_ret
  exact ⟨rfl, rfl⟩
end
end Go.Proofs.YtbigdgabjjpffaaDoor.L7

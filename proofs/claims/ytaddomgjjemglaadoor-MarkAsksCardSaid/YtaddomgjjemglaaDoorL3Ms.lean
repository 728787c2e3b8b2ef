/- The calls of package bits in the words of the set of places: a map of n places of which S are set; that 'awake' of the laws answers true; the table of TrailingZeros64 out of the row's condition. Conditions: as in the texts before. -/
import Derived.Test.YtaddomgjjemglaaDoorL3Write
import Derived.Test.YtaddomgjjemglaaDoorL3Next
import Derived.Lib.LaidTab
import Derived.LaidMore
namespace Go.Proofs.YtaddomgjjemglaaDoor.L3
open Go.ChangeShapes Go.WideShapes Go.ChangeAt Go.RowKit
set_option linter.unusedVariables false

/-- The map in block p (its words in block g) has n places, of which S are set. -/
def Ms (w : World) (p g n : Nat) (S : Nat → Bool) : Prop := ∃ ws, Mp w p g n ws ∧ hs ws = S
theorem Ms.chg {C : Nat → Prop} {w w' : World} {p g n : Nat} {S : Nat → Bool} (h : Ms w p g n S) (k : Chg C w w') (hp : ¬ C p) (hg : ¬ C g) : Ms w' p g n S := by
  obtain ⟨ws, h1, h2⟩ := h
  exact ⟨ws, h1.chg k hp hg, h2⟩
theorem Ms.grow {w w' : World} {p g n : Nat} {S : Nat → Bool} (h : Ms w p g n S) (k : Grow w w') : Ms w' p g n S := h.chg k id id
theorem Ms.most {w : World} {p g n : Nat} {S : Nat → Bool} (h : Ms w p g n S) : n ≤ 4096 := by obtain ⟨ws, h1, h2⟩ := h; exact h1.2.2.most
theorem Ms.tail {w : World} {p g n : Nat} {S : Nat → Bool} (h : Ms w p g n S) (i : Nat) (hi : S i = true) : i < n := by obtain ⟨ws, h1, rfl⟩ := h; exact h1.2.2.tail i hi
theorem Ms.plt {w : World} {p g n : Nat} {S : Nat → Bool} (h : Ms w p g n S) : p < w.heap.size := by obtain ⟨ws, h1, rfl⟩ := h; exact h1.1.lt
theorem Ms.glt {w : World} {p g n : Nat} {S : Nat → Bool} (h : Ms w p g n S) : g < w.heap.size := by obtain ⟨ws, h1, rfl⟩ := h; exact h1.2.1.lt
theorem Ms.at_ {w : World} {p g n : Nat} {S T : Nat → Bool} (h : Ms w p g n S) (e : T = S) : Ms w p g n T := e ▸ h

/-- A place set, or cleared, if it is there. -/
def setI (S : Nat → Bool) (n : Nat) (i : Int) (b : Bool) : Nat → Bool := if exB n i then upd S i.toNat b else S
/-- Is a place there, and set? -/
def hasI (S : Nat → Bool) (n : Nat) (i : Int) : Bool := exB n i && S i.toNat
theorem upd_same {S : Nat → Bool} {i : Nat} {b : Bool} (h : S i = b) : upd S i b = S := by
  funext j
  unfold upd
  split
  · rename_i e; rw [e, h]
  · rfl

section
variable {w : World} {p g n : Nat} {S : Nat → Bool}
theorem ms_len (h : Ms w p g n S) : Calls Tryd.prog 17 #[ptr p] w fun e w' => e = .returned (.int .i64 n) ∧ w = w' := by
  obtain ⟨ws, h1, rfl⟩ := h
  exact len_any _ _ n ws w h1.mv
theorem ms_has (i : Int) (h : Ms w p g n S) : Calls Tryd.prog 18 #[ptr p, .int .i64 i] w fun e w' => e = .returned (.bool (hasI S n i)) ∧ Grow w w' := by
  obtain ⟨ws, h1, rfl⟩ := h
  exact has_any _ _ n ws w i h1.mv
theorem ms_next (i : Int) (h : Ms w p g n S) (ht : Tab w) : Calls Tryd.prog 37 #[ptr p, .int .i64 i] w fun e w' => e = .returned (.int .i64 (nx S n i)) ∧ Grow w w' := by
  obtain ⟨ws, h1, rfl⟩ := h
  exact next_any _ _ n ws w i h1.mv ht
theorem ms_count (h : Ms w p g n S) : Calls Tryd.prog 19 #[ptr p] w fun e w' => e = .returned (.int .i64 (cnt S n)) ∧ Grow w w' := by
  obtain ⟨ws, h1, rfl⟩ := h
  exact count_any _ _ n ws w h1.mv
theorem ms_set (i : Int) (h : Ms w p g n S) : Calls Tryd.prog 36 #[ptr p, .int .i64 i] w fun e w' => e = .returned (.bool (exB n i && !S i.toNat)) ∧ Ms w' p g n (setI S n i true) ∧ Chg (· = g) w w' := by
  obtain ⟨ws, h1, rfl⟩ := h
  unfold setI
  cases hx : exB n i with
  | false => exact (set_no w _ _ n ws i h1.mv hx).mono fun e w' ⟨he, hw⟩ => by subst hw; exact ⟨he, ⟨ws, h1, rfl⟩, Chg.refl _ _⟩
  | true =>
    obtain ⟨k, rfl, hk⟩ := exB_nat hx
    simp only [Int.toNat_natCast, Bool.true_and, if_true]
    cases hh : hs ws k with
    | true =>
      refine (set_had w _ _ n ws k h1.mv hk hh).mono fun e w' ⟨he, hw⟩ => ⟨he, ⟨ws, h1.chg hw id id, (upd_same hh).symm⟩, hw.mono fun _ _ h => h.elim⟩
    | false => exact set_new w p g n ws k h1 hk hh
theorem ms_new (v : Int) (w : World) : Calls Tryd.prog 27 #[.int .i64 v] w fun e w' => e = .returned (ptr (w.heap.size + 1)) ∧ Ms w' (w.heap.size + 1) w.heap.size (clamp v) (fun _ => false) ∧ Grow w w' := new_any w v
end

/-- What has changed in a new block is new. -/
theorem _root_.Go.Proofs.YtaddomgjjemglaaDoor.Grow.new {w w' w'' : World} {g : Nat} (c : Grow w w') (h : w.heap.size ≤ g) (k : Chg (· = g) w' w'') : Grow w w'' := c.step k fun i hi e => by omega

theorem tab_of_laid {W : World} (h : laidMetH Tryd.prog [("math/bits.deBruijn64tab", Rows.laid_math_bits_deBruijn64tab)] W) : Tab W := by
  rw [MakeChecks.laidMetH_plain _ _ _ (by kernel_rfl)] at h
  have e : (Rows.laid_math_bits_deBruijn64tab : DataW Unit) = Lib.tabData .u8 (Lib.deBruijn64tab.map fun n : Nat => (n : Int)) := rfl
  rw [e] at h
  have hg : Tryd.prog.globalNamed "math/bits.deBruijn64tab" = some 0 := by kernel_rfl
  have hv := Lib.tabIs_of_head hg (t := 58) (by kernel_rfl) Tryd.underlying58 Tryd.underlying5 (by kernel_rfl) (by kernel_rfl) h
  intro j hj
  have hc := World.var?_cell hg hv j
  rw [hc]
  have hl : Lib.deBruijn64tab.length = 64 := rfl
  simp [List.getElem?_eq_getElem (show j < Lib.deBruijn64tab.length by omega), List.getD_eq_getElem?_getD]
end Go.Proofs.YtaddomgjjemglaaDoor.L3

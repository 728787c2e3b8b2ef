/- Two tables of the same addresses, that share no memory. Conditions: as in the texts before. -/
import Derived.Test.YtbigdgabjjpffaaDoorL7Awake
namespace Go.Proofs.YtbigdgabjjpffaaDoor.L7
open Go.ChangeShapes Go.WideShapes Go.ChangeAt Go.RowKit
open Go.Proofs.YtbigdgabjjpffaaDoor.L3
set_option linter.unusedVariables false

/-- Both tables; all is newer than w0. -/
structure Two (w0 w : World) (p m g q k h F T : Nat) (S U : Nat → Bool) : Prop where
  a : Ct w p m g F T S
  b : Ct w q k h F T U
  sep : ∃ B, p < B ∧ m < B ∧ g < B ∧ B ≤ q ∧ B ≤ k ∧ B ≤ h
  newa : w0.heap.size ≤ g
  newb : w0.heap.size ≤ h
  cc : Grow w0 w
section
variable {w0 w w' : World} {p m g q k h F T : Nat} {S U V : Nat → Bool}
theorem Two.grow (t : Two w0 w p m g q k h F T S U) (c : Grow w w') : Two w0 w' p m g q k h F T S U := ⟨t.a.grow c, t.b.grow c, t.sep, t.newa, t.newb, t.cc.trans c⟩
theorem Two.setA (t : Two w0 w p m g q k h F T S U) (hv : Ct w' p m g F T V) (c : Chg (· = g) w w') : Two w0 w' p m g q k h F T V U :=
  ⟨hv, t.b.chg c (by obtain ⟨B, h1, h2, h3, h4, h5, h6⟩ := t.sep; omega) (by obtain ⟨B, h1, h2, h3, h4, h5, h6⟩ := t.sep; omega) (by obtain ⟨B, h1, h2, h3, h4, h5, h6⟩ := t.sep; omega), t.sep, t.newa, t.newb, t.cc.new t.newa c⟩
theorem Two.setB (t : Two w0 w p m g q k h F T S U) (hv : Ct w' q k h F T V) (c : Chg (· = h) w w') : Two w0 w' p m g q k h F T S V :=
  ⟨t.a.chg c (by obtain ⟨B, h1, h2, h3, h4, h5, h6⟩ := t.sep; omega) (by obtain ⟨B, h1, h2, h3, h4, h5, h6⟩ := t.sep; omega) (by obtain ⟨B, h1, h2, h3, h4, h5, h6⟩ := t.sep; omega), hv, t.sep, t.newa, t.newb, t.cc.new t.newb c⟩
theorem Two.mk2 {w1 : World} (c1 : Grow w0 w1) (ha : Ct w1 p m g F T S) (hga : w0.heap.size ≤ g) (c2 : Grow w1 w) (hb : Ct w q k h F T U) (h1 : w1.heap.size ≤ q) (h2 : w1.heap.size ≤ k) (h3 : w1.heap.size ≤ h) : Two w0 w p m g q k h F T S U :=
  ⟨ha.grow c2, hb, ⟨w1.heap.size, ha.plt, ha.mlt, ha.glt, h1, h2, h3⟩, hga, Nat.le_trans c1.size h3, c1.trans c2⟩
end

theorem isnew_no (F T : Nat) (x : Int) : isnew no F T x = inn F T x := by unfold isnew; simp
theorem tset_on {S : Nat → Bool} {F T : Nat} {x : Int} (h : inn F T x = true) : tset S F T x = upd S (cd F x) true := by unfold tset; rw [h]; rfl
theorem tset_off {S : Nat → Bool} {F T : Nat} {x : Int} (h : inn F T x = false) : tset S F T x = S := by unfold tset; rw [h]; rfl
theorem isd_off {S : Nat → Bool} {F T : Nat} {x : Int} (h : inn F T x = false) : isd S F T x = false := by unfold isd; rw [h]; rfl
theorem isnew_off {S : Nat → Bool} {F T : Nat} {x : Int} (h : inn F T x = false) : isnew S F T x = false := by unfold isnew; rw [h]; rfl
theorem isd_on {S : Nat → Bool} {F T : Nat} {x : Int} (h : inn F T x = true) : isd S F T x = S (cd F x) := by unfold isd; rw [h]; rfl
theorem isnew_on {S : Nat → Bool} {F T : Nat} {x : Int} (h : inn F T x = true) : isnew S F T x = !S (cd F x) := by unfold isnew; rw [h]; rfl
theorem cd_near {F T : Nat} {x y : Int} (hx : inn F T x = true) (hy : inn F T y = true) (h : cd F x = cd F y) : x - y < 16 ∧ y - x < 16 := by
  simp only [inn, decide_eq_true_eq] at hx hy
  unfold cd at h
  omega
/-- One card alone is dirty. -/
theorem cds_one {f n c : Nat} (h : c < n) : cds (upd no c true) f n = [((f + 16 * c : Nat) : Int)] := by
  rw [cds_upto (j := c + 1) h fun i h1 h2 => upd_ne (by omega), cds_snoc (j := 0) (Nat.zero_le _) (fun i h1 h2 => upd_ne (by omega)) (upd_at _ _ _)]
  rfl
end Go.Proofs.YtbigdgabjjpffaaDoor.L7

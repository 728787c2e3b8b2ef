/- A life that is made: what it gives; a run of it. Conditions: none. -/
import Derived.Test.YtogfjclmohpjkaaGreatDoorL15Al
import Derived.Test.YtogfjclmohpjkaaGreatDoorL15Ab
import Derived.Test.YtogfjclmohpjkaaGreatDoorL7A
namespace Go.Proofs.YtogfjclmohpjkaaGreatDoor.L15
open Go.ChangeShapes Go.WideShapes Go.ChangeAt Go.RowKit
open Go.Proofs.YtogfjclmohpjkaaGreatDoor.L1 (ptr Ar)
open Go.Proofs.YtogfjclmohpjkaaGreatDoor.L5 (Cl IsCls newX Tb)
open Go.Proofs.YtogfjclmohpjkaaGreatDoor.L6 (stV St)
open Go.Proofs.YtogfjclmohpjkaaGreatDoor.L7 (Ct tset tb_new tb_touch inn cd isd)
open Go.Proofs.YtogfjclmohpjkaaGreatDoor.L3 (no)
set_option linter.unusedVariables false
/-- A life that is made, in memory; all of it is new. -/
structure Mde (w w' : World) (f : Fx) (A xs : List Int) (H : Int) (z yl b : Nat) (tp : Option Addr) (g pc mc gc : Nat) (av rv : Value) : Prop where
  lo : Low w' z b tp g xs f.cs
  bd : Bd { f with zs := A } xs H
  al : OL w' yl av A
  rl : OL w' yl rv f.zs
  ap : ∀ k, av.ownBlock = some k → rv.ownBlock ≠ some k
  ct : Ct w' pc mc gc 1 401 (finS f A)
  pl : (z ≤ pc ∧ z ≤ mc ∧ z ≤ gc) ∧ (pc < yl ∧ mc < yl ∧ gc < yl) ∧ z ≤ yl ∧ yl ≤ w'.heap.size ∧ w.heap.size ≤ g ∧ w.heap.size ≤ z
  gr : Grow w w'
  zr : ∀ r ∈ f.zs, r = 0 ∨ r ∈ f.all
section
variable {w w' W : World} {f : Fx} {A xs zs' : List Int} {H : Int} {z yl b g pc mc gc rn rc : Nat} {tp ra : Option Addr} {av rv : Value} {x : Int}
theorem Wf.zs (h : Wf f xs) (zs' : List Int) : Wf { f with zs := zs' } xs := ⟨h.n, h.rt, h.ok, h.so, h.se, h.sf, h.cl⟩
theorem Mde.wf (m : Mde w w' f A xs H z yl b tp g pc mc gc av rv) : Wf f xs := (m.bd.wf).zs f.zs
theorem Mde.zi (m : Mde w w' f A xs H z yl b tp g pc mc gc av rv) : x ∈ A ↔ x ∈ f.all := m.bd.zi x
theorem Bd.old (h : Bd f xs H) (hx : x ∈ f.OS) : 1 ≤ x ∧ x + (f.ob x).sz ≤ f.y.OT ∧ f.y.OT ≤ 401 := by
  have h1 := h.wf.so.bd hx
  have h2 := h.wf.ok.o
  have h3 := h.y
  omega
theorem Bd.isY (h : Bd f xs H) (hx : f.y.isY x = true) : 401 ≤ x ∧ x < 801 := by
  have he := h.wf.ok.e
  have hf := h.wf.ok.f
  have hy := h.y
  have hh := h.h
  unfold Yg.isY at hx
  rcases Bool.or_eq_true_iff.1 hx with h1 | h1
  · have := (has_iff (by omega)).1 h1
    omega
  · have := (has_iff (by omega)).1 h1
    omega
theorem lld_ld (h : Bd f xs H) {o : Ob} (hl : f.y.ld o = true) : lldB o = true := by
  unfold Yg.ld at hl
  obtain ⟨r, hr, h1⟩ := List.any_eq_true.1 hl
  have := h.isY h1
  unfold lldB oldB
  exact List.any_eq_true.2 ⟨r, hr, by simp; omega⟩
theorem Mde.nb (m : Mde w w' f A xs H z yl b tp g pc mc gc av rv) : f.all.any (badB f.y (finS f A) 1 401 f.ob) = false := by
  refine List.any_eq_false.2 fun x hx => ?_
  unfold badB
  cases hl : f.y.ld (f.ob x) with
  | false => simp
  | true =>
    cases ho : L2.hasB f.y.OF f.y.OT f.y.OE x with
    | false => simp
    | true =>
      have h1 := lld_ld m.bd (show f.y.ld (f.ob x) = true from hl)
      have o := m.bd.wf.ok.o
      have hy := m.bd.y
      have h2 := (has_iff (by dsimp only at o; omega)).1 ho
      dsimp only at o hy
      have h3 : oldB x = true := by unfold oldB; simp; omega
      have h4 : inn 1 401 x = true := by unfold inn; simp; omega
      have h5 : finS f A (cd 1 x) = true := (tS_iff A no).2 (.inr ⟨x, m.zi.2 hx, by simp [h1, h3], h4, rfl⟩)
      have : isd (finS f A) 1 401 x = true := by unfold isd; rw [h4, h5]; rfl
      rw [this]
      simp
/-- Run of a life that is made. -/
theorem Mde.run (m : Mde w w' f A xs H z yl b tp g pc mc gc av rv) (c : Grow w' W) (hzs : L1.Rd W ra rn zs') (hrn : rn < 1000000) (hroots : ∀ r ∈ zs', r = 0 ∨ r ∈ f.all) :
    Calls Tryz.prog 10 #[.pointer (some ⟨b, 0, none⟩), .pointer tp, f.y.v, .slice ra rn rc, ptr pc] W fun e w'' =>
      (f.y.OE - f.y.OT < (f.y.ET - f.y.EF) + (f.y.FT - f.y.FF) ∧ e = .returned (.tuple #[.slice none 0 0, y0.v, .int .i64 3]) ∧ Grow W w'') ∨
      ((f.y.ET - f.y.EF) + (f.y.FT - f.y.FF) ≤ f.y.OE - f.y.OT ∧ ∃ v rs s, e = .returned (.tuple #[v, (f.y.aft s.ot s.tt).v, .int .i64 0]) ∧ Ran W w'' { f with zs := zs' } z b tp g pc mc gc 1 401 v rs s) := by
  have wf := m.wf.zs zs'
  have hp := m.pl
  have hrg : f.y.rgB xs.length = true := by rw [m.wf.n]; exact m.wf.ok.rg
  exact run_any wf (m.lo.grow c) (by have := c.size; omega) (m.ct.grow c) hp.1 hzs hrn hroots hrg m.nb
theorem Mde.room0 (m : Mde w w' f A xs H z yl b tp g pc mc gc av rv) (ho : f.OS = []) : (f.y.ET - f.y.EF) + (f.y.FT - f.y.FF) ≤ f.y.OE - f.y.OT := by
  have hs : Seg xs f.cs f.ob f.y.OF f.OS f.y.OT := m.wf.so
  rw [ho] at hs
  have e : f.y.OF = f.y.OT := hs
  have y := m.bd.y
  have h := m.bd.h
  have k1 := m.wf.ok.e
  have k2 := m.wf.ok.f
  dsimp only at y
  omega
end
/-- A world that stands, with its cards. -/
structure Sd (W : World) (f : Fx) (xs : List Int) (z b : Nat) (tp : Option Addr) (g pc mc gc : Nat) (S : Nat → Bool) : Prop where
  wf : Wf f xs
  lo : Low W z b tp g xs f.cs
  ct : Ct W pc mc gc 1 401 S
  nb : f.all.any (badB f.y S 1 401 f.ob) = false
  zc : z ≤ pc ∧ z ≤ mc ∧ z ≤ gc
  zw : z ≤ W.heap.size
  o : f.y.OF = 1 ∧ f.y.OE = 401
section
variable {w w' W W' : World} {f : Fx} {A xs zs' rs : List Int} {H : Int} {z yl b g pc mc gc rn rc : Nat} {tp ra : Option Addr} {av rv v : Value} {x : Int} {S : Nat → Bool} {s : Mst}
theorem Mde.sd (m : Mde w w' f A xs H z yl b tp g pc mc gc av rv) : Sd w' f xs z b tp g pc mc gc (finS f A) := by
  have hp := m.pl
  have hy := m.bd.y
  exact ⟨m.wf, m.lo, m.ct, m.nb, hp.1, by omega, hy.1, hy.2.1⟩
theorem Sd.grow (d : Sd W f xs z b tp g pc mc gc S) (c : Grow W W') : Sd W' f xs z b tp g pc mc gc S := ⟨d.wf, d.lo.grow c, d.ct.grow c, d.nb, d.zc, Nat.le_trans d.zw c.size, d.o⟩
theorem Sd.run (d : Sd W f xs z b tp g pc mc gc S) (hzs : L1.Rd W ra rn zs') (hrn : rn < 1000000) (hroots : ∀ r ∈ zs', r = 0 ∨ r ∈ f.all) :
    Calls Tryz.prog 10 #[.pointer (some ⟨b, 0, none⟩), .pointer tp, f.y.v, .slice ra rn rc, ptr pc] W fun e w'' =>
      (f.y.OE - f.y.OT < (f.y.ET - f.y.EF) + (f.y.FT - f.y.FF) ∧ e = .returned (.tuple #[.slice none 0 0, y0.v, .int .i64 3]) ∧ Grow W w'') ∨
      ((f.y.ET - f.y.EF) + (f.y.FT - f.y.FF) ≤ f.y.OE - f.y.OT ∧ ∃ v rs s, e = .returned (.tuple #[v, (f.y.aft s.ot s.tt).v, .int .i64 0]) ∧ Ran W w'' { f with zs := zs' } z b tp g pc mc gc 1 401 v rs s) := by
  have wf := d.wf.zs zs'
  have hrg : f.y.rgB xs.length = true := by rw [d.wf.n]; exact d.wf.ok.rg
  exact run_any wf d.lo d.zw d.ct d.zc hzs hrn hroots hrg d.nb
theorem Ran.sd (R : Ran W W' { f with zs := zs' } z b tp g pc mc gc 1 401 v rs s) (d : Sd W f xs z b tp g pc mc gc S) : Sd W' (f.aft s rs) s.xs z b tp g pc mc gc (recS (f.y.aft s.ot s.tt) s.ob 1 401 (f.OS ++ s.PO)) := by
  have wf := d.wf.zs zs'
  have ho := d.o
  refine ⟨fin_wf wf R.i R.d rs, R.lo, R.ct, fin_bad wf R.i (fun x hx => ?_) rs, d.zc, Nat.le_trans d.zw R.c.size, d.o⟩
  have h1 := R.i.ob_ hx
  have h2 := sz_pos (s.ob x)
  dsimp only at h1
  unfold inn
  simp only [decide_eq_true_eq]
  omega
end
end Go.Proofs.YtogfjclmohpjkaaGreatDoor.L15

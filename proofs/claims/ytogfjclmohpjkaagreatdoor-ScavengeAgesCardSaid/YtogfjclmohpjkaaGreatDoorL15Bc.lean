/- A list that is appended to beside an object that At told: what the plain Canon's rounds keep. Conditions: the list's block is none of the object's. -/
import Derived.Test.YtogfjclmohpjkaaGreatDoorL15Br
namespace Go.Proofs.YtogfjclmohpjkaaGreatDoor.L15
open Go.ChangeShapes Go.WideShapes Go.ChangeAt Go.RowKit
open Go.Proofs.YtogfjclmohpjkaaGreatDoor.L1 (Sl Ar RAr ptr exB)
open Go.Proofs.YtogfjclmohpjkaaGreatDoor.L5 (Cl clV rtB Tb clAt shX shR shD IsCls)
set_option linter.unusedVariables false
set_option maxRecDepth 100000
abbrev obC (o : Ob) (vr vd : Value) : List Value := [.int .i64 o.C, .int .i64 o.A, .int .i64 o.F, .bool o.m, .bool o.f, .bool o.d, .int .i64 o.l, vr, vd]
/-- A list u, and an object in block p with its lists, apart from u. -/
structure Ap (W : World) (b p : Nat) (u vr vd : Value) (out : List Int) (o : Ob) : Prop where
  ol : OL W b u out
  bl : Blk W p 105 (obC o vr vd)
  rs : OL W b vr o.rs
  ds : OL W b vd o.ds
  a1 : ∀ j, u.ownBlock = some j → vr.ownBlock ≠ some j
  a2 : ∀ j, u.ownBlock = some j → vd.ownBlock ≠ some j
section
variable {W W' : World} {b p n c : Nat} {u vr vd : Value} {out ys : List Int} {o : Ob} {a : Option Addr}
theorem Ap.grow (h : Ap W b p u vr vd out o) (g : Grow W W') : Ap W' b p u vr vd out o := ⟨h.ol.grow g, h.bl.chg g id, h.rs.grow g, h.ds.grow g, h.a1, h.a2⟩
theorem Ap.app (h : Ap W b p u vr vd out o) (hb : b ≤ W.heap.size) (hs : L1.Rd W a n ys) (hn : out.length + n ≤ 100000000) :
    ∃ v' W', (Builtin.append_ #[37, 37] 37 #[u, .slice a n c]).run Tryz.prog W = .ok v' W' ∧ Ap W' b p v' vr vd (out ++ ys) o ∧ (∀ w0, Grow w0 W → w0.heap.size ≤ b → Grow w0 W') := by
  obtain ⟨v', W', hrr, ho', hgb, hob'⟩ := app_int (c := c) h.ol hb hs hn
  refine ⟨v', W', hrr, ⟨ho', h.bl.grownOwn hgb (fun e => OL.ne h.ol h.bl (by decide) e.symm), ?_, ?_, ?_, ?_⟩, fun w0 g hw => Chg.grownOwn g h.ol hw hgb⟩
  · exact h.rs.chg (Chg.grown (S := fun i => u.ownBlock = some i) (Chg.refl _ _) hgb (fun k _ e => e)) (fun k e1 e2 => h.a1 k e2 e1)
  · exact h.ds.chg (Chg.grown (S := fun i => u.ownBlock = some i) (Chg.refl _ _) hgb (fun k _ e => e)) (fun k e1 e2 => h.a2 k e2 e1)
  · intro j e1 e2
    rcases hob' with k | k
    · exact h.a1 j (by rw [← k, e1]) e2
    · rw [k] at e1
      injection e1 with e1
      have h1 := (h.rs.lt j e2).2
      omega
  · intro j e1 e2
    rcases hob' with k | k
    · exact h.a2 j (by rw [← k, e1]) e2
    · rw [k] at e1
      injection e1 with e1
      have h1 := (h.ds.lt j e2).2
      omega
end
end Go.Proofs.YtogfjclmohpjkaaGreatDoor.L15

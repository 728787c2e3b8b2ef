/- A world that is built, as a whole: pure facts. Conditions: none; nothing here speaks of the program. -/
import Derived.Test.YtogfjclmohpjkaaGreatDoorL15Ao
import Derived.Test.YtogfjclmohpjkaaGreatDoorL15L
namespace Go.Proofs.YtogfjclmohpjkaaGreatDoor.L15
open Go.Proofs.YtogfjclmohpjkaaGreatDoor.L5 (Cl rtB clAt shX shR shD c0)
open Go.Proofs.YtogfjclmohpjkaaGreatDoor.L7 (inn cd tset)
open Go.Proofs.YtogfjclmohpjkaaGreatDoor.L3 (no)
set_option linter.unusedVariables false
/-- A reference is set, as a three of numbers tells. -/
def Fx.ln (f : Fx) (t : Tr) : Fx := if f.zs.length = 0 then f else f.lnk t.a.toNat t.b.toNat t.c.toNat
abbrev Fx.lays (f : Fx) (gs : List Tg) : Fx := gs.foldl Fx.lay f
abbrev Fx.lns (f : Fx) (ts : List Tr) : Fx := ts.foldl Fx.ln f
def rtZ (A : List Int) (r : Int) : Int := nthZ A (r.toNat % (A.length + 1))
/-- All that is built: the objects' addresses in their order are the roots of this one. -/
def fin0 (cs : List Cl) (h th : Int) (gs : List Tg) (ts : List Tr) : Fx := ((Fx.new cs h th).lays gs).lns ts
def finF (cs : List Cl) (h th : Int) (gs : List Tg) (ts : List Tr) (zs : List Int) : Fx := { fin0 cs h th gs ts with zs := zs.map (rtZ (fin0 cs h th gs ts).zs) }
/-- No marks, no forwards. -/
def Mf (f : Fx) : Prop := ∀ x, (f.ob x).m = false ∧ (f.ob x).F = 0
section
variable {f : Fx} {cs : List Cl} {t : Tr} {u : Tg} {gs : List Tg} {ts : List Tr} {zs A xs : List Int} {h th H x : Int}
theorem up_mf {g : Int → Ob} {a : Int} {o : Ob} (hg : ∀ x, (g x).m = false ∧ (g x).F = 0) (ho : o.m = false ∧ o.F = 0) : ∀ x, (up g a o x).m = false ∧ (up g a o x).F = 0 := fun x => by
  by_cases e : x = a
  · rw [e, up_at]; exact ho
  · rw [up_ne e]; exact hg x
theorem Mf.lay (h : Mf f) (u : Tg) : Mf (f.lay u) := by
  unfold Fx.lay
  split
  · exact h
  · exact up_mf h ⟨rfl, rfl⟩
theorem Mf.ln (h : Mf f) (t : Tr) : Mf (f.ln t) := by
  unfold Fx.ln Fx.lnk
  split
  · exact h
  · split
    · exact h
    · exact up_mf h (h _)
theorem Mf.lays (h : Mf f) (gs : List Tg) : Mf (f.lays gs) := by
  induction gs generalizing f with
  | nil => exact h
  | cons a gs ih => exact ih (h.lay a)
theorem Mf.lns (h : Mf f) (ts : List Tr) : Mf (f.lns ts) := by
  induction ts generalizing f with
  | nil => exact h
  | cons a gs ih => exact ih (h.ln a)
theorem mf_fin : Mf (finF cs h th gs ts zs) := (Mf.lays (f := Fx.new cs h th) (fun _ => ⟨rfl, rfl⟩) gs).lns ts
theorem ln_zs (f : Fx) (t : Tr) : (f.ln t).zs = f.zs := by
  unfold Fx.ln Fx.lnk
  split
  · rfl
  · split
    · rfl
    · rfl
theorem lns_zs (ts : List Tr) : ∀ f : Fx, (f.lns ts).zs = f.zs := by
  induction ts with
  | nil => intro f; rfl
  | cons a ts ih => intro f; exact (ih _).trans (ln_zs f a)
theorem lns_nil (ts : List Tr) (h : f.zs.length = 0) : f.lns ts = f := by
  induction ts with
  | nil => rfl
  | cons a ts ih =>
    show (f.ln a).lns ts = f
    rw [show f.ln a = f by unfold Fx.ln; rw [if_pos h]]
    exact ih
theorem lay_cs (f : Fx) (u : Tg) : (f.lay u).cs = f.cs ∧ (f.lay u).n = f.n ∧ (f.lay u).y.th = f.y.th := by
  unfold Fx.lay
  split
  · exact ⟨rfl, rfl, rfl⟩
  · exact ⟨rfl, rfl, rfl⟩
theorem lays_cs (gs : List Tg) : ∀ f : Fx, (f.lays gs).cs = f.cs ∧ (f.lays gs).y.th = f.y.th := by
  induction gs with
  | nil => intro f; exact ⟨rfl, rfl⟩
  | cons a gs ih => intro f; exact ⟨(ih _).1.trans (lay_cs f a).1, (ih _).2.trans (lay_cs f a).2.2⟩
theorem ln_cs (f : Fx) (t : Tr) : (f.ln t).cs = f.cs ∧ (f.ln t).y = f.y ∧ (f.ln t).OS = f.OS ∧ (f.ln t).YE = f.YE ∧ (f.ln t).YF = f.YF := by
  unfold Fx.ln Fx.lnk
  split
  · exact ⟨rfl, rfl, rfl, rfl, rfl⟩
  · split
    · exact ⟨rfl, rfl, rfl, rfl, rfl⟩
    · exact ⟨rfl, rfl, rfl, rfl, rfl⟩
theorem lns_cs (ts : List Tr) : ∀ f : Fx, (f.lns ts).cs = f.cs ∧ (f.lns ts).y = f.y ∧ (f.lns ts).OS = f.OS := by
  induction ts with
  | nil => intro f; exact ⟨rfl, rfl, rfl⟩
  | cons a gs ih =>
    intro f
    obtain ⟨h1, h2, h3⟩ := ih (f.ln a)
    obtain ⟨k1, k2, k3, _, _⟩ := ln_cs f a
    exact ⟨h1.trans k1, h2.trans k2, h3.trans k3⟩
theorem fin_cs : (finF cs h th gs ts zs).cs = cs ∧ (finF cs h th gs ts zs).y.th = th := by
  obtain ⟨h1, h2, _⟩ := lns_cs ts ((Fx.new cs h th).lays gs)
  obtain ⟨k1, k2⟩ := lays_cs gs (Fx.new cs h th)
  exact ⟨h1.trans k1, (congrArg Yg.th h2).trans k2⟩
theorem lay_len (f : Fx) (u : Tg) : (f.lay u).zs.length ≤ f.zs.length + 1 := by
  unfold Fx.lay
  split
  · omega
  · simp [Fx.add]
theorem lays_len (gs : List Tg) : ∀ f : Fx, (f.lays gs).zs.length ≤ f.zs.length + gs.length := by
  induction gs with
  | nil => intro f; exact Nat.le_refl _
  | cons a gs ih => intro f; have h1 := ih (f.lay a); have h2 := lay_len f a; show ((f.lay a).lays gs).zs.length ≤ _; rw [List.length_cons]; omega
theorem rtZ_in (hA : ∀ x, x ∈ A ↔ x ∈ f.all) (r : Int) : rtZ A r = 0 ∨ rtZ A r ∈ f.all := by
  unfold rtZ
  rcases nthZ_in (zs := A) (k := r.toNat % (A.length + 1)) (by have := Nat.mod_lt r.toNat (show 0 < A.length + 1 by omega); omega) with h | h
  · exact .inl h
  · exact .inr ((hA _).1 h)
/-- Without old ones that are asked for there are none. -/
theorem lay_os (f : Fx) (u : Tg) (hu : u.i ≠ 0) : (f.lay u).OS = f.OS := by
  unfold Fx.lay
  split
  · rfl
  · simp only [Fx.add, if_neg hu]
theorem lays_os (gs : List Tg) (hg : ∀ u ∈ gs, u.i ≠ 0) : ∀ f : Fx, (f.lays gs).OS = f.OS := by
  induction gs with
  | nil => intro f; rfl
  | cons a gs ih =>
    intro f
    exact (ih (fun u hu => hg u (List.mem_cons_of_mem _ hu)) _).trans (lay_os f a (hg a (List.mem_cons_self ..)))
theorem fin_os (hg : ∀ u ∈ gs, u.i ≠ 0) : (finF cs h th gs ts zs).OS = [] := by
  obtain ⟨_, _, h3⟩ := lns_cs ts ((Fx.new cs h th).lays gs)
  exact h3.trans (lays_os gs hg _)
end
/-- The cards that are dirty. -/
def finS (f : Fx) (A : List Int) : Nat → Bool := tS (fun x => oldB x && lldB (f.ob x)) 1 401 A no
end Go.Proofs.YtogfjclmohpjkaaGreatDoor.L15

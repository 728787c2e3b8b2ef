/- Behind a run all old objects that lead to young ones are dirty. Conditions: the cards reach over all of Old. -/
import Derived.Test.YtogfjclmohpjkaaGreatDoorL15E
import Derived.Test.YtogfjclmohpjkaaGreatDoorL15F
namespace Go.Proofs.YtogfjclmohpjkaaGreatDoor.L15
open Go.Proofs.YtogfjclmohpjkaaGreatDoor.L5 (Cl)
open Go.Proofs.YtogfjclmohpjkaaGreatDoor.L7 (isd tset inn cd)
open Go.Proofs.YtogfjclmohpjkaaGreatDoor.L3 (no)
set_option linter.unusedVariables false
section
variable {y : Yg} {ob : Int → Ob} {f t : Nat} {L M : List Int} {S : Nat → Bool} {x : Int}
theorem tset_mono {a : Int} {k : Nat} (h : S k = true) : tset S f t a k = true := by
  unfold tset
  split
  · unfold L3.upd; split
    · rfl
    · exact h
  · exact h
theorem tset_self {a : Int} (h : inn f t a = true) : tset S f t a (cd f a) = true := by
  unfold tset
  rw [if_pos h]
  simp [L3.upd]
theorem recS_mono (M : List Int) {k : Nat} (h : recS y ob f t L k = true) : recS y ob f t (L ++ M) k = true := by
  induction M generalizing L with
  | nil => rwa [List.append_nil]
  | cons a M ih =>
    rw [List.append_cons]
    refine ih ?_
    rw [recS_snoc]
    split
    · exact tset_mono h
    · exact h
theorem recS_in (hx : x ∈ L) (hl : y.ld (ob x) = true) (hi : inn f t x = true) : recS y ob f t L (cd f x) = true := by
  obtain ⟨A, B, rfl⟩ := List.append_of_mem hx
  rw [List.append_cons]
  refine recS_mono B ?_
  rw [recS_snoc, if_pos hl]
  exact tset_self hi
theorem fin_bad {f : Fx} {s : Mst} {xs0 : List Int} {fc tc : Nat} (wf : Wf f xs0) (h : Inv f s) (hi : ∀ x ∈ f.OS ++ s.PO, inn fc tc x = true) (zs : List Int) :
    (f.aft s zs).all.any (badB (f.y.aft s.ot s.tt) (recS (f.y.aft s.ot s.tt) s.ob fc tc (f.OS ++ s.PO)) fc tc s.ob) = false := by
  refine List.any_eq_false.2 fun x hx => ?_
  have hx' : x ∈ f.OS ++ s.PO ∨ x ∈ s.LT := by
    have : x ∈ (f.OS ++ s.PO) ++ s.LT := by simpa [Fx.all, Fx.YS] using hx
    exact List.mem_append.1 this
  unfold badB
  rcases hx' with hx' | hx'
  · cases hl : (f.y.aft s.ot s.tt).ld (s.ob x) with
    | false => simp
    | true =>
      have h1 := recS_in hx' hl (hi x hx')
      have : isd (recS (f.y.aft s.ot s.tt) s.ob fc tc (f.OS ++ s.PO)) fc tc x = true := by
        unfold isd
        rw [hi x hx', h1]; rfl
      rw [this]; simp
  · have hno : L2.hasB (f.y.aft s.ot s.tt).OF (f.y.aft s.ot s.tt).OT (f.y.aft s.ot s.tt).OE x = false := by
      refine has_not ?_
      have h1 := h.tb_ hx'
      have h2 := h.oo
      have h3 := sz_pos (s.ob x)
      refine Classical.byContradiction fun hc => ?_
      have := wf.ok.ot.ap (x := x) (y := x) (p := 1) (q := 1) (by dsimp only at hc; omega) (by omega) (by omega) (by omega)
      omega
    rw [hno]; simp
theorem me_of {F T E F' T' E' : Int} (h : dj F' E' F E) : meB ⟨F, T, E⟩ ⟨F', T', E'⟩ = false := by
  unfold meB
  unfold dj at h
  refine decide_eq_false ?_
  dsimp only
  omega
theorem ri_of {F T E : Int} (h : 1 ≤ F ∧ F ≤ T ∧ T ≤ E ∧ E ≤ 4096) : L2.riB F T E = true := by
  simp only [L2.riB, decide_eq_true_eq]; omega
theorem Yg.Ok.rg {n : Nat} (h : y.Ok n) : y.rgB n = true := by
  obtain ⟨OF, OT, OE, EF, ET, EE, FF, FT, FE, TF, TT, TE, th⟩ := y
  obtain ⟨o, e, g, t, oe, of, ot, ef, et, ft, sz, hth⟩ := h
  dsimp only at o e g t sz hth
  have e0 : Yg.sps ⟨OF, OT, OE, EF, ET, EE, FF, FT, FE, TF, TT, TE, th⟩ = [⟨OF, OT, OE⟩, ⟨EF, ET, EE⟩, ⟨FF, FT, FE⟩, ⟨TF, TT, TE⟩] := rfl
  have r1 := ri_of (F := OF) (T := OT) (E := OE) (by omega)
  have r2 := ri_of (F := EF) (T := ET) (E := EE) (by omega)
  have r3 := ri_of (F := FF) (T := FT) (E := FE) (by omega)
  have r4 := ri_of (F := TF) (T := TT) (E := TE) (by omega)
  simp only [Yg.rgB, finAt, finB, e0, Yg.tl, List.take_zero, List.take_succ_cons, List.getD_cons_zero, List.getD_cons_succ, List.any_nil, List.any_cons, me_of oe, me_of of, me_of ot, me_of ef, me_of et, me_of ft, r1, r2, r3, r4, Bool.or_self, Bool.not_false, Bool.and_true, Bool.true_and, Bool.and_eq_true, decide_eq_true_eq]
  refine ⟨⟨by omega, by omega⟩, ⟨by omega, by omega⟩, ⟨by omega, by omega⟩, ⟨by omega, by omega⟩, by omega, by omega, by omega, by omega⟩
end
end Go.Proofs.YtogfjclmohpjkaaGreatDoor.L15

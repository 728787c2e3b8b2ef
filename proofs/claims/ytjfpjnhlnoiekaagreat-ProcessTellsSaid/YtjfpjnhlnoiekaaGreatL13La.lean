/- The plain answer of reference processing: which nodes aim at one that is not in a list. Conditions: fewer than 1000000 nodes, classes, and names. -/
import Derived.Test.YtjfpjnhlnoiekaaGreatL13W
namespace Go.Proofs.YtjfpjnhlnoiekaaGreat.L13
open Go.ChangeShapes Go.WideShapes Go.ChangeAt Go.RowKit
open Go.Proofs.YtjfpjnhlnoiekaaGreat.L9 (Nd nd GS RG Rf Lok In64 Srt nd_some nd_none nd_mem own_rd own_cast ptr hasB hldX aimX aim_r)
open Go.Proofs.YtjfpjnhlnoiekaaGreat.L10 (Rc IsRc outs clL fins fnB OL clL_srt has_ol close_any clL_le rc_nil srcC Pg)
open Go.Proofs.YtjfpjnhlnoiekaaGreat.graphKeeps (Clo nd_ne)
open Go.Proofs.YtjfpjnhlnoiekaaGreat.L5 (Cl clAt isRf IsCls)
set_option linter.unusedVariables false
/-- Is there an aim that is not in l? -/
def lsB (cs : List Cl) (L : List Nd) (l : List Int) (i : Int) : Bool := decide ((aimX cs L i).1 ≠ 0) && !hasB l (aimX cs L i).1
section
variable {w W W' : World} {b n c z qg len cap : Nat} {la a : Option Addr} {l : List Int} {T : Nat → Prop} {cs : List Cl} {L : List Nd} {q : Int → Bool} {i : Int}
theorem lsB_los (hs : Lok cs L) (hc : Clo L) (hq : ∀ i, q i = true → nd L i ≠ none) (hi : q i = true) : lsB cs L (clL L q) i = los cs L q i := by
  have hz : isN L 0 = false := by
    cases h : isN L 0 with
    | false => rfl
    | true =>
      obtain ⟨x, hx⟩ := Option.ne_none_iff_exists'.1 (isN_ne.1 h)
      obtain ⟨h1, h2⟩ := nd_some hx
      have := (hs.2 x h1).id1
      omega
  have h1 : ∀ t, (t = 0 ∨ nd L t ≠ none) → decide (t ≠ 0) = isN L t := fun t ht => by
    rw [Bool.eq_iff_iff, decide_eq_true_eq, isN_ne]
    constructor
    · intro h; exact ht.resolve_left h
    · rintro h rfl
      rw [← isN_ne, hz] at h
      cases h
  unfold lsB los
  rw [hi, has_cl hs.1 hq, h1, Bool.true_and]
  have hn := hq i hi
  obtain ⟨x, hx⟩ := Option.ne_none_iff_exists'.1 hn
  obtain ⟨hxL, -⟩ := nd_some hx
  cases hr : isR cs x with
  | false => exact .inl (by rw [aim_no hx hr])
  | true =>
    rw [aim_yes hx hr]
    cases hxr : x.refs with
    | nil => exact .inl rfl
    | cons y m =>
      rcases hc x hxL y (by rw [hxr]; simp) with e | e
      · exact .inl e
      · exact .inr (nd_ne.2 e)
set_option maxRecDepth 100000 in
set_option maxHeartbeats 1000000 in
theorem lost_any (h : Pg w z T qg a len cap cs L) (hl : Nl w b la n c l) (i : Int) :
    Calls Tryz.prog 33 #[ptr qg, .int .i64 i, .slice la n c] w fun e w' => e = .returned (.tuple #[.int .i64 (aimX cs L i).2, .bool (lsB cs L l i)]) ∧ Grow w w' := by
  have HAI := hide (aim_r h.r h.c h.o h.all h.l h.cap (i := i))
  obtain ⟨t, ht⟩ : ∃ t, (aimX cs L i).1 = t := ⟨_, rfl⟩
  obtain ⟨k, hk⟩ : ∃ k, (aimX cs L i).2 = k := ⟨_, rfl⟩
  obtain ⟨u, hu⟩ : ∃ u, lsB cs L l i = u := ⟨_, rfl⟩
  have hu2 := hu
  unfold lsB at hu2
  rw [ht] at hu2
  rw [ht, hk] at HAI
  rw [hk, hu]
  have HH := hide (fun (W : World) (g : Grow w W) => (hl.grow g).has t)
  clear hu hk ht h hl
  by_cases h0 : t = 0
  · have q1 : (t != 0) = false := by simp [h0]
    have hu3 : u = false := by rw [← hu2]; simp [h0]
    subst hu3
    clear hu2 h0 HH
    go_enter Tryz.func33, Tryz.ntmps33
    go_wp2_with fail
    refine HAI.out.mono ?_
    rintro e w1 ⟨rfl, g1⟩
    go_wp2
    go_returns
    exact ⟨rfl, g1⟩
  · have q1 : (t != 0) = true := by simp [h0]
    obtain ⟨v, hv⟩ : ∃ v, hasB l t = v := ⟨_, rfl⟩
    rw [hv] at HH hu2
    have hu3 : u = !v := by rw [← hu2]; simp [h0]
    subst hu3
    clear hu2 h0 hv
    go_enter Tryz.func33, Tryz.ntmps33
    go_wp2_with fail
    refine HAI.out.mono ?_
    rintro e w1 ⟨rfl, g1⟩
    go_wp2_with fail
    refine (HH.out _ g1).mono ?_
    rintro e w2 ⟨rfl, g2⟩
    go_wp2
    go_returns
    exact ⟨rfl, g1.trans g2⟩
end
end Go.Proofs.YtjfpjnhlnoiekaaGreat.L13

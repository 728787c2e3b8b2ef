/- Reference processing, without the program: what Apply leaves. Conditions: none; nothing here speaks of the program. -/
import Derived.Test.YtjfpjnhlnoiekaaGreatL13P
import Derived.Test.YtjfpjnhlnoiekaaGreatL9B
import Derived.Test.YtjfpjnhlnoiekaaGreatL9C
namespace Go.Proofs.YtjfpjnhlnoiekaaGreat.L13
open Go.Proofs.YtjfpjnhlnoiekaaGreat.L9 (Nd nd Srt In64 Lok hldX aimX nd_some nd_none nd_mem hld kd hasB kpL kpN srX srL dnX dnL updN srX_ok nd_upd srt_inj)
open Go.Proofs.YtjfpjnhlnoiekaaGreat.L10 (Rc IsRc outs ldB clL fins fnB srcC clL_srt rc_nil put hasB_iff aim_kind)
open Go.Proofs.YtjfpjnhlnoiekaaGreat.L5 (Cl clAt isRf)
set_option linter.unusedVariables false

/-- The first reference is cleared. -/
def s1 (cs : List Cl) (L : List Nd) (i : Int) : List Nd := if (aimX cs L i).2 = 0 then L else srL L i 0 0
def srs (cs : List Cl) (L : List Nd) (l : List Int) : List Nd := l.foldl (s1 cs) L
def dns (L : List Nd) (l : List Int) : List Nd := l.foldl dnL L
/-- What Apply leaves, and how many are gone. -/
def apL (cs : List Cl) (L : List Nd) (lv cl fn : List Int) : List Nd := kpL (dns (srs cs L cl) fn) lv
def apN (cs : List Cl) (L : List Nd) (lv cl fn : List Int) : Nat := kpN (dns (srs cs L cl) fn) lv
def isR (cs : List Cl) (x : Nd) : Bool := isRf (kd (clAt cs x.c))
def clr1 (cs : List Cl) (e : Int → Bool) (x : Nd) : Nd := { x with refs := bif e x.id && isR cs x then x.refs.set 0 0 else x.refs }
def fin1 (g : Int → Bool) (x : Nd) : Nd := { x with fin := x.fin && !g x.id }
section
variable {cs : List Cl} {L : List Nd} {l : List Int} {i j : Int} {e g : Int → Bool} {x : Nd}
theorem map_self {f : Nd → Nd} (h : ∀ x ∈ L, f x = x) : L = L.map f := ((List.map_congr_left (g := id) h).trans (List.map_id _)).symm
theorem srs_cons (i : Int) (l : List Int) : srs cs L (i :: l) = srs cs (s1 cs L i) l := rfl
theorem srs_snoc (i : Int) (l : List Int) : srs cs L (l ++ [i]) = s1 cs (srs cs L l) i := by simp [srs]
theorem dns_snoc (i : Int) (l : List Int) : dns L (l ++ [i]) = dnL (dns L l) i := by simp [dns]
theorem lok_map (h : Lok cs L) (f : Nd → Nd) (h1 : ∀ x, (f x).id = x.id) (h2 : ∀ x ∈ L, x.Ok cs → (f x).Ok cs) : Lok cs (L.map f) := by
  refine ⟨L9.srt_of_ids h.1 (by rw [List.map_map]; exact List.map_congr_left fun x _ => h1 x), fun y hy => ?_⟩
  obtain ⟨x, hx, rfl⟩ := List.mem_map.1 hy
  exact h2 x hx (h.2 x hx)
theorem aim_ne (h : (aimX cs L i).2 ≠ 0) : ∃ x, nd L i = some x ∧ isR cs x = true := by
  unfold aimX at h
  cases hn : nd L i with
  | none => rw [hn] at h; exact absurd rfl h
  | some x =>
    rw [hn] at h
    refine ⟨x, rfl, ?_⟩
    cases hr : isR cs x with
    | true => rfl
    | false =>
      unfold isR at hr
      dsimp only at h
      rw [hr, if_neg (by simp)] at h
      exact absurd rfl h
theorem aim_yes (hn : nd L i = some x) (hr : isR cs x = true) : aimX cs L i = (x.refs.getD 0 0, kd (clAt cs x.c)) := by
  unfold aimX
  rw [hn]
  dsimp only
  rw [if_pos (show isRf (kd (clAt cs x.c)) = true from hr)]
theorem isR_kd (hr : isR cs x = true) : kd (clAt cs x.c) = 3 ∨ kd (clAt cs x.c) = 4 ∨ kd (clAt cs x.c) = 5 := by
  unfold isR at hr
  exact of_decide_eq_true (show decide _ = true from hr)
theorem aim_no (hn : nd L i = some x) (hr : isR cs x = false) : aimX cs L i = (0, 0) := by
  unfold aimX
  rw [hn]
  dsimp only
  unfold isR at hr
  rw [hr, if_neg (by simp)]
theorem rlen (h : x.Ok cs) (hr : isR cs x = true) : 0 < x.refs.length := by
  obtain ⟨c, hc, h1⟩ := h.cl
  refine h1 ?_
  unfold isR at hr
  rw [hc] at hr
  exact hr
theorem s1_map (h : Lok cs L) (i : Int) : s1 cs L i = L.map (clr1 cs fun y => decide (y = i)) := by
  unfold s1
  by_cases hk : (aimX cs L i).2 = 0
  · rw [if_pos hk]
    refine map_self fun x hx => ?_
    unfold clr1
    by_cases hi : x.id = i
    · cases hr : isR cs x with
      | false => simp
      | true =>
        have := aim_yes (cs := cs) (nd_mem h.1 hx) hr
        rw [hi] at this
        rw [this] at hk
        have := isR_kd hr
        dsimp only at hk
        omega
    · simp [hi]
  · rw [if_neg hk]
    obtain ⟨x, hn, hr⟩ := aim_ne hk
    obtain ⟨hx, hid⟩ := nd_some hn
    obtain ⟨-, h2⟩ := srX_ok hn (n := 0) (t := 0) (by have := rlen (h.2 x hx) hr; omega) (by simp)
    have e0 : srL L i 0 0 = updN L i fun x => { x with refs := x.refs.set 0 0 } := h2
    rw [e0]
    unfold updN
    refine List.map_congr_left fun y hy => ?_
    by_cases hi : y.id = i
    · have e : y = x := srt_inj h.1 hy hx (by omega)
      subst e
      unfold clr1
      rw [if_pos hi]
      simp [hi, hr]
    · rw [if_neg hi]
      unfold clr1
      simp [hi]
theorem clr1_ok (e : Int → Bool) (x : Nd) (h : x.Ok cs) : (clr1 cs e x).Ok cs := by
  unfold clr1
  cases (e x.id && isR cs x)
  · exact h
  · exact h.setRef 0 (show (Lit.int .i64 0).wf = true by decide)
theorem clr1_lok (h : Lok cs L) (e : Int → Bool) : Lok cs (L.map (clr1 cs e)) := lok_map h _ (fun _ => rfl) fun x _ hx => clr1_ok e x hx
theorem srs_map (h : Lok cs L) (l : List Int) : srs cs L l = L.map (clr1 cs (hasB l)) := by
  induction l generalizing L with
  | nil => exact map_self fun x hx => rfl
  | cons i l ih =>
    rw [srs_cons, s1_map h, ih (clr1_lok h _), List.map_map]
    refine List.map_congr_left fun x _ => ?_
    show clr1 cs (hasB l) (clr1 cs _ x) = _
    unfold clr1
    have e : hasB (i :: l) x.id = (decide (x.id = i) || hasB l x.id) := by
      unfold hasB
      rw [List.any_cons]
      congr 1
      rw [Bool.eq_iff_iff]
      simp only [decide_eq_true_eq]
      exact eq_comm
    rw [e]
    have e2 : ∀ rs, isR cs { x with refs := rs } = isR cs x := fun _ => rfl
    dsimp only
    rw [e2]
    cases decide (x.id = i) <;> cases hasB l x.id <;> cases isR cs x <;> simp
theorem dn_map (h : Srt L) (i : Int) : dnL L i = L.map (fin1 fun y => decide (y = i)) := by
  unfold dnL dnX
  cases hn : nd L i with
  | none =>
    rw [if_neg (by simp)]
    refine map_self fun x hx => ?_
    have := nd_none hn x hx
    simp [fin1, this]
  | some x =>
    rw [if_pos rfl]
    unfold updN
    refine List.map_congr_left fun y _ => ?_
    by_cases hi : y.id = i
    · simp [fin1, hi]
    · simp [fin1, hi]
theorem fin1_srt (h : Srt L) (g : Int → Bool) : Srt (L.map (fin1 g)) := L9.srt_of_ids h (by rw [List.map_map]; exact List.map_congr_left fun x _ => rfl)
theorem dns_map (h : Srt L) (l : List Int) : dns L l = L.map (fin1 (hasB l)) := by
  induction l generalizing L with
  | nil => exact map_self fun x hx => by simp [fin1, hasB]
  | cons i l ih =>
    show dns (dnL L i) l = _
    rw [dn_map h, ih (fin1_srt h _), List.map_map]
    refine List.map_congr_left fun x _ => ?_
    show fin1 (hasB l) (fin1 _ x) = _
    unfold fin1
    have e : hasB (i :: l) x.id = (decide (x.id = i) || hasB l x.id) := by
      unfold hasB
      rw [List.any_cons]
      congr 1
      rw [Bool.eq_iff_iff]
      simp only [decide_eq_true_eq]
      exact eq_comm
    rw [e]
    dsimp only
    cases decide (x.id = i) <;> cases hasB l x.id <;> cases x.fin <;> simp
end
end Go.Proofs.YtjfpjnhlnoiekaaGreat.L13

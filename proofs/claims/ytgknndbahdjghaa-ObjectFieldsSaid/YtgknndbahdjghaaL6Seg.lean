/- Objects and gaps that are laid side by side from address 1 on, and how they are walked through. Conditions: none; nothing here speaks of the program. -/
import Derived.Test.YtgknndbahdjghaaL6Awake
namespace Go.Proofs.Ytgknndbahdjghaa.L6
open Go.ChangeShapes Go.WideShapes Go.ChangeAt Go.RowKit
open Go.Proofs.Ytgknndbahdjghaa.L1 (Sl Ar ptr exB)
open Go.Proofs.Ytgknndbahdjghaa.L4 (hdV riB wd wdV wdX ofB ofC ofA ofF ofM ofN ofD ofV ofX set6)
open Go.Proofs.Ytgknndbahdjghaa.L5 (Cl clV rtB Tb clAt shX shR shD woV c0 IsCls newX)
set_option linter.unusedVariables false

section
variable {w w' : World} {p tp : Option Addr} {g : Nat} {xs ys : List Int} {cs : List Cl}
/-- How many words an object takes. -/
def obN (c : Cl) (l : Int) : Nat := (2 + shR (some c) l + shD (some c) l).toNat
/-- From 1 on up to an address lie objects and gaps, side by side: the objects' addresses, the last one's words. -/
inductive Sg (xs : List Int) (cs : List Cl) : Nat → List Int → Nat → Prop
  | nil : Sg xs cs 1 [] 0
  | gap (A n : Nat) (l : List Int) (s : Nat) (h : Sg xs cs A l s) (hg : IsGap xs A n) : Sg xs cs (A + n) l n
  | obj (A k : Nat) (c : Cl) (L : Int) (l : List Int) (s : Nat) (h : Sg xs cs A l s) (ho : IsOb xs cs A k c L) : Sg xs cs (A + obN c L) (l ++ [(A : Int)]) (obN c L)
theorem obN_bd {k : Nat} {c : Cl} (hrt : cs.all Cl.rt = true) (hc : cs[k]? = some c) (l : Int) : 2 ≤ obN c l ∧ obN c l ≤ 32 ∧ (obN c l : Int) = 2 + shR (some c) l + shD (some c) l := by
  have := L5.sh_bd (o := some c) (fun c' e => by injection e with e; subst e; exact L5.all_rt hrt hc) l
  unfold obN
  omega
theorem Sg.pos {A s : Nat} {l : List Int} (h : Sg xs cs A l s) : 1 ≤ A := by
  induction h with
  | nil => exact Nat.le_refl _
  | gap A n l s h hg ih => omega
  | obj A k c L l s h ho ih => omega
theorem Sg.same {A s : Nat} {l : List Int} (hrt : cs.all Cl.rt = true) (h : Sg xs cs A l s) (hl : ys.length = xs.length) (he : ∀ j, j < A → ys.getD j 0 = xs.getD j 0) : Sg ys cs A l s := by
  induction h with
  | nil => exact .nil
  | gap A n l s h hg ih => exact .gap A n l s (ih fun j hj => he j (by omega)) (hg.same hl (he A (by have := hg.2.1; omega)) (fun h2 => he (A + 1) (by omega)))
  | obj A k c L l s h ho ih =>
    have := obN_bd hrt ho.1 L
    exact .obj A k c L l s (ih fun j hj => he j (by omega)) (ho.same hl (he A (by omega)) (he (A + 1) (by omega)))
theorem Sg.wk {A s : Nat} {l : List Int} (hrt : cs.all Cl.rt = true) (h : Sg xs cs A l s) (to : Int) (l2 : List Int) (e : Int) (hto : (A : Int) ≤ to) (hw : Wk xs cs to A l2 e) : Wk xs cs to 1 (l ++ l2) e := by
  induction h generalizing l2 with
  | nil => exact hw
  | gap A n l s h hg ih =>
    obtain ⟨g1, g2, g3⟩ := hg.fd (cs := cs)
    have := hg.2.1
    refine ih l2 (by omega) (.gap _ _ _ (by omega) g3 (by rw [g1]; omega) g2 (by rw [g1]; simpa using hw))
  | obj A k c L l s h ho ih =>
    obtain ⟨g1, g2⟩ := ho.fd hrt
    obtain ⟨b1, b2, b3⟩ := obN_bd hrt ho.1 L
    have hw1 : (fdT xs cs A).w = (obN c L : Int) := by rw [g1, b3]; rfl
    have hC : ¬ (fdT xs cs A).C = 0 := by rw [g1]; show ¬ (k : Int) + 1 = 0; omega
    have := ih ((A : Int) :: l2) (by omega) (.obj _ _ _ (by omega) g2 (by rw [hw1]; omega) hC (by rw [hw1]; simpa using hw))
    simpa using this
theorem Sg.whole {A s : Nat} {l : List Int} (hrt : cs.all Cl.rt = true) (h : Sg xs cs A l s) : Wk xs cs A 1 l 0 := by
  have := h.wk hrt A [] 0 (Int.le_refl _) (.done _ (Int.le_refl _))
  simpa using this
/-- The error's number of a walk that ends one word ahead. -/
def shortX (s : Nat) : Int := if 1 < s then 12 else 0
theorem Sg.short {A s : Nat} {l : List Int} (hrt : cs.all Cl.rt = true) (h : Sg xs cs A l s) : ∃ l', Wk xs cs ((A : Int) - 1) 1 l' (shortX s) := by
  cases h with
  | nil => exact ⟨[], .done _ (by decide)⟩
  | gap A _ l s0 h hg =>
    obtain ⟨g1, g2, g3⟩ := hg.fd (cs := cs)
    have hn := hg.2.1
    by_cases h1 : 1 < s
    · refine ⟨_, h.wk hrt _ [] _ (by omega) ?_⟩
      rw [shortX, if_pos h1]
      exact .over _ (by omega) g3 (by rw [g1]; omega)
    · refine ⟨_, h.wk hrt _ [] _ (by omega) ?_⟩
      rw [shortX, if_neg h1]
      exact .done _ (by omega)
  | obj A k c L l s0 h ho =>
    obtain ⟨g1, g2⟩ := ho.fd hrt
    obtain ⟨b1, b2, b3⟩ := obN_bd hrt ho.1 L
    have hw1 : (fdT xs cs A).w = (obN c L : Int) := by rw [g1, b3]; rfl
    refine ⟨_, h.wk hrt _ [] _ (by omega) ?_⟩
    rw [shortX, if_pos (by omega)]
    exact .over _ (by omega) g2 (by rw [hw1]; omega)
/-- Another gap, another object behind them. -/
theorem Sg.addGap {A s n : Nat} {l : List Int} (hrt : cs.all Cl.rt = true) (h : Sg xs cs A l s) (hn : 1 ≤ n) (hl : A + n ≤ xs.length) : Sg (gapL xs A n) cs (A + n) l n := by
  refine .gap A n l s (h.same hrt (gapL_length _ _ _) fun j hj => ?_) (gapL_gap h.pos hn hl)
  rw [gapL_get _ _ _ _ hn hl, if_neg (by omega), if_neg (by omega)]
theorem Sg.addObj {A s k : Nat} {c : Cl} {L : Int} {l : List Int} (hrt : cs.all Cl.rt = true) (h : Sg xs cs A l s) (hc : cs[k]? = some c) (hl : cs.length < 64) (hX : shX (some c) L = 0) (hA : A + obN c L ≤ xs.length) :
    Sg (layL xs A (obN c L) ((k : Int) + 1) L c.f) cs (A + obN c L) (l ++ [(A : Int)]) (obN c L) ∧ IsOb (layL xs A (obN c L) ((k : Int) + 1) L c.f) cs A k c L := by
  obtain ⟨b1, b2, b3⟩ := obN_bd hrt hc L
  have ho := layL_ob (xs := xs) (n := obN c L) hc hl hrt hX b3 h.pos hA
  refine ⟨.obj A k c L l s (h.same hrt (layL_length _ _ _ _ _ _) fun j hj => ?_) ho, ho⟩
  rw [layL_get _ _ _ _ _ _ _ b1 hA, if_neg (by omega), if_neg (by omega), if_neg (by omega)]
theorem gap_is {b a n : Nat} {i m : Int} (h : St w (some ⟨b, 0, none⟩) tp g xs cs) (hi : i = (a : Int)) (hm : m = (n : Int)) (h1 : 1 ≤ a) (hn : 1 ≤ n) (hl : a + n ≤ xs.length) :
    Calls Try.prog 10 #[stV (some ⟨b, 0, none⟩) tp, .int .i64 i, .int .i64 m] w fun e w' => e = .returned (.int .i64 0) ∧ St w' (some ⟨b, 0, none⟩) tp g (gapL xs a n) cs ∧ Chg (· = g) w w' := by
  subst hi hm
  exact gap_ok h h1 hn hl
theorem sameH (C A F : Int) (m f d : Bool) (W : World) : (Op.equalIn 10000 45 (hdV C A F m f d) (hdV C A F m f d)).run Try.prog W = .ok true W := by
  go_simp
end
end Go.Proofs.Ytgknndbahdjghaa.L6

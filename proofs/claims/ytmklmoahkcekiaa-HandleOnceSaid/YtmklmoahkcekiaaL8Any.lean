/- Tables of handles: what New, Get, Set and Drop answer and do, whatever the argument, in one form each; lists of calls that came in. Conditions: a slot was used at most 1000000 times. -/
import Derived.Test.YtmklmoahkcekiaaL8Each
import Derived.Test.YtmklmoahkcekiaaOpen
namespace Go.Proofs.Ytmklmoahkcekiaa.L8
open Go.ChangeShapes Go.WideShapes Go.ChangeAt Go.RowKit
set_option linter.unusedVariables false

theorem first_free (S : Nat → Sl) (n : Nat) : ∃ m, m ≤ n ∧ (∀ j, j < m → (S j).t = true) ∧ (m < n → (S m).t = false) := by
  induction n with
  | zero => exact ⟨0, Nat.le_refl _, fun j hj => absurd hj (by omega), fun h => absurd h (by omega)⟩
  | succ n ih =>
    obtain ⟨m, hm, h1, h2⟩ := ih
    by_cases hmn : m < n
    · exact ⟨m, by omega, h1, fun _ => h2 hmn⟩
    · obtain rfl : m = n := by omega
      cases ht : (S m).t with
      | false => exact ⟨m, by omega, h1, fun _ => ht⟩
      | true =>
        refine ⟨m + 1, by omega, fun j hj => ?_, fun h => absurd h (by omega)⟩
        by_cases hjm : j = m
        · rw [hjm]; exact ht
        · exact h1 j (by omega)
def isNew (S : Nat → Sl) (x a e : Int) (S' : Nat → Sl) : Prop :=
  (∃ m, m < 64 ∧ (∀ j, j < m → (S j).t = true) ∧ (S m).t = false ∧ a = (hd S m : Nat) ∧ e = 0 ∧ S' = upd S m ⟨(S m).e, true, x⟩) ∨ ((∀ j, j < 64 → (S j).t = true) ∧ a = 0 ∧ e = 3 ∧ S' = S)
def isSet (S : Nat → Sl) (x y e : Int) (S' : Nat → Sl) : Prop :=
  (∃ i, Of S i x ∧ e = 0 ∧ S' = upd S i { S i with v := y }) ∨ ((∀ i, ¬ Of S i x) ∧ e = 6 ∧ S' = S)
def isDrop (S : Nat → Sl) (x e : Int) (S' : Nat → Sl) : Prop :=
  (∃ i, Of S i x ∧ e = 0 ∧ S' = upd S i ⟨(S i).e + 1, false, 0⟩) ∨ ((∀ i, ¬ Of S i x) ∧ e = 6 ∧ S' = S)
def isGet (S : Nat → Sl) (x v e : Int) : Prop :=
  (∃ i, Of S i x ∧ e = 0 ∧ v = (S i).v) ∨ ((∀ i, ¬ Of S i x) ∧ e = 6 ∧ v = 0)
theorem all_chg {p : Nat} {w w' : World} (c : Grow w w') : Chg (· = p) w w' := c.mono fun _ _ h => h.elim
section
variable {w : World} {p : Nat} {S : Nat → Sl}
theorem new_any (hB : Bd S 1000000) (x : Int) : ∃ a e S', isNew S x a e S' ∧ ∀ w p, Tb w p S → Calls Try.prog 12 #[ptr p, .int .i64 x] w fun r w' => r = .returned (two a e) ∧ Tb w' p S' ∧ Chg (· = p) w w' := by
  obtain ⟨m, hm, h1, h2⟩ := first_free S 64
  by_cases hlt : m < 64
  · exact ⟨_, _, _, .inl ⟨m, hlt, h1, h2 hlt, rfl, rfl, rfl⟩, fun w p h => new_at h hB m hlt h1 (h2 hlt) x⟩
  · obtain rfl : m = 64 := by omega
    exact ⟨_, _, _, .inr ⟨h1, rfl, rfl, rfl⟩, fun w p h => (new_full h h1 x).mono fun e w' ⟨he, c⟩ => ⟨he, h.grow c, all_chg c⟩⟩
theorem set_any (hB : Bd S 1000000) {x : Int} (hx : (Lit.int .i64 x).wf = true) (y : Int) : ∃ e S', isSet S x y e S' ∧ ∀ w p, Tb w p S → Calls Try.prog 15 #[ptr p, .int .i64 x, .int .i64 y] w fun r w' => r = .returned (.int .i64 e) ∧ Tb w' p S' ∧ Chg (· = p) w w' := by
  by_cases ho : ∃ i, Of S i x
  · obtain ⟨i, ho⟩ := ho
    exact ⟨_, _, .inl ⟨i, ho, rfl, rfl⟩, fun w p h => set_yes h hB ho y⟩
  · have hn : ∀ i, ¬ Of S i x := fun i hi => ho ⟨i, hi⟩
    exact ⟨_, _, .inr ⟨hn, rfl, rfl⟩, fun w p h => (set_no h hB hx hn y).mono fun e w' ⟨he, c⟩ => ⟨he, h.grow c, all_chg c⟩⟩
theorem drop_any (hB : Bd S 1000000) {x : Int} (hx : (Lit.int .i64 x).wf = true) : ∃ e S', isDrop S x e S' ∧ ∀ w p, Tb w p S → Calls Try.prog 16 #[ptr p, .int .i64 x] w fun r w' => r = .returned (.int .i64 e) ∧ Tb w' p S' ∧ Chg (· = p) w w' := by
  by_cases ho : ∃ i, Of S i x
  · obtain ⟨i, ho⟩ := ho
    exact ⟨_, _, .inl ⟨i, ho, rfl, rfl⟩, fun w p h => drop_yes h hB ho⟩
  · have hn : ∀ i, ¬ Of S i x := fun i hi => ho ⟨i, hi⟩
    exact ⟨_, _, .inr ⟨hn, rfl, rfl⟩, fun w p h => (drop_no h hB hx hn).mono fun e w' ⟨he, c⟩ => ⟨he, h.grow c, all_chg c⟩⟩
theorem get_any (hB : Bd S 1000000) {x : Int} (hx : (Lit.int .i64 x).wf = true) : ∃ v e, isGet S x v e ∧ ∀ w p, Tb w p S → Calls Try.prog 14 #[ptr p, .int .i64 x] w fun r w' => r = .returned (two v e) ∧ Grow w w' := by
  by_cases ho : ∃ i, Of S i x
  · obtain ⟨i, ho⟩ := ho
    exact ⟨_, _, .inl ⟨i, ho, rfl, rfl⟩, fun w p h => get_yes h hB ho⟩
  · have hn : ∀ i, ¬ Of S i x := fun i hi => ho ⟨i, hi⟩
    exact ⟨_, _, .inr ⟨hn, rfl, rfl⟩, fun w p h => get_no h hB hx hn⟩
end
theorem isNew.bd {S S' : Nat → Sl} {x a e : Int} {n : Nat} (h : isNew S x a e S') (hB : Bd S n) : Bd S' n := by
  rcases h with ⟨m, hm, _, _, _, _, rfl⟩ | ⟨_, _, _, rfl⟩
  · exact hB.upd (hB m hm)
  · exact hB
theorem isSet.bd {S S' : Nat → Sl} {x y e : Int} {n : Nat} (h : isSet S x y e S') (hB : Bd S n) : Bd S' n := by
  rcases h with ⟨i, ho, _, rfl⟩ | ⟨_, _, rfl⟩
  · exact hB.upd (hB i ho.1)
  · exact hB
theorem isDrop.bd {S S' : Nat → Sl} {x e : Int} {n : Nat} (h : isDrop S x e S') (hB : Bd S n) : Bd S' (n + 1) := by
  rcases h with ⟨i, ho, _, rfl⟩ | ⟨_, _, rfl⟩
  · exact (hB.mono (Nat.le_succ n)).upd (by have := hB i ho.1; simp; omega)
  · exact hB.mono (Nat.le_succ n)
/-- What a slot that is taken keeps. -/
theorem isNew.keeps {S S' : Nat → Sl} {x a e : Int} {i : Nat} (h : isNew S x a e S') (ht : (S i).t = true) : S' i = S i := by
  rcases h with ⟨m, hm, _, hf, _, _, rfl⟩ | ⟨_, _, _, rfl⟩
  · exact upd_ne S _ (by rintro rfl; rw [hf] at ht; cases ht)
  · rfl
theorem isSet.keeps {S S' : Nat → Sl} {x y e z : Int} {i : Nat} (h : isSet S x y e S') (ho : Of S i z) (hz : z ≠ x) : S' i = S i := by
  rcases h with ⟨j, hj, _, rfl⟩ | ⟨_, _, rfl⟩
  · exact upd_ne S _ (by rintro rfl; exact hz (ho.2.2.trans hj.2.2.symm))
  · rfl
theorem isDrop.keeps {S S' : Nat → Sl} {x e z : Int} {i : Nat} (h : isDrop S x e S') (ho : Of S i z) (hz : z ≠ x) : S' i = S i := by
  rcases h with ⟨j, hj, _, rfl⟩ | ⟨_, _, rfl⟩
  · exact upd_ne S _ (by rintro rfl; exact hz (ho.2.2.trans hj.2.2.symm))
  · rfl
theorem Of.same {S S' : Nat → Sl} {i : Nat} {z : Int} (ho : Of S i z) (h : S' i = S i) : Of S' i z := by
  refine ⟨ho.1, by rw [h]; exact ho.2.1, ?_⟩
  have := ho.2.2
  unfold hd at this ⊢
  rw [h]
  exact this

/-- A list of calls that came in. -/
abbrev IsOps (w : World) (a : Option Addr) (len cap : Nat) (rows : List (List Value)) : Prop := IsRecs [some .i64, some .i64, some .i64, none] w a len cap rows
theorem IsOps.one {w : World} {a : Option Addr} {len cap : Nat} {rows : List (List Value)} (h : IsOps w a len cap rows) {i : Nat} (hi : i < len) :
    ∃ b off K H X o, a = some ⟨b, off, none⟩ ∧ (w.cell? ⟨b, off + i * 4, none⟩ = some (.int .i64 K) ∧ w.cell? ⟨b, off + i * 4 + 1, none⟩ = some (.int .i64 H) ∧ w.cell? ⟨b, off + i * 4 + 2, none⟩ = some (.int .i64 X) ∧ w.cell? ⟨b, off + i * 4 + 3, none⟩ = some (.bool o)) ∧
      (Lit.int .i64 K).wf = true ∧ (Lit.int .i64 H).wf = true ∧ (Lit.int .i64 X).wf = true := by
  obtain ⟨b, off, e, hc, hf⟩ := h.at_ hi
  obtain ⟨K, r1, e1, w1, hf⟩ := fits_int hf
  obtain ⟨H, r2, e2, w2, hf⟩ := fits_int hf
  obtain ⟨X, r3, e3, w3, hf⟩ := fits_int hf
  obtain ⟨o, r4, e4, hf⟩ := fits_bool hf
  rw [e1, e2, e3, e4] at hc
  exact ⟨b, off, K, H, X, o, e, ⟨hc 0 _ rfl, hc 1 _ rfl, hc 2 _ rfl, hc 3 _ rfl⟩, w1, w2, w3⟩
theorem open_ops {H : Type} {enc : TypeId × Value → H} {w : World} {base : Nat} {held : Bool} {r : Reach} {b0 : Nat} {v : Value} {d : DataW H} {p : List MemPlace}
    (hv : Value.okWide Try.prog w r b0 22 v) (h : DataW.Trod enc Try.prog w base (fun _ => true) held 22 v d p) : ∃ a len cap rows, v = .slice a len cap ∧ IsOps w a len cap rows :=
  open_recs _ Try.underlying22 Try.underlying36 (by kernel_rfl) (by kernel_rfl) (by kernel_rfl) (by decide) hv h
end Go.Proofs.Ytmklmoahkcekiaa.L8

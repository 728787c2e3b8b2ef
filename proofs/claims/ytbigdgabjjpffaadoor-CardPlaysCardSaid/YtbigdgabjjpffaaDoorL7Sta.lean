/- What stands while all dirty cards are taken: the table, the lists that were made, and the list of bools. Conditions: as in the texts before. -/
import Derived.Test.YtbigdgabjjpffaaDoorL7Nth
namespace Go.Proofs.YtbigdgabjjpffaaDoor.L7
open Go.ChangeShapes Go.WideShapes Go.ChangeAt Go.RowKit
open Go.Proofs.YtbigdgabjjpffaaDoor.L3
set_option linter.unusedVariables false

/-- A list that reads as xs, in no block of G. -/
def Ro (w : World) (a : Option Addr) (n : Nat) (xs : List Int) (G : Nat → Prop) : Prop := L1.Rd w a n xs ∧ (0 < n → ∀ x : Addr, a = some x → ¬ G x.block)
theorem Ro.chg {w w' : World} {a : Option Addr} {n : Nat} {xs : List Int} {G C : Nat → Prop} (h : Ro w a n xs G) (c : Chg C w w') (hC : ∀ i, C i → G i) : Ro w' a n xs G := by
  obtain ⟨⟨h1, h2⟩, h3⟩ := h
  refine ⟨⟨h1, fun hn => ?_⟩, h3⟩
  obtain ⟨x, rfl, hx⟩ := h2 hn
  exact ⟨x, rfl, fun i hi => c.cell (hx i hi) (by rw [add_block]; exact fun hc => h3 hn x rfl (hC _ hc))⟩
theorem Ro.of_own {w : World} {base : Nat} {a : Option Addr} {n c : Nat} {xs : List Int} {G : Nat → Prop} (h : w.ownsRow base 3 1 (.slice a n c) n (ints xs)) (hG : ∀ i, G i → i < base ∨ w.heap.size ≤ i) : Ro w a n xs G := by
  refine ⟨own_rd h, fun hn x e hg => ?_⟩
  obtain ⟨g, cap, e', h1, h2, _⟩ := own_ints h hn
  injection e' with e1 e2 e3
  rw [e] at e1
  injection e1 with e1
  subst e1
  rcases hG _ hg with h | h
  · exact absurd h1 (by show ¬ base ≤ g; exact Nat.not_le.2 h)
  · exact absurd h2 (by show ¬ g < _; exact Nat.not_lt.2 h)
theorem Ro.at_ {w : World} {a : Option Addr} {n : Nat} {xs : List Int} {G : Nat → Prop} (h : Ro w a n xs G) {i : Nat} (hi : i < n) : ∃ x : Addr, a = some x ∧ w.cell? (x.add i) = some (.int .i64 (xs.getD i 0)) := h.1.at_ hi

/-- Bools as cells. -/
def bls (bs : List Bool) : List Value := bs.map Value.bool
theorem bls_get (bs : List Bool) (i : Nat) (h : i < bs.length) : (bls bs)[i]? = some (.bool (bs.getD i false)) := by simp [bls, h]
theorem bls_set (bs : List Bool) (i : Nat) (b : Bool) : (bls bs).set i (.bool b) = bls (bs.set i b) := by simp [bls, List.map_set]
theorem Tryd.infoBool : (Tryd.prog.info? 4).map (fun i => (i.zero, i.size, i.bytes)) = some (some (.bool false), 1, 1) := by kernel_rfl
/-- make([]bool, x). -/
theorem mk_bools (x : Nat) (h1 : x ≤ 1099511627776) (W : World) :
    (Instr.makeSlice 41 (.int .i64 (x : Int)) (.int .i64 (x : Int))).run Tryd.prog W = .ok (.slice (some ⟨W.heap.size, 0, none⟩) x x) (W.alloc (.cells (bls (List.replicate x false)).toArray 4)) := by
  obtain ⟨i, hi, hz, hs, hb⟩ := info_parts Tryd.infoBool
  rw [run_make (P := Tryd.prog) W 41 4 i _ Tryd.underlying41 hi hz .i64 .i64 (x : Int) (x : Int) (by omega) (Int.le_refl _) (by rw [hb]; omega) (by omega)]
  have e : madeCells (Value.bool false).cells ((x : Int).toNat * i.size) = (bls (List.replicate x false)).toArray := by
    apply Array.ext'
    rw [hs, Nat.mul_one]
    show (madeCells #[.bool false] x).toList = _
    rw [toList_madeCells_one]
    simp [bls]
  rw [e]
  rfl

/-- What stands between two takes. -/
structure Sta (w0 w : World) (p m g F T : Nat) (U : Nat → Bool) (oa : Option Addr) (M : Nat) (xs : List Int) (va : Option Addr) (L : Nat) (l : List Int) (H : Nat) (bs : List Bool) : Prop where
  ct : Ct w p m g F T U
  ro : Ro w oa M xs (fun i => i = g ∨ i = H)
  rv : Ro w va L l (fun i => i = g ∨ i = H)
  hb : Blk w H 4 (bls bs)
  pH : p ≠ H
  mH : m ≠ H
  gH : g ≠ H
  newg : w0.heap.size ≤ g
  newH : w0.heap.size ≤ H
  cc : Grow w0 w
section
variable {w0 w w' : World} {p m g F T : Nat} {U V : Nat → Bool} {oa va : Option Addr} {M L H : Nat} {xs l : List Int} {bs : List Bool}
theorem Sta.grow (s : Sta w0 w p m g F T U oa M xs va L l H bs) (c : Grow w w') : Sta w0 w' p m g F T U oa M xs va L l H bs :=
  ⟨s.ct.grow c, s.ro.chg c fun _ h => h.elim, s.rv.chg c fun _ h => h.elim, s.hb.chg c id, s.pH, s.mH, s.gH, s.newg, s.newH, s.cc.trans c⟩
theorem Sta.set (s : Sta w0 w p m g F T U oa M xs va L l H bs) (h : Ct w' p m g F T V) (c : Chg (· = g) w w') : Sta w0 w' p m g F T V oa M xs va L l H bs :=
  ⟨h, s.ro.chg c fun _ h => .inl h, s.rv.chg c fun _ h => .inl h, s.hb.chg c s.gH.symm, s.pH, s.mH, s.gH, s.newg, s.newH, s.cc.new s.newg c⟩
theorem Sta.put (s : Sta w0 w p m g F T U oa M xs va L l H bs) (i : Nat) (b : Bool) : Sta w0 (w.setCell ⟨H, i, none⟩ (.bool b)) p m g F T U oa M xs va L l H (bs.set i b) := by
  have c : Chg (· = H) w (w.setCell ⟨H, i, none⟩ (.bool b)) := (Chg.refl _ w).set1 i _
  exact ⟨s.ct.chg c s.pH s.mH s.gH, s.ro.chg c fun _ h => .inr h, s.rv.chg c fun _ h => .inr h, by rw [← bls_set]; exact s.hb.set_ i _, s.pH, s.mH, s.gH, s.newg, s.newH, s.cc.new s.newH c⟩
end

/-- Of the first k addresses those that the table has. -/
def xsOf (F T : Nat) (z : Nat → Int) : Nat → List Int
  | 0 => []
  | k + 1 => xsOf F T z k ++ if inn F T (z k) then [z k] else []
theorem xsOf_len (F T : Nat) (z : Nat → Int) (k : Nat) : (xsOf F T z k).length ≤ k := by
  induction k with
  | zero => exact Nat.le_refl _
  | succ k ih => rw [xsOf, List.length_append]; split <;> simp <;> omega
theorem xsOf_at {F T : Nat} {z : Nat → Int} (k : Nat) : ∀ i, i < (xsOf F T z k).length → ∃ j, j < k ∧ inn F T (z j) = true ∧ (xsOf F T z k).getD i 0 = z j := by
  induction k with
  | zero => intro i h; exact absurd h (Nat.not_lt_zero _)
  | succ k ih =>
    intro i h
    by_cases e : i < (xsOf F T z k).length
    · obtain ⟨j, h1, h2, h3⟩ := ih i e
      exact ⟨j, by omega, h2, by rw [xsOf, List.getD_eq_getElem?_getD, List.getElem?_append_left e, ← List.getD_eq_getElem?_getD]; exact h3⟩
    · rw [xsOf, List.length_append] at h
      cases hi : inn F T (z k) with
      | false => rw [hi] at h; simp at h; omega
      | true =>
        rw [hi] at h
        simp at h
        refine ⟨k, by omega, hi, ?_⟩
        rw [xsOf, hi, List.getD_eq_getElem?_getD, List.getElem?_append_right (by omega), show i - (xsOf F T z k).length = 0 by omega]
        rfl
theorem xsOf_in {F T : Nat} {z : Nat → Int} {k i : Nat} (h : i < (xsOf F T z k).length) : inn F T ((xsOf F T z k).getD i 0) = true ∧ tos F T z k (cd F ((xsOf F T z k).getD i 0)) = true := by
  obtain ⟨j, h1, h2, h3⟩ := xsOf_at k i h
  rw [h3]
  exact ⟨h2, tos_iff.2 ⟨j, h1, h2, rfl⟩⟩
/-- Is an address in the stretch of a card? -/
theorem in_card {F T c : Nat} {x : Int} (hx : inn F T x = true) : (((F + 16 * c : Nat) : Int) ≤ x ∧ x < (min (F + 16 * c + 16) T : Nat)) ↔ cd F x = c := by
  simp only [inn, decide_eq_true_eq] at hx
  unfold cd
  constructor
  · rintro ⟨h1, h2⟩; omega
  · intro h; constructor <;> omega
theorem law_inn {f t z : Int} (h0 : 0 ≤ f) (h1 : 0 ≤ t) : inn (clamp f) (tob f t) z = (decide (f ≤ z) && decide (z < min t 4096)) := by
  rw [← Bool.decide_and]
  unfold inn tob clamp
  exact decide_eq_decide.2 (by constructor <;> rintro ⟨a, b⟩ <;> constructor <;> omega)
/-- What the take behind j takes tells. -/
def Nx (S : Nat → Bool) (F T L j : Nat) (x y : Nat) (ok : Bool) : Prop :=
  (j < L ∧ ok = true ∧ ∃ c, c < nc F T ∧ S c = true ∧ cnt S c = j ∧ x = F + 16 * c ∧ y = min (x + 16) T) ∨ (j = L ∧ ok = false ∧ x = 0 ∧ y = 0)
theorem suf_gone {S : Nat → Bool} {n j : Nat} (ht : ∀ c, S c = true → c < n) (hj : cnt S n ≤ j) : suf S j = no := by
  funext c
  unfold suf
  cases h : S c with
  | false => rfl
  | true => rw [decide_eq_false (by have := cnt_lt (ht c h) h; omega)]; rfl
theorem tk_any {w0 w : World} {p m g F T : Nat} {S : Nat → Bool} {oa va : Option Addr} {M L H j : Nat} {xs l : List Int} {bs : List Bool} (s : Sta w0 w p m g F T (suf S j) oa M xs va L l H bs) (ht : Tab w) (hj : j ≤ L) (hL : cnt S (nc F T) = L) (hS : ∀ c, S c = true → c < nc F T) :
    Calls Tryd.prog 16 #[ptr p] w fun e w' => ∃ (x y : Nat) (ok : Bool), e = .returned (.tuple #[.int .i64 x, .int .i64 y, .bool ok]) ∧ Nx S F T L j x y ok ∧ Sta w0 w' p m g F T (suf S (j + 1)) oa M xs va L l H bs := by
  by_cases h : j < L
  · obtain ⟨c, h1, h2, h3⟩ := nth S (nc F T) j (by rw [hL]; exact h)
    refine (tb_take1 s.ct ht h1 (suf_at h2 h3) (fun k hk => suf_below h2 h3 hk) rfl rfl).mono ?_
    rintro e w' ⟨rfl, h', c'⟩
    exact ⟨_, _, _, rfl, .inl ⟨h, rfl, c, h1, h2, h3, rfl, rfl⟩, s.set (h'.at_ (suf_step h2 h3).symm) c'⟩
  · obtain rfl : j = L := by omega
    have e1 : suf S j = no := suf_gone hS (by omega)
    have e2 : suf S (j + 1) = suf S j := by rw [e1]; exact suf_gone hS (by omega)
    refine (tb_take0 s.ct ht (fun k _ => by rw [e1])).mono ?_
    rintro e w' ⟨rfl, c'⟩
    rw [e2]
    exact ⟨0, 0, false, rfl, .inr ⟨rfl, rfl, rfl, rfl⟩, s.grow c'⟩
theorem cds_no (f n : Nat) : cds no f n = [] := cds_upto (j := 0) (Nat.zero_le _) fun _ _ _ => rfl
end Go.Proofs.YtbigdgabjjpffaaDoor.L7

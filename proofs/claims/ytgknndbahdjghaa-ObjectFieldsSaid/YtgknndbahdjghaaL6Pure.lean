/- What stands at an address, by the words there: an object that is laid, a gap; and what other stores leave of it. Conditions: none; nothing here speaks of the program. -/
import Derived.Test.YtgknndbahdjghaaL6Field
import Derived.Test.YtgknndbahdjghaaL6Lay
import Derived.Test.YtgknndbahdjghaaL6Walk
namespace Go.Proofs.Ytgknndbahdjghaa.L6
open Go.ChangeShapes Go.WideShapes Go.ChangeAt Go.RowKit
open Go.Proofs.Ytgknndbahdjghaa.L1 (Sl Ar ptr exB)
open Go.Proofs.Ytgknndbahdjghaa.L4 (hdV riB wd wdV wdX ofB ofC ofA ofF ofM ofN ofD ofV ofX set6)
open Go.Proofs.Ytgknndbahdjghaa.L5 (Cl clV rtB Tb clAt shX shR shD woV c0 IsCls newX)
set_option linter.unusedVariables false

section
variable {w w' : World} {p tp : Option Addr} {g : Nat} {xs ys : List Int} {cs : List Cl}
theorem getD_set (xs : List Int) (i j : Nat) (v : Int) (h : i < xs.length) : (xs.set i v).getD j 0 = if j = i then v else xs.getD j 0 := by
  simp only [List.getD_eq_getElem?_getD, List.getElem?_set]
  by_cases e : i = j
  · subst e; simp [h]
  · simp [e, Ne.symm e]
theorem fill_get (xs : List Int) (a : Nat) (v : Int) (m j : Nat) (h : a + m ≤ xs.length) : (L1.fillTo xs a v m).getD j 0 = if a ≤ j ∧ j < a + m then v else xs.getD j 0 := by
  induction m with
  | zero => rw [L1.fillTo, if_neg (by omega)]
  | succ m ih =>
    rw [L1.fillTo, getD_set _ _ _ _ (by rw [L1.fillTo_length]; omega), ih (by omega)]
    by_cases e : j = a + m
    · rw [if_pos e, if_pos (by omega)]
    · rw [if_neg e]
      by_cases h' : a ≤ j ∧ j < a + m
      · rw [if_pos h', if_pos (by omega)]
      · rw [if_neg h', if_neg (by omega)]
theorem layL_length (xs : List Int) (a n : Nat) (C l : Int) (f : Bool) : (layL xs a n C l f).length = xs.length := by simp [layL, L1.fillTo_length]
theorem gapL_length (xs : List Int) (a n : Nat) : (gapL xs a n).length = xs.length := by unfold gapL; split <;> simp
theorem layL_get (xs : List Int) (a n : Nat) (C l : Int) (f : Bool) (j : Nat) (hn : 2 ≤ n) (h : a + n ≤ xs.length) :
    (layL xs a n C l f).getD j 0 = if j = a + 1 then l else if j = a then C + L4.b2i 2048 f else if a ≤ j ∧ j < a + n then 0 else xs.getD j 0 := by
  rw [layL, getD_set _ _ _ _ (by rw [List.length_set, L1.fillTo_length]; omega), getD_set _ _ _ _ (by rw [L1.fillTo_length]; omega), fill_get _ _ _ _ _ h]
theorem gapL_get (xs : List Int) (a n : Nat) (j : Nat) (hn : 1 ≤ n) (h : a + n ≤ xs.length) :
    (gapL xs a n).getD j 0 = if j = a then (if n = 1 then 1024 else 0) else if j = a + 1 ∧ 2 ≤ n then (n : Int) else xs.getD j 0 := by
  unfold gapL
  by_cases h1 : n = 1
  · rw [if_pos h1, if_pos h1, getD_set _ _ _ _ (by omega)]
    by_cases e : j = a
    · rw [if_pos e, if_pos e]
    · rw [if_neg e, if_neg e, if_neg (by omega)]
  · rw [if_neg h1, if_neg h1, getD_set _ _ _ _ (by rw [List.length_set]; omega), getD_set _ _ _ _ (by omega)]
    by_cases e : j = a
    · rw [if_pos e, if_pos e, if_neg (by omega)]
    · rw [if_neg e, if_neg e]
      by_cases e2 : j = a + 1
      · rw [if_pos e2, if_pos (by omega)]
      · rw [if_neg e2, if_neg (by omega)]

/-- An object of the class of number k + 1 (its cells: c) and of this length is laid at an address. -/
def IsOb (xs : List Int) (cs : List Cl) (a k : Nat) (c : Cl) (l : Int) : Prop :=
  cs[k]? = some c ∧ cs.length < 64 ∧ xs.getD a 0 = (k : Int) + 1 + L4.b2i 2048 c.f ∧ xs.getD (a + 1) 0 = l ∧ 1 ≤ a ∧ shX (some c) l = 0 ∧ (a : Int) + 2 + shR (some c) l + shD (some c) l ≤ xs.length
def obV (k : Nat) (c : Cl) (l : Int) : Th := ⟨(k : Int) + 1, 0, 0, false, c.f, false, 2 + shR (some c) l + shD (some c) l, shR (some c) l, shD (some c) l⟩
theorem IsOb.same {a k : Nat} {c : Cl} {l : Int} (h : IsOb xs cs a k c l) (hl : ys.length = xs.length) (h0 : ys.getD a 0 = xs.getD a 0) (h1 : ys.getD (a + 1) 0 = xs.getD (a + 1) 0) : IsOb ys cs a k c l := by
  obtain ⟨e1, e2, e3, e4, e5, e6, e7⟩ := h
  exact ⟨e1, e2, h0.trans e3, h1.trans e4, e5, e6, by rw [hl]; exact e7⟩
theorem of_lay (C : Int) (h1 : 1 ≤ C) (h2 : C ≤ 63) (f : Bool) : ofB (C + L4.b2i 2048 f) = true ∧ ofC (C + L4.b2i 2048 f) = C ∧ ofA (C + L4.b2i 2048 f) = 0 ∧ ofF (C + L4.b2i 2048 f) = 0 ∧ ofM (C + L4.b2i 2048 f) = false ∧ ofN (C + L4.b2i 2048 f) = f ∧ ofD (C + L4.b2i 2048 f) = false := by
  obtain ⟨n, hn⟩ : ∃ n, C + L4.b2i 2048 f = n := ⟨_, rfl⟩
  have hN : n = C ∨ n = C + 2048 := by cases f <;> simp [L4.b2i] at hn <;> omega
  have b0 : n % 64 = C := by omega
  have b1 : n / 64 % 16 = 0 := by omega
  have b2 : n / 8192 = 0 := by omega
  have b3 : L4.bitB n 1024 = false := by simp [L4.bitB]; omega
  have b4 : L4.bitB n 2048 = f := by cases f <;> simp [L4.b2i] at hn <;> simp [L4.bitB] <;> omega
  have b5 : L4.bitB n 4096 = false := by simp [L4.bitB]; omega
  have hB : ofB n = true := by
    unfold ofB
    rw [b0, b1, b2, b4, b5]
    exact L4.ri_mk (by omega) (by omega) (by decide) (by decide) (by decide) (by decide) (by simp)
  rw [hn]
  refine ⟨hB, ?_, ?_, ?_, ?_, ?_, ?_⟩ <;> simp [ofC, ofA, ofF, ofM, ofN, ofD, hB, b0, b1, b2, b3, b4, b5]
theorem IsOb.fd {a k : Nat} {c : Cl} {l : Int} (hrt : cs.all Cl.rt = true) (h : IsOb xs cs a k c l) : fdT xs cs a = obV k c l ∧ fdX xs cs a = 0 := by
  obtain ⟨hc, hl, e3, e4, e5, e6, e7⟩ := h
  have hk : k < cs.length := (List.getElem?_eq_some_iff.1 hc).1
  obtain ⟨o1, o2, o3, o4, o5, o6, o7⟩ := of_lay ((k : Int) + 1) (by omega) (by omega) c.f
  have hcl := L5.clAt_at hc
  have hbd := L5.sh_bd (o := some c) (fun c' e => by injection e with e; subst e; exact L5.all_rt hrt hc) l
  have g0 : gw xs a = (k : Int) + 1 + L4.b2i 2048 c.f := by rw [gw, Int.toNat_natCast]; exact e3
  have g1 : gw xs ((a : Int) + 1) = l := by rw [gw, show ((a : Int) + 1).toNat = a + 1 by omega]; exact e4
  have hC : ¬ ((k : Int) + 1) = 0 := by omega
  have hT : woT xs cs a = obV k c l := by
    unfold woT
    rw [g0, o2, o3, o4, o5, o6, o7, (me_obj (by omega) hC).1, g1, hcl]
    rfl
  have hb : meB xs cs a (ofC (gw xs a)) (ofM (gw xs a)) = true := by
    rw [g0, o2, o5, (me_obj (A := 0) (F := 0) (f := false) (d := false) (by omega) hC).2, g1, hcl, e6]
    rfl
  rw [← hT]
  exact fd_yes (by simp [oxB]; omega) (by rw [g0]; exact o1) hb (by rw [hT]; exact decide_eq_true (show 1 ≤ (a : Int) ∧ 2 + shR (some c) l + shD (some c) l ≤ (xs.length : Int) - a by omega))
theorem IsOb.ob {a k : Nat} {c : Cl} {l : Int} (hrt : cs.all Cl.rt = true) (h : IsOb xs cs a k c l) : obT xs cs a = obV k c l ∧ obX xs cs a = 0 := by
  obtain ⟨h1, h2⟩ := h.fd hrt
  have := ob_yes (xs := xs) (cs := cs) (i := a) h2 (by rw [h1]; show ¬ (k : Int) + 1 = 0; omega)
  exact ⟨this.1.trans h1, this.2⟩
/-- Where a field of it stands. -/
theorem IsOb.sl {a k : Nat} {c : Cl} {l : Int} (hrt : cs.all Cl.rt = true) (h : IsOb xs cs a k c l) (j : Int) (num : Bool) :
    slX xs cs a j num = plX (if num then shD (some c) l else shR (some c) l) j ∧ (slX xs cs a j num = 0 → slP xs cs a j num = (if num then (a : Int) + 2 + shR (some c) l else (a : Int) + 2) + j) := by
  obtain ⟨e1, e2⟩ := h.ob hrt
  have hx : slX xs cs a j num = plX (if num then shD (some c) l else shR (some c) l) j := by
    rw [(sl_yes e2).1, e1]; rfl
  refine ⟨hx, fun h0 => ?_⟩
  rw [(sl_bd hrt h0).1, e1]
  rfl
theorem layL_ob {a n k : Nat} {c : Cl} {l : Int} (hc : cs[k]? = some c) (hl : cs.length < 64) (hrt : cs.all Cl.rt = true) (hX : shX (some c) l = 0) (hn : (n : Int) = 2 + shR (some c) l + shD (some c) l) (h1 : 1 ≤ a) (h : a + n ≤ xs.length) :
    IsOb (layL xs a n ((k : Int) + 1) l c.f) cs a k c l := by
  have hbd := L5.sh_bd (o := some c) (fun c' e => by injection e with e; subst e; exact L5.all_rt hrt hc) l
  refine ⟨hc, hl, ?_, ?_, h1, hX, by rw [layL_length]; omega⟩
  · rw [layL_get _ _ _ _ _ _ _ (by omega) h, if_neg (by omega), if_pos rfl]
  · rw [layL_get _ _ _ _ _ _ _ (by omega) h, if_pos rfl]

/-- A gap of so many words is laid at an address. -/
def IsGap (xs : List Int) (a n : Nat) : Prop := 1 ≤ a ∧ 1 ≤ n ∧ a + n ≤ xs.length ∧ xs.getD a 0 = (if n = 1 then 1024 else 0) ∧ (2 ≤ n → xs.getD (a + 1) 0 = n)
theorem IsGap.same {a n : Nat} (h : IsGap xs a n) (hl : ys.length = xs.length) (h0 : ys.getD a 0 = xs.getD a 0) (h1 : 2 ≤ n → ys.getD (a + 1) 0 = xs.getD (a + 1) 0) : IsGap ys a n := by
  obtain ⟨e1, e2, e3, e4, e5⟩ := h
  exact ⟨e1, e2, by rw [hl]; exact e3, h0.trans e4, fun hn => (h1 hn).trans (e5 hn)⟩
theorem gapL_gap {a n : Nat} (h1 : 1 ≤ a) (hn : 1 ≤ n) (h : a + n ≤ xs.length) : IsGap (gapL xs a n) a n := by
  refine ⟨h1, hn, by rw [gapL_length]; exact h, ?_, fun h2 => ?_⟩
  · rw [gapL_get _ _ _ _ hn h, if_pos rfl]
  · rw [gapL_get _ _ _ _ hn h, if_neg (by omega), if_pos ⟨rfl, h2⟩]
theorem of_1024 : ofC 1024 = 0 ∧ ofA 1024 = 0 ∧ ofF 1024 = 0 ∧ ofM 1024 = true ∧ ofN 1024 = false ∧ ofD 1024 = false := by decide
theorem of_0 : ofC 0 = 0 ∧ ofA 0 = 0 ∧ ofF 0 = 0 ∧ ofM 0 = false ∧ ofN 0 = false ∧ ofD 0 = false := by decide
theorem IsGap.fd {a n : Nat} (h : IsGap xs a n) : (fdT xs cs a).w = n ∧ (fdT xs cs a).C = 0 ∧ fdX xs cs a = 0 := by
  obtain ⟨e1, e2, e3, e4, e5⟩ := h
  have g0 : gw xs a = if n = 1 then 1024 else 0 := by rw [gw, Int.toNat_natCast]; exact e4
  by_cases h1 : n = 1
  · subst h1
    rw [if_pos rfl] at g0
    have hT : woT xs cs a = ⟨0, 0, 0, true, false, false, 1, 0, 0⟩ := by
      unfold woT
      rw [g0, (me_single (xs := xs) (cs := cs) ⟨by decide, by decide⟩).1, of_1024.1, of_1024.2.1, of_1024.2.2.1, of_1024.2.2.2.1, of_1024.2.2.2.2.1, of_1024.2.2.2.2.2]
    have hb : meB xs cs a (ofC (gw xs a)) (ofM (gw xs a)) = true := by
      rw [g0]
      exact (me_single (xs := xs) (cs := cs) (A := 0) (F := 0) (f := false) (d := false) ⟨by decide, by decide⟩).2
    obtain ⟨f1, f2⟩ := fd_yes (cs := cs) (show oxB xs.length a 1 = true by simp [oxB]; omega) (by rw [g0]; decide) hb (by rw [hT]; exact decide_eq_true (by dsimp only; omega))
    rw [f1, hT]
    exact ⟨rfl, rfl, f2⟩
  · rw [if_neg h1] at g0
    have g1 : gw xs ((a : Int) + 1) = n := by rw [gw, show ((a : Int) + 1).toNat = a + 1 by omega]; exact e5 (by omega)
    have hT : woT xs cs a = ⟨0, 0, 0, false, false, false, n, 0, 0⟩ := by
      unfold woT
      rw [g0, (me_gap (xs := xs) (cs := cs) (by decide) (by omega) (by decide)).1, g1, of_0.1, of_0.2.1, of_0.2.2.1, of_0.2.2.2.1, of_0.2.2.2.2.1, of_0.2.2.2.2.2]
    have hb : meB xs cs a (ofC (gw xs a)) (ofM (gw xs a)) = true := by
      rw [g0, (me_gap (xs := xs) (cs := cs) (A := 0) (F := 0) (f := false) (d := false) (by decide) (by omega) (by decide)).2, g1]
      simp; omega
    obtain ⟨f1, f2⟩ := fd_yes (cs := cs) (show oxB xs.length a 1 = true by simp [oxB]; omega) (by rw [g0]; decide) hb (by rw [hT]; exact decide_eq_true (by dsimp only; omega))
    rw [f1, hT]
    exact ⟨rfl, rfl, f2⟩
theorem IsGap.ob {a n : Nat} (h : IsGap xs a n) : obT xs cs a = th0 ∧ obX xs cs a = 5 := ob_gap h.fd.2.2 h.fd.2.1
/-- Of a nil store. -/
theorem fd_nil (i : Int) : fdT [] cs i = th0 ∧ fdX [] cs i = 2 := fd_no1 (by simp [oxB]; omega)
theorem ob_nil (i : Int) : obT [] cs i = th0 ∧ obX [] cs i = 2 := by
  have := ob_no (xs := []) (cs := cs) (i := i) (by rw [(fd_nil i).2]; decide)
  exact ⟨this.1, this.2.trans (fd_nil i).2⟩
theorem sl_nil (i k : Int) (num : Bool) : slX [] cs i k num = 2 := by
  rw [(sl_no (by rw [(ob_nil i).2]; decide)).1, (ob_nil i).2]
theorem walk_ok {i to : Int} {l : List Int} (h : St w p tp g xs cs) (h1 : i ≤ 9223372036854775807) (h2 : to ≤ 9223372036854775807) (hw : Wk xs cs to i l 0) :
    Calls Try.prog 15 #[stV p tp, .int .i64 i, .int .i64 to] w fun en w' => ∃ a cap, en = .returned (.tuple #[.slice a l.length cap, .int .i64 0]) ∧ w'.ownsRow w.heap.size 3 1 (.slice a l.length cap) l.length (ints l) ∧ Grow w w' :=
  (walk_any h i to l 0 h1 h2 hw).mono fun e w' ⟨hc, hp⟩ => by
    rcases hp with ⟨_, v, he, ho⟩ | ⟨hn, _⟩
    · obtain ⟨a, cap, rfl⟩ := own_len ho
      exact ⟨a, cap, he, ho, hc⟩
    · exact absurd rfl hn
theorem walk_no {i to X : Int} {l : List Int} (h : St w p tp g xs cs) (h1 : i ≤ 9223372036854775807) (h2 : to ≤ 9223372036854775807) (hw : Wk xs cs to i l X) (hX : ¬ X = 0) :
    Calls Try.prog 15 #[stV p tp, .int .i64 i, .int .i64 to] w fun en w' => en = .returned (.tuple #[.slice none 0 0, .int .i64 X]) ∧ Grow w w' :=
  (walk_any h i to l X h1 h2 hw).mono fun e w' ⟨hc, hp⟩ => by
    rcases hp with ⟨hn, _⟩ | ⟨_, he⟩
    · exact absurd hn hX
    · exact ⟨he, hc⟩
theorem IsOb.rd {a k : Nat} {c : Cl} {l : Int} (hrt : cs.all Cl.rt = true) (h : IsOb xs cs a k c l) (j : Nat) (num : Bool) (hj : (j : Int) < if num then shD (some c) l else shR (some c) l) :
    slX xs cs a j num = 0 ∧ slV xs cs a j num = xs.getD ((if num then a + 2 + (shR (some c) l).toNat else a + 2) + j) 0 := by
  obtain ⟨h1, h2⟩ := h.sl hrt j num
  have hx : slX xs cs a j num = 0 := by rw [h1, plX, if_pos ⟨by omega, hj⟩]
  have hbd := L5.sh_bd (o := some c) (fun c' e => by injection e with e; subst e; exact L5.all_rt hrt h.1) l
  refine ⟨hx, ?_⟩
  rw [slV, if_pos hx, h2 hx, gw]
  congr 1
  cases num
  · simp only [Bool.false_eq_true, if_false]; omega
  · simp only [if_true]; omega
theorem awords_is {b a m : Nat} {i n : Int} (h : St w (some ⟨b, 0, none⟩) tp g xs cs) (hi : i = (a : Int)) (hn : n = (m : Int)) (hk : a + m ≤ xs.length) :
    Calls Try.prog 17 #[.pointer (some ⟨b, 0, none⟩), .int .i64 i, .int .i64 n] w fun e w' => ∃ z, e = .returned (.tuple #[.slice (some ⟨z, 0, none⟩) m m, .int .i64 0]) ∧ Blk w' z 3 (ints ((xs.drop a).take m)) ∧ Grow w w' := by
  subst hi hn
  exact (L1.words_ok b g xs a m w h.open_ h.n hk).mono fun e w' ⟨he, hb, hc⟩ => ⟨_, he, hb, hc⟩
theorem cut_same {a b m : Nat} (h : ∀ j, j < m → xs.getD (a + j) 0 = ys.getD (b + j) 0) (h1 : a + m ≤ xs.length) (h2 : b + m ≤ ys.length) : (xs.drop a).take m = (ys.drop b).take m := by
  apply List.ext_getElem?
  intro j
  simp only [List.getElem?_take, List.getElem?_drop]
  by_cases hj : j < m
  · rw [if_pos hj, if_pos hj]
    have := h j hj
    rw [List.getD_eq_getElem?_getD, List.getD_eq_getElem?_getD, List.getElem?_eq_getElem (by omega), List.getElem?_eq_getElem (by omega)] at this
    rw [List.getElem?_eq_getElem (by omega), List.getElem?_eq_getElem (by omega)]
    simpa using this
  · rw [if_neg hj, if_neg hj]
theorem rshape_is {a : Option Addr} {len cap : Nat} {n l R D X : Int} (h : IsCls w a len cap cs) (hall : cs.all Cl.rt = true) (hR : shR (clAt cs n) l = R) (hD : shD (clAt cs n) l = D) (hX : shX (clAt cs n) l = X) :
    Calls Try.prog 11 #[.slice a len cap, .int .i64 n, .int .i64 l] w fun e w' => e = .returned (.tuple #[.int .i64 R, .int .i64 D, .int .i64 X]) ∧ Grow w w' := by
  have h' := L5.rshape_any h hall l n
  rwa [hR, hD, hX] at h'
end
end Go.Proofs.Ytgknndbahdjghaa.L6

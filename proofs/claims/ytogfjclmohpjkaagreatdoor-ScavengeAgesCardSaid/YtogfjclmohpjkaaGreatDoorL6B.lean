/- What stands at an address, by the words there: an object that is laid, a gap; and what other stores leave of it. Conditions: none; nothing here speaks of the program. -/
import Derived.Test.YtogfjclmohpjkaaGreatDoorL6A
namespace Go.Proofs.YtogfjclmohpjkaaGreatDoor.L6
open Go.ChangeShapes Go.WideShapes Go.ChangeAt Go.RowKit
open Go.Proofs.YtogfjclmohpjkaaGreatDoor.L1 (Sl Ar ptr exB)
open Go.Proofs.YtogfjclmohpjkaaGreatDoor.L4 (hdV riB wd wdV wdX ofB ofC ofA ofF ofM ofN ofD ofV ofX set6)
open Go.Proofs.YtogfjclmohpjkaaGreatDoor.L5 (Cl clV rtB Tb clAt shX shR shD woV c0 IsCls newX)
set_option linter.unusedVariables false
set_option maxRecDepth 100000

section
variable {w w' : World} {p tp : Option Addr} {g : Nat} {xs ys : List Int} {cs : List Cl}
theorem getD_set (xs : List Int) (i j : Nat) (v : Int) (h : i < xs.length) : (xs.set i v).getD j 0 = if j = i then v else xs.getD j 0 := by
  simp only [List.getD_eq_getElem?_getD, List.getElem?_set]
  by_cases e : i = j
  · subst e; simp [h]
  · simp [e, Ne.symm e]
theorem fill_get (xs : List Int) (a : Nat) (v : Int) (m j : Nat) (h : a + m ≤ xs.length) : (L1.fillTo xs a v m).getD j 0 = if a ≤ j ∧ j < a + m then v else xs.getD j 0 := by
  induction m with
  | zero => rw [L1.fillTo, if_neg (by omega)]
  | succ m ih =>
    rw [L1.fillTo, getD_set _ _ _ _ (by rw [L1.fillTo_length]; omega), ih (by omega)]
    by_cases e : j = a + m
    · rw [if_pos e, if_pos (by omega)]
    · rw [if_neg e]
      by_cases h' : a ≤ j ∧ j < a + m
      · rw [if_pos h', if_pos (by omega)]
      · rw [if_neg h', if_neg (by omega)]
theorem layL_length (xs : List Int) (a n : Nat) (C l : Int) (f : Bool) : (layL xs a n C l f).length = xs.length := by simp [layL, L1.fillTo_length]
theorem gapL_length (xs : List Int) (a n : Nat) : (gapL xs a n).length = xs.length := by unfold gapL; split <;> simp
theorem layL_get (xs : List Int) (a n : Nat) (C l : Int) (f : Bool) (j : Nat) (hn : 2 ≤ n) (h : a + n ≤ xs.length) :
    (layL xs a n C l f).getD j 0 = if j = a + 1 then l else if j = a then C + L4.b2i 2048 f else if a ≤ j ∧ j < a + n then 0 else xs.getD j 0 := by
  rw [layL, getD_set _ _ _ _ (by rw [List.length_set, L1.fillTo_length]; omega), getD_set _ _ _ _ (by rw [L1.fillTo_length]; omega), fill_get _ _ _ _ _ h]
theorem gapL_get (xs : List Int) (a n : Nat) (j : Nat) (hn : 1 ≤ n) (h : a + n ≤ xs.length) :
    (gapL xs a n).getD j 0 = if j = a then (if n = 1 then 1024 else 0) else if j = a + 1 ∧ 2 ≤ n then (n : Int) else xs.getD j 0 := by
  unfold gapL
  by_cases h1 : n = 1
  · rw [if_pos h1, if_pos h1, getD_set _ _ _ _ (by omega)]
    by_cases e : j = a
    · rw [if_pos e, if_pos e]
    · rw [if_neg e, if_neg e, if_neg (by omega)]
  · rw [if_neg h1, if_neg h1, getD_set _ _ _ _ (by rw [List.length_set]; omega), getD_set _ _ _ _ (by omega)]
    by_cases e : j = a
    · rw [if_pos e, if_pos e, if_neg (by omega)]
    · rw [if_neg e, if_neg e]
      by_cases e2 : j = a + 1
      · rw [if_pos e2, if_pos (by omega)]
      · rw [if_neg e2, if_neg (by omega)]

/-- An object of the class of number k + 1 (its cells: c) and of this length is laid at an address. -/
def IsOb (xs : List Int) (cs : List Cl) (a k : Nat) (c : Cl) (l : Int) : Prop :=
  cs[k]? = some c ∧ cs.length < 64 ∧ xs.getD a 0 = (k : Int) + 1 + L4.b2i 2048 c.f ∧ xs.getD (a + 1) 0 = l ∧ 1 ≤ a ∧ shX (some c) l = 0 ∧ (a : Int) + 2 + shR (some c) l + shD (some c) l ≤ xs.length
def obV (k : Nat) (c : Cl) (l : Int) : Th := ⟨(k : Int) + 1, 0, 0, false, c.f, false, 2 + shR (some c) l + shD (some c) l, shR (some c) l, shD (some c) l⟩
theorem IsOb.same {a k : Nat} {c : Cl} {l : Int} (h : IsOb xs cs a k c l) (hl : ys.length = xs.length) (h0 : ys.getD a 0 = xs.getD a 0) (h1 : ys.getD (a + 1) 0 = xs.getD (a + 1) 0) : IsOb ys cs a k c l := by
  obtain ⟨e1, e2, e3, e4, e5, e6, e7⟩ := h
  exact ⟨e1, e2, h0.trans e3, h1.trans e4, e5, e6, by rw [hl]; exact e7⟩
theorem of_lay (C : Int) (h1 : 1 ≤ C) (h2 : C ≤ 63) (f : Bool) : ofB (C + L4.b2i 2048 f) = true ∧ ofC (C + L4.b2i 2048 f) = C ∧ ofA (C + L4.b2i 2048 f) = 0 ∧ ofF (C + L4.b2i 2048 f) = 0 ∧ ofM (C + L4.b2i 2048 f) = false ∧ ofN (C + L4.b2i 2048 f) = f ∧ ofD (C + L4.b2i 2048 f) = false := by
  obtain ⟨n, hn⟩ : ∃ n, C + L4.b2i 2048 f = n := ⟨_, rfl⟩
  have hN : n = C ∨ n = C + 2048 := by cases f <;> simp [L4.b2i] at hn <;> omega
  have b0 : n % 64 = C := by omega
  have b1 : n / 64 % 16 = 0 := by omega
  have b2 : n / 8192 = 0 := by omega
  have b3 : L4.bitB n 1024 = false := by simp [L4.bitB]; omega
  have b4 : L4.bitB n 2048 = f := by cases f <;> simp [L4.b2i] at hn <;> simp [L4.bitB] <;> omega
  have b5 : L4.bitB n 4096 = false := by simp [L4.bitB]; omega
  have hB : ofB n = true := by
    unfold ofB
    rw [b0, b1, b2, b4, b5]
    exact L4.ri_mk (by omega) (by omega) (by decide) (by decide) (by decide) (by decide) (by simp)
  rw [hn]
  refine ⟨hB, ?_, ?_, ?_, ?_, ?_, ?_⟩ <;> simp [ofC, ofA, ofF, ofM, ofN, ofD, hB, b0, b1, b2, b3, b4, b5]
theorem IsOb.fd {a k : Nat} {c : Cl} {l : Int} (hrt : cs.all Cl.rt = true) (h : IsOb xs cs a k c l) : fdT xs cs a = obV k c l ∧ fdX xs cs a = 0 := by
  obtain ⟨hc, hl, e3, e4, e5, e6, e7⟩ := h
  have hk : k < cs.length := (List.getElem?_eq_some_iff.1 hc).1
  obtain ⟨o1, o2, o3, o4, o5, o6, o7⟩ := of_lay ((k : Int) + 1) (by omega) (by omega) c.f
  have hcl := L5.clAt_at hc
  have hbd := L5.sh_bd (o := some c) (fun c' e => by injection e with e; subst e; exact L5.all_rt hrt hc) l
  have g0 : gw xs a = (k : Int) + 1 + L4.b2i 2048 c.f := by rw [gw, Int.toNat_natCast]; exact e3
  have g1 : gw xs ((a : Int) + 1) = l := by rw [gw, show ((a : Int) + 1).toNat = a + 1 by omega]; exact e4
  have hC : ¬ ((k : Int) + 1) = 0 := by omega
  have hT : woT xs cs a = obV k c l := by
    unfold woT
    rw [g0, o2, o3, o4, o5, o6, o7, (me_obj (by omega) hC).1, g1, hcl]
    rfl
  have hb : meB xs cs a (ofC (gw xs a)) (ofM (gw xs a)) = true := by
    rw [g0, o2, o5, (me_obj (A := 0) (F := 0) (f := false) (d := false) (by omega) hC).2, g1, hcl, e6]
    rfl
  rw [← hT]
  exact fd_yes (by simp [oxB]; omega) (by rw [g0]; exact o1) hb (by rw [hT]; exact decide_eq_true (show 1 ≤ (a : Int) ∧ 2 + shR (some c) l + shD (some c) l ≤ (xs.length : Int) - a by omega))
theorem IsOb.ob {a k : Nat} {c : Cl} {l : Int} (hrt : cs.all Cl.rt = true) (h : IsOb xs cs a k c l) : obT xs cs a = obV k c l ∧ obX xs cs a = 0 := by
  obtain ⟨h1, h2⟩ := h.fd hrt
  have := ob_yes (xs := xs) (cs := cs) (i := a) h2 (by rw [h1]; show ¬ (k : Int) + 1 = 0; omega)
  exact ⟨this.1.trans h1, this.2⟩
/-- Where a field of it stands. -/
theorem IsOb.sl {a k : Nat} {c : Cl} {l : Int} (hrt : cs.all Cl.rt = true) (h : IsOb xs cs a k c l) (j : Int) (num : Bool) :
    slX xs cs a j num = plX (if num then shD (some c) l else shR (some c) l) j ∧ (slX xs cs a j num = 0 → slP xs cs a j num = (if num then (a : Int) + 2 + shR (some c) l else (a : Int) + 2) + j) := by
  obtain ⟨e1, e2⟩ := h.ob hrt
  have hx : slX xs cs a j num = plX (if num then shD (some c) l else shR (some c) l) j := by
    rw [(sl_yes e2).1, e1]; rfl
  refine ⟨hx, fun h0 => ?_⟩
  rw [(sl_bd hrt h0).1, e1]
  rfl
theorem layL_ob {a n k : Nat} {c : Cl} {l : Int} (hc : cs[k]? = some c) (hl : cs.length < 64) (hrt : cs.all Cl.rt = true) (hX : shX (some c) l = 0) (hn : (n : Int) = 2 + shR (some c) l + shD (some c) l) (h1 : 1 ≤ a) (h : a + n ≤ xs.length) :
    IsOb (layL xs a n ((k : Int) + 1) l c.f) cs a k c l := by
  have hbd := L5.sh_bd (o := some c) (fun c' e => by injection e with e; subst e; exact L5.all_rt hrt hc) l
  refine ⟨hc, hl, ?_, ?_, h1, hX, by rw [layL_length]; omega⟩
  · rw [layL_get _ _ _ _ _ _ _ (by omega) h, if_neg (by omega), if_pos rfl]
  · rw [layL_get _ _ _ _ _ _ _ (by omega) h, if_pos rfl]

/-- A gap of so many words is laid at an address. -/
def IsGap (xs : List Int) (a n : Nat) : Prop := 1 ≤ a ∧ 1 ≤ n ∧ a + n ≤ xs.length ∧ xs.getD a 0 = (if n = 1 then 1024 else 0) ∧ (2 ≤ n → xs.getD (a + 1) 0 = n)
theorem IsGap.same {a n : Nat} (h : IsGap xs a n) (hl : ys.length = xs.length) (h0 : ys.getD a 0 = xs.getD a 0) (h1 : 2 ≤ n → ys.getD (a + 1) 0 = xs.getD (a + 1) 0) : IsGap ys a n := by
  obtain ⟨e1, e2, e3, e4, e5⟩ := h
  exact ⟨e1, e2, by rw [hl]; exact e3, h0.trans e4, fun hn => (h1 hn).trans (e5 hn)⟩
theorem gapL_gap {a n : Nat} (h1 : 1 ≤ a) (hn : 1 ≤ n) (h : a + n ≤ xs.length) : IsGap (gapL xs a n) a n := by
  refine ⟨h1, hn, by rw [gapL_length]; exact h, ?_, fun h2 => ?_⟩
  · rw [gapL_get _ _ _ _ hn h, if_pos rfl]
  · rw [gapL_get _ _ _ _ hn h, if_neg (by omega), if_pos ⟨rfl, h2⟩]
theorem of_1024 : ofC 1024 = 0 ∧ ofA 1024 = 0 ∧ ofF 1024 = 0 ∧ ofM 1024 = true ∧ ofN 1024 = false ∧ ofD 1024 = false := by decide
theorem of_0 : ofC 0 = 0 ∧ ofA 0 = 0 ∧ ofF 0 = 0 ∧ ofM 0 = false ∧ ofN 0 = false ∧ ofD 0 = false := by decide
theorem IsGap.fd {a n : Nat} (h : IsGap xs a n) : (fdT xs cs a).w = n ∧ (fdT xs cs a).C = 0 ∧ fdX xs cs a = 0 := by
  obtain ⟨e1, e2, e3, e4, e5⟩ := h
  have g0 : gw xs a = if n = 1 then 1024 else 0 := by rw [gw, Int.toNat_natCast]; exact e4
  by_cases h1 : n = 1
  · subst h1
    rw [if_pos rfl] at g0
    have hT : woT xs cs a = ⟨0, 0, 0, true, false, false, 1, 0, 0⟩ := by
      unfold woT
      rw [g0, (me_single (xs := xs) (cs := cs) ⟨by decide, by decide⟩).1, of_1024.1, of_1024.2.1, of_1024.2.2.1, of_1024.2.2.2.1, of_1024.2.2.2.2.1, of_1024.2.2.2.2.2]
    have hb : meB xs cs a (ofC (gw xs a)) (ofM (gw xs a)) = true := by
      rw [g0]
      exact (me_single (xs := xs) (cs := cs) (A := 0) (F := 0) (f := false) (d := false) ⟨by decide, by decide⟩).2
    obtain ⟨f1, f2⟩ := fd_yes (cs := cs) (show oxB xs.length a 1 = true by simp [oxB]; omega) (by rw [g0]; decide) hb (by rw [hT]; exact decide_eq_true (by dsimp only; omega))
    rw [f1, hT]
    exact ⟨rfl, rfl, f2⟩
  · rw [if_neg h1] at g0
    have g1 : gw xs ((a : Int) + 1) = n := by rw [gw, show ((a : Int) + 1).toNat = a + 1 by omega]; exact e5 (by omega)
    have hT : woT xs cs a = ⟨0, 0, 0, false, false, false, n, 0, 0⟩ := by
      unfold woT
      rw [g0, (me_gap (xs := xs) (cs := cs) (by decide) (by omega) (by decide)).1, g1, of_0.1, of_0.2.1, of_0.2.2.1, of_0.2.2.2.1, of_0.2.2.2.2.1, of_0.2.2.2.2.2]
    have hb : meB xs cs a (ofC (gw xs a)) (ofM (gw xs a)) = true := by
      rw [g0, (me_gap (xs := xs) (cs := cs) (A := 0) (F := 0) (f := false) (d := false) (by decide) (by omega) (by decide)).2, g1]
      simp; omega
    obtain ⟨f1, f2⟩ := fd_yes (cs := cs) (show oxB xs.length a 1 = true by simp [oxB]; omega) (by rw [g0]; decide) hb (by rw [hT]; exact decide_eq_true (by dsimp only; omega))
    rw [f1, hT]
    exact ⟨rfl, rfl, f2⟩
theorem IsGap.ob {a n : Nat} (h : IsGap xs a n) : obT xs cs a = th0 ∧ obX xs cs a = 5 := ob_gap h.fd.2.2 h.fd.2.1
/-- Of a nil store. -/
theorem fd_nil (i : Int) : fdT [] cs i = th0 ∧ fdX [] cs i = 2 := fd_no1 (by simp [oxB]; omega)
theorem ob_nil (i : Int) : obT [] cs i = th0 ∧ obX [] cs i = 2 := by
  have := ob_no (xs := []) (cs := cs) (i := i) (by rw [(fd_nil i).2]; decide)
  exact ⟨this.1, this.2.trans (fd_nil i).2⟩
theorem sl_nil (i k : Int) (num : Bool) : slX [] cs i k num = 2 := by
  rw [(sl_no (by rw [(ob_nil i).2]; decide)).1, (ob_nil i).2]
theorem walk_ok {i to : Int} {l : List Int} (h : St w p tp g xs cs) (h1 : i ≤ 9223372036854775807) (h2 : to ≤ 9223372036854775807) (hw : Wk xs cs to i l 0) :
    Calls Tryz.prog 22 #[stV p tp, .int .i64 i, .int .i64 to] w fun en w' => ∃ a cap, en = .returned (.tuple #[.slice a l.length cap, .int .i64 0]) ∧ w'.ownsRow w.heap.size 3 1 (.slice a l.length cap) l.length (ints l) ∧ Grow w w' :=
  (walk_any h i to l 0 h1 h2 hw).mono fun e w' ⟨hc, hp⟩ => by
    rcases hp with ⟨_, v, he, ho⟩ | ⟨hn, _⟩
    · obtain ⟨a, cap, rfl⟩ := own_len ho
      exact ⟨a, cap, he, ho, hc⟩
    · exact absurd rfl hn
theorem walk_no {i to X : Int} {l : List Int} (h : St w p tp g xs cs) (h1 : i ≤ 9223372036854775807) (h2 : to ≤ 9223372036854775807) (hw : Wk xs cs to i l X) (hX : ¬ X = 0) :
    Calls Tryz.prog 22 #[stV p tp, .int .i64 i, .int .i64 to] w fun en w' => en = .returned (.tuple #[.slice none 0 0, .int .i64 X]) ∧ Grow w w' :=
  (walk_any h i to l X h1 h2 hw).mono fun e w' ⟨hc, hp⟩ => by
    rcases hp with ⟨hn, _⟩ | ⟨_, he⟩
    · exact absurd hn hX
    · exact ⟨he, hc⟩
theorem IsOb.rd {a k : Nat} {c : Cl} {l : Int} (hrt : cs.all Cl.rt = true) (h : IsOb xs cs a k c l) (j : Nat) (num : Bool) (hj : (j : Int) < if num then shD (some c) l else shR (some c) l) :
    slX xs cs a j num = 0 ∧ slV xs cs a j num = xs.getD ((if num then a + 2 + (shR (some c) l).toNat else a + 2) + j) 0 := by
  obtain ⟨h1, h2⟩ := h.sl hrt j num
  have hx : slX xs cs a j num = 0 := by rw [h1, plX, if_pos ⟨by omega, hj⟩]
  have hbd := L5.sh_bd (o := some c) (fun c' e => by injection e with e; subst e; exact L5.all_rt hrt h.1) l
  refine ⟨hx, ?_⟩
  rw [slV, if_pos hx, h2 hx, gw]
  congr 1
  cases num
  · simp only [Bool.false_eq_true, if_false]; omega
  · simp only [if_true]; omega
theorem awords_is {b a m : Nat} {i n : Int} (h : St w (some ⟨b, 0, none⟩) tp g xs cs) (hi : i = (a : Int)) (hn : n = (m : Int)) (hk : a + m ≤ xs.length) :
    Calls Tryz.prog 25 #[.pointer (some ⟨b, 0, none⟩), .int .i64 i, .int .i64 n] w fun e w' => ∃ z, e = .returned (.tuple #[.slice (some ⟨z, 0, none⟩) m m, .int .i64 0]) ∧ Blk w' z 3 (ints ((xs.drop a).take m)) ∧ Grow w w' := by
  subst hi hn
  exact (L1.words_ok b g xs a m w h.open_ h.n hk).mono fun e w' ⟨he, hb, hc⟩ => ⟨_, he, hb, hc⟩
theorem cut_same {a b m : Nat} (h : ∀ j, j < m → xs.getD (a + j) 0 = ys.getD (b + j) 0) (h1 : a + m ≤ xs.length) (h2 : b + m ≤ ys.length) : (xs.drop a).take m = (ys.drop b).take m := by
  apply List.ext_getElem?
  intro j
  simp only [List.getElem?_take, List.getElem?_drop]
  by_cases hj : j < m
  · rw [if_pos hj, if_pos hj]
    have := h j hj
    rw [List.getD_eq_getElem?_getD, List.getD_eq_getElem?_getD, List.getElem?_eq_getElem (by omega), List.getElem?_eq_getElem (by omega)] at this
    rw [List.getElem?_eq_getElem (by omega), List.getElem?_eq_getElem (by omega)]
    simpa using this
  · rw [if_neg hj, if_neg hj]
theorem rshape_is {a : Option Addr} {len cap : Nat} {n l R D X : Int} (h : IsCls w a len cap cs) (hall : cs.all Cl.rt = true) (hR : shR (clAt cs n) l = R) (hD : shD (clAt cs n) l = D) (hX : shX (clAt cs n) l = X) :
    Calls Tryz.prog 61 #[.slice a len cap, .int .i64 n, .int .i64 l] w fun e w' => e = .returned (.tuple #[.int .i64 R, .int .i64 D, .int .i64 X]) ∧ Grow w w' := by
  have h' := L5.rshape_any h hall l n
  rwa [hR, hD, hX] at h'
end
end Go.Proofs.YtogfjclmohpjkaaGreatDoor.L6
/- A new store; that the program is awake; the two stores of the statements. Conditions: none. -/
namespace Go.Proofs.YtogfjclmohpjkaaGreatDoor.L6
open Go.ChangeShapes Go.WideShapes Go.ChangeAt Go.RowKit
open Go.Proofs.YtogfjclmohpjkaaGreatDoor.L1 (Sl Ar ptr exB)
open Go.Proofs.YtogfjclmohpjkaaGreatDoor.L4 (hdV riB wd wdV wdX ofB ofC ofA ofF ofM ofN ofD ofV ofX set6)
open Go.Proofs.YtogfjclmohpjkaaGreatDoor.L5 (Cl clV rtB Tb clAt shX shR shD woV c0 IsCls newX)
set_option linter.unusedVariables false
set_option maxRecDepth 100000

section
variable {w w' : World} {p tp : Option Addr} {g : Nat} {xs ys : List Int} {cs : List Cl}
theorem tb_ne {base : Nat} {v : Value} (ht : Tb w base tp v cs) : ¬ v.ownBlock = some w.heap.size ∧ ¬ tp = some ⟨w.heap.size, 0, none⟩ := by
  refine ⟨fun e => ?_, ?_⟩
  · have := (ht.1.lt _ e).2; omega
  · rintro rfl
    rcases ht.2 with ⟨e, _⟩ | ⟨k, e, _, hk⟩
    · cases e
    · injection e with e; injection e with e; have := hk.lt; omega
theorem st_mk {b base : Nat} {v : Value} (ht : Tb w base tp v cs) (ha : Ar w b g xs) (hne : ¬ v.ownBlock = some g ∧ ¬ tp = some ⟨g, 0, none⟩) (hn : xs.length ≤ 4096) (h1 : cs.length ≤ 100) (h2 : cs.all Cl.rt = true) :
    St w (some ⟨b, 0, none⟩) tp g xs cs := ⟨.inr ⟨_, rfl, ha⟩, ⟨base, v, ht, hne.1, hne.2⟩, hn, h1, h2⟩
theorem st_new {w1 w2 : World} {base : Nat} {v : Value} (ht : Tb w1 base tp v cs) (ha : Ar w2 (w1.heap.size + 1) w1.heap.size xs) (c : Grow w1 w2) (hn : xs.length ≤ 4096) (hX : newX cs = 0) :
    St w2 (some ⟨w1.heap.size + 1, 0, none⟩) tp w1.heap.size xs cs := by
  obtain ⟨h1, h2⟩ := L5.new_zero hX
  refine ⟨.inr ⟨_, rfl, ha⟩, ⟨base, v, ht.grow c, fun e => ?_, ?_⟩, hn, by omega, h1⟩
  · have := (ht.1.lt _ e).2; omega
  · rintro rfl
    rcases ht.2 with ⟨e, _⟩ | ⟨k, e, _, hk⟩
    · cases e
    · injection e with e; injection e with e; have := hk.lt; omega
section
variable {t : TypeId} {a b a' b' : Value}
theorem _root_.Go.Proofs.YtogfjclmohpjkaaGreatDoor.Blk.put2 (h : Blk w g t [a', b']) (a b : Value) : Blk ((w.setCell ⟨g, 0, none⟩ a).setCell ⟨g, 1, none⟩ b) g t [a, b] := (h.set_ 0 a).set_ 1 b
theorem _root_.Go.Proofs.YtogfjclmohpjkaaGreatDoor.Blk.far2 {q : Nat} {cs : List Value} (h : Blk w g t cs) (hq : ¬ g = q) (a b : Value) : Blk ((w.setCell ⟨q, 0, none⟩ a).setCell ⟨q, 1, none⟩ b) g t cs := (h.far (p := ⟨q, 0, none⟩) hq a).far (p := ⟨q, 1, none⟩) hq b
theorem _root_.Go.Proofs.YtogfjclmohpjkaaGreatDoor.Fresh.put2 (h : Fresh w g) (k : Grow w w') (a b : Value) : Grow w ((w'.setCell ⟨g, 0, none⟩ a).setCell ⟨g, 1, none⟩ b) := h.put (h.put k 0 a) 1 b
theorem _root_.Go.Proofs.YtogfjclmohpjkaaGreatDoor.Blk.frozen2 {cs : List Value} (h : Blk w g t cs) : w.frozen? ⟨g, 0, none⟩ = false ∧ w.frozen? ⟨g, 1, none⟩ = false := ⟨h.frozen 0, h.frozen 1⟩
end
set_option maxHeartbeats 400000 in
theorem on_any (p tp : Option Addr) (w : World) :
    Calls Tryz.prog 30 #[.pointer p, .pointer tp] w fun e w' => e = .returned (stV p tp) ∧ Grow w w' := by
  go_enter Tryz.func30, Tryz.ntmps30
  go_wp2
  refine bodyPost_ret (v := stV p tp) (by simp [results, Tryz.results30, go_sem]) rfl ?_
  exact ⟨rfl, Grow.box _ _⟩
theorem St.lt {b : Nat} (h : St w (some ⟨b, 0, none⟩) tp g xs cs) : g < w.heap.size := h.open_.2.lt
theorem chg_new {w1 w2 : World} (cc : Grow w w1) (c : Chg (· = g) w1 w2) (hg : w.heap.size ≤ g) : Grow w w2 := cc.step c fun i hi e => by omega
theorem rnew_is {a : Option Addr} {len cap : Nat} {X : Int} (w : World) (h : IsCls w a len cap cs) (hl : len ≤ 100) (hX : newX cs = X) :
    Calls Tryz.prog 26 #[.slice a len cap] w fun e w' => e = .returned (.int .i64 X) ∧ Grow w w' := by
  have h' := L5.rnew_any a len cap cs w h hl
  rwa [hX] at h'
end
end Go.Proofs.YtogfjclmohpjkaaGreatDoor.L6
/- Objects and gaps that are laid side by side from address 1 on, and how they are walked through. Conditions: none; nothing here speaks of the program. -/
namespace Go.Proofs.YtogfjclmohpjkaaGreatDoor.L6
open Go.ChangeShapes Go.WideShapes Go.ChangeAt Go.RowKit
open Go.Proofs.YtogfjclmohpjkaaGreatDoor.L1 (Sl Ar ptr exB)
open Go.Proofs.YtogfjclmohpjkaaGreatDoor.L4 (hdV riB wd wdV wdX ofB ofC ofA ofF ofM ofN ofD ofV ofX set6)
open Go.Proofs.YtogfjclmohpjkaaGreatDoor.L5 (Cl clV rtB Tb clAt shX shR shD woV c0 IsCls newX)
set_option linter.unusedVariables false
set_option maxRecDepth 100000

section
variable {w w' : World} {p tp : Option Addr} {g : Nat} {xs ys : List Int} {cs : List Cl}
/-- How many words an object takes. -/
def obN (c : Cl) (l : Int) : Nat := (2 + shR (some c) l + shD (some c) l).toNat
/-- From 1 on up to an address lie objects and gaps, side by side: the objects' addresses, the last one's words. -/
inductive Sg (xs : List Int) (cs : List Cl) : Nat → List Int → Nat → Prop
  | nil : Sg xs cs 1 [] 0
  | gap (A n : Nat) (l : List Int) (s : Nat) (h : Sg xs cs A l s) (hg : IsGap xs A n) : Sg xs cs (A + n) l n
  | obj (A k : Nat) (c : Cl) (L : Int) (l : List Int) (s : Nat) (h : Sg xs cs A l s) (ho : IsOb xs cs A k c L) : Sg xs cs (A + obN c L) (l ++ [(A : Int)]) (obN c L)
theorem obN_bd {k : Nat} {c : Cl} (hrt : cs.all Cl.rt = true) (hc : cs[k]? = some c) (l : Int) : 2 ≤ obN c l ∧ obN c l ≤ 32 ∧ (obN c l : Int) = 2 + shR (some c) l + shD (some c) l := by
  have := L5.sh_bd (o := some c) (fun c' e => by injection e with e; subst e; exact L5.all_rt hrt hc) l
  unfold obN
  omega
theorem Sg.pos {A s : Nat} {l : List Int} (h : Sg xs cs A l s) : 1 ≤ A := by
  induction h with
  | nil => exact Nat.le_refl _
  | gap A n l s h hg ih => omega
  | obj A k c L l s h ho ih => omega
theorem Sg.same {A s : Nat} {l : List Int} (hrt : cs.all Cl.rt = true) (h : Sg xs cs A l s) (hl : ys.length = xs.length) (he : ∀ j, j < A → ys.getD j 0 = xs.getD j 0) : Sg ys cs A l s := by
  induction h with
  | nil => exact .nil
  | gap A n l s h hg ih => exact .gap A n l s (ih fun j hj => he j (by omega)) (hg.same hl (he A (by have := hg.2.1; omega)) (fun h2 => he (A + 1) (by omega)))
  | obj A k c L l s h ho ih =>
    have := obN_bd hrt ho.1 L
    exact .obj A k c L l s (ih fun j hj => he j (by omega)) (ho.same hl (he A (by omega)) (he (A + 1) (by omega)))
theorem Sg.wk {A s : Nat} {l : List Int} (hrt : cs.all Cl.rt = true) (h : Sg xs cs A l s) (to : Int) (l2 : List Int) (e : Int) (hto : (A : Int) ≤ to) (hw : Wk xs cs to A l2 e) : Wk xs cs to 1 (l ++ l2) e := by
  induction h generalizing l2 with
  | nil => exact hw
  | gap A n l s h hg ih =>
    obtain ⟨g1, g2, g3⟩ := hg.fd (cs := cs)
    have := hg.2.1
    refine ih l2 (by omega) (.gap _ _ _ (by omega) g3 (by rw [g1]; omega) g2 (by rw [g1]; simpa using hw))
  | obj A k c L l s h ho ih =>
    obtain ⟨g1, g2⟩ := ho.fd hrt
    obtain ⟨b1, b2, b3⟩ := obN_bd hrt ho.1 L
    have hw1 : (fdT xs cs A).w = (obN c L : Int) := by rw [g1, b3]; rfl
    have hC : ¬ (fdT xs cs A).C = 0 := by rw [g1]; show ¬ (k : Int) + 1 = 0; omega
    have := ih ((A : Int) :: l2) (by omega) (.obj _ _ _ (by omega) g2 (by rw [hw1]; omega) hC (by rw [hw1]; simpa using hw))
    simpa using this
theorem Sg.whole {A s : Nat} {l : List Int} (hrt : cs.all Cl.rt = true) (h : Sg xs cs A l s) : Wk xs cs A 1 l 0 := by
  have := h.wk hrt A [] 0 (Int.le_refl _) (.done _ (Int.le_refl _))
  simpa using this
/-- The error's number of a walk that ends one word ahead. -/
def shortX (s : Nat) : Int := if 1 < s then 12 else 0
theorem Sg.short {A s : Nat} {l : List Int} (hrt : cs.all Cl.rt = true) (h : Sg xs cs A l s) : ∃ l', Wk xs cs ((A : Int) - 1) 1 l' (shortX s) := by
  cases h with
  | nil => exact ⟨[], .done _ (by decide)⟩
  | gap A _ l s0 h hg =>
    obtain ⟨g1, g2, g3⟩ := hg.fd (cs := cs)
    have hn := hg.2.1
    by_cases h1 : 1 < s
    · refine ⟨_, h.wk hrt _ [] _ (by omega) ?_⟩
      rw [shortX, if_pos h1]
      exact .over _ (by omega) g3 (by rw [g1]; omega)
    · refine ⟨_, h.wk hrt _ [] _ (by omega) ?_⟩
      rw [shortX, if_neg h1]
      exact .done _ (by omega)
  | obj A k c L l s0 h ho =>
    obtain ⟨g1, g2⟩ := ho.fd hrt
    obtain ⟨b1, b2, b3⟩ := obN_bd hrt ho.1 L
    have hw1 : (fdT xs cs A).w = (obN c L : Int) := by rw [g1, b3]; rfl
    refine ⟨_, h.wk hrt _ [] _ (by omega) ?_⟩
    rw [shortX, if_pos (by omega)]
    exact .over _ (by omega) g2 (by rw [hw1]; omega)
/-- Another gap, another object behind them. -/
theorem Sg.addGap {A s n : Nat} {l : List Int} (hrt : cs.all Cl.rt = true) (h : Sg xs cs A l s) (hn : 1 ≤ n) (hl : A + n ≤ xs.length) : Sg (gapL xs A n) cs (A + n) l n := by
  refine .gap A n l s (h.same hrt (gapL_length _ _ _) fun j hj => ?_) (gapL_gap h.pos hn hl)
  rw [gapL_get _ _ _ _ hn hl, if_neg (by omega), if_neg (by omega)]
theorem Sg.addObj {A s k : Nat} {c : Cl} {L : Int} {l : List Int} (hrt : cs.all Cl.rt = true) (h : Sg xs cs A l s) (hc : cs[k]? = some c) (hl : cs.length < 64) (hX : shX (some c) L = 0) (hA : A + obN c L ≤ xs.length) :
    Sg (layL xs A (obN c L) ((k : Int) + 1) L c.f) cs (A + obN c L) (l ++ [(A : Int)]) (obN c L) ∧ IsOb (layL xs A (obN c L) ((k : Int) + 1) L c.f) cs A k c L := by
  obtain ⟨b1, b2, b3⟩ := obN_bd hrt hc L
  have ho := layL_ob (xs := xs) (n := obN c L) hc hl hrt hX b3 h.pos hA
  refine ⟨.obj A k c L l s (h.same hrt (layL_length _ _ _ _ _ _) fun j hj => ?_) ho, ho⟩
  rw [layL_get _ _ _ _ _ _ _ b1 hA, if_neg (by omega), if_neg (by omega), if_neg (by omega)]
theorem sameH (C A F : Int) (m f d : Bool) (W : World) : (Op.equalIn 10000 123 (hdV C A F m f d) (hdV C A F m f d)).run Tryz.prog W = .ok true W := by
  go_simp
end
end Go.Proofs.YtogfjclmohpjkaaGreatDoor.L6
/- What stands in the words while references and numbers of one object are laid. Conditions: none; nothing here speaks of the program. -/
namespace Go.Proofs.YtogfjclmohpjkaaGreatDoor.L6
open Go.ChangeShapes Go.WideShapes Go.ChangeAt Go.RowKit
open Go.Proofs.YtogfjclmohpjkaaGreatDoor.L1 (Sl Ar ptr exB)
open Go.Proofs.YtogfjclmohpjkaaGreatDoor.L4 (hdV riB wd wdV wdX ofB ofC ofA ofF ofM ofN ofD ofV ofX set6)
open Go.Proofs.YtogfjclmohpjkaaGreatDoor.L5 (Cl clV rtB Tb clAt shX shR shD woV c0 IsCls newX)
set_option linter.unusedVariables false
set_option maxRecDepth 100000

section
variable {w w' : World} {p tp : Option Addr} {g : Nat} {xs ys : List Int} {cs : List Cl}
/-- Of an object at 1 the first k references and the first m numbers are laid; all else is as in ys. -/
def Fl (ys : List Int) (R D : Nat) (rs ds : List Int) (k m : Nat) (xs : List Int) : Prop :=
  xs.length = 200 ∧ ∀ j, xs.getD j 0 = if 3 ≤ j ∧ j < 3 + R then (if j - 3 < k then rs.getD (j - 3) 0 else 0) else if 3 + R ≤ j ∧ j < 3 + R + D then (if j - (3 + R) < m then ds.getD (j - (3 + R)) 0 else 0) else ys.getD j 0
variable {R D k m : Nat} {rs ds : List Int}
theorem Fl.start (hl : ys.length = 200) (h : ∀ j, 3 ≤ j → j < 3 + R + D → ys.getD j 0 = 0) : Fl ys R D rs ds 0 0 ys := by
  refine ⟨hl, fun j => ?_⟩
  by_cases h1 : 3 ≤ j ∧ j < 3 + R
  · rw [if_pos h1, if_neg (by omega)]; exact h j h1.1 (by omega)
  · rw [if_neg h1]
    by_cases h2 : 3 + R ≤ j ∧ j < 3 + R + D
    · rw [if_pos h2, if_neg (by omega)]; exact h j (by omega) h2.2
    · rw [if_neg h2]
theorem Fl.ref (h : Fl ys R D rs ds k m xs) (hk : k < R) (hR : 3 + R + D ≤ 200) (u : Int) (hu : rs.getD k 0 = u) : Fl ys R D rs ds (k + 1) m (xs.set (3 + k) u) := by
  refine ⟨by rw [List.length_set]; exact h.1, fun j => ?_⟩
  rw [getD_set _ _ _ _ (by rw [h.1]; omega)]
  by_cases e : j = 3 + k
  · subst e
    rw [if_pos rfl, if_pos (by omega), if_pos (by omega), show 3 + k - 3 = k by omega, hu]
  · rw [if_neg e, h.2 j]
    by_cases h1 : 3 ≤ j ∧ j < 3 + R
    · rw [if_pos h1, if_pos h1]
      by_cases h3 : j - 3 < k
      · rw [if_pos h3, if_pos (by omega)]
      · rw [if_neg h3, if_neg (by omega)]
    · rw [if_neg h1, if_neg h1]
theorem Fl.refOut (h : Fl ys R D rs ds k m xs) (hk : R ≤ k) : Fl ys R D rs ds (k + 1) m xs := by
  refine ⟨h.1, fun j => ?_⟩
  rw [h.2 j]
  by_cases h1 : 3 ≤ j ∧ j < 3 + R
  · rw [if_pos h1, if_pos h1, if_pos (by omega), if_pos (by omega)]
  · rw [if_neg h1, if_neg h1]
theorem Fl.num (h : Fl ys R D rs ds k m xs) (hm : m < D) (hR : 3 + R + D ≤ 200) (u : Int) (hu : ds.getD m 0 = u) : Fl ys R D rs ds k (m + 1) (xs.set (3 + R + m) u) := by
  refine ⟨by rw [List.length_set]; exact h.1, fun j => ?_⟩
  rw [getD_set _ _ _ _ (by rw [h.1]; omega)]
  by_cases e : j = 3 + R + m
  · subst e
    rw [if_pos rfl, if_neg (by omega), if_pos (by omega), if_pos (by omega), show 3 + R + m - (3 + R) = m by omega, hu]
  · rw [if_neg e, h.2 j]
    by_cases h1 : 3 ≤ j ∧ j < 3 + R
    · rw [if_pos h1, if_pos h1]
    · rw [if_neg h1, if_neg h1]
      by_cases h2 : 3 + R ≤ j ∧ j < 3 + R + D
      · rw [if_pos h2, if_pos h2]
        by_cases h3 : j - (3 + R) < m
        · rw [if_pos h3, if_pos (by omega)]
        · rw [if_neg h3, if_neg (by omega)]
      · rw [if_neg h2, if_neg h2]
theorem Fl.numOut (h : Fl ys R D rs ds k m xs) (hm : D ≤ m) : Fl ys R D rs ds k (m + 1) xs := by
  refine ⟨h.1, fun j => ?_⟩
  rw [h.2 j]
  by_cases h1 : 3 ≤ j ∧ j < 3 + R
  · rw [if_pos h1, if_pos h1]
  · rw [if_neg h1, if_neg h1]
    by_cases h2 : 3 + R ≤ j ∧ j < 3 + R + D
    · rw [if_pos h2, if_pos h2, if_pos (by omega), if_pos (by omega)]
    · rw [if_neg h2, if_neg h2]
theorem Fl.far (h : Fl ys R D rs ds k m xs) (j : Nat) (hj : j < 3 ∨ 3 + R + D ≤ j) : xs.getD j 0 = ys.getD j 0 := by
  rw [h.2 j, if_neg (by omega), if_neg (by omega)]
theorem Fl.ob {i : Nat} {c : Cl} {l : Int} (h : Fl ys R D rs ds k m xs) (ho : IsOb ys cs 1 i c l) (hl : ys.length = 200) : IsOb xs cs 1 i c l :=
  ho.same (h.1.trans hl.symm) (h.far 1 (by omega)) (h.far 2 (by omega))
theorem Fl.atRef (h : Fl ys R D rs ds k m xs) {j : Nat} (hj : j < R) : xs.getD (3 + j) 0 = if j < k then rs.getD j 0 else 0 := by
  rw [h.2, if_pos (by omega), show 3 + j - 3 = j by omega]
theorem Fl.atNum (h : Fl ys R D rs ds k m xs) {j : Nat} (hj : j < D) : xs.getD (3 + R + j) 0 = if j < m then ds.getD j 0 else 0 := by
  rw [h.2, if_neg (by omega), if_pos (by omega), show 3 + R + j - (3 + R) = j by omega]
end
end Go.Proofs.YtogfjclmohpjkaaGreatDoor.L6

/- What Lay and Gap answer, and what they store. Conditions: the numbers given fit their kinds. -/
import Derived.Test.YtgknndbahdjghaaL6Ask
namespace Go.Proofs.Ytgknndbahdjghaa.L6
open Go.ChangeShapes Go.WideShapes Go.ChangeAt Go.RowKit
open Go.Proofs.Ytgknndbahdjghaa.L1 (Sl Ar ptr exB)
open Go.Proofs.Ytgknndbahdjghaa.L4 (hdV riB wd wdV wdX ofB ofC ofA ofF ofM ofN ofD ofV ofX set6)
open Go.Proofs.Ytgknndbahdjghaa.L5 (Cl clV rtB Tb clAt shX shR shD woV c0 IsCls newX)
set_option linter.unusedVariables false

section
variable {w w' : World} {p tp : Option Addr} {g : Nat} {xs ys : List Int} {cs : List Cl}
theorem words_is {n l V X : Int} {base : Nat} {v : Value} (h : Tb w base tp v cs) (hl : cs.length ≤ 100) (hall : cs.all Cl.rt = true) (hV : woV (clAt cs n) l = V) (hX : shX (clAt cs n) l = X) :
    Calls Try.prog 33 #[.pointer tp, .int .i64 n, .int .i64 l] w fun e w' => e = .returned (.tuple #[.int .i64 V, .int .i64 X]) ∧ Grow w w' :=
  L5.words_is h hl hall hV hX
theorem word_is {C A F V X : Int} {m f d : Bool} (w : World) (hV : wdV C A F m f d = V) (hX : wdX C A F f d = X) :
    Calls Try.prog 31 #[hdV C A F m f d] w fun e w' => e = .returned (.tuple #[.int .i64 V, .int .i64 X]) ∧ Grow w w' := by
  have h' := L4.word_any C A F m f d w
  rwa [hV, hX] at h'
theorem St.open_ {b : Nat} (h : St w (some ⟨b, 0, none⟩) tp g xs cs) : Ar w b g xs := by
  rcases h.ar with ⟨e, _⟩ | ⟨b', e, ha⟩
  · cases e
  · injection e with e; injection e with e; subst e; exact ha
theorem St.some_ (h : St w p tp g xs cs) (hk : 0 < xs.length) : ∃ b, p = some ⟨b, 0, none⟩ := by
  rcases h.ar with ⟨_, rfl⟩ | ⟨b, e, _⟩
  · simp at hk
  · exact ⟨b, e⟩

/-- The words behind Gap, behind Lay. -/
def gapL (xs : List Int) (a n : Nat) : List Int := if n = 1 then xs.set a 1024 else (xs.set a 0).set (a + 1) n
def layL (xs : List Int) (a n : Nat) (C l : Int) (f : Bool) : List Int := ((L1.fillTo xs a 0 n).set a (C + L4.b2i 2048 f)).set (a + 1) l
theorem store_is {b k : Nat} {i v : Int} (h : St w (some ⟨b, 0, none⟩) tp g xs cs) (hi : i = (k : Int)) (hk : k < xs.length) :
    Calls Try.prog 32 #[.pointer (some ⟨b, 0, none⟩), .int .i64 i, .int .i64 v] w fun e w' => e = .returned (.int .i64 0) ∧ St w' (some ⟨b, 0, none⟩) tp g (xs.set k v) cs ∧ Chg (· = g) w w' := by
  subst hi
  refine (L1.store_ok b g xs k v w h.open_ h.n hk).mono ?_
  rintro e w' ⟨he, ha, c⟩
  exact ⟨he, h.put ha (by simp) c, c⟩
theorem fill_is {b a m : Nat} {i n v : Int} (h : St w (some ⟨b, 0, none⟩) tp g xs cs) (hi : i = (a : Int)) (hn : n = (m : Int)) (hk : a + m ≤ xs.length) :
    Calls Try.prog 26 #[.pointer (some ⟨b, 0, none⟩), .int .i64 i, .int .i64 n, .int .i64 v] w fun e w' => e = .returned (.int .i64 0) ∧ St w' (some ⟨b, 0, none⟩) tp g (L1.fillTo xs a v m) cs ∧ Chg (· = g) w w' := by
  subst hi hn
  refine (L1.fill_ok b g xs a m v w h.open_ h.n hk).mono ?_
  rintro e w' ⟨he, ha, c⟩
  exact ⟨he, h.put ha (L1.fillTo_length _ _ _ _) c, c⟩
set_option maxHeartbeats 1000000 in
theorem gap_one {b a : Nat} (h : St w (some ⟨b, 0, none⟩) tp g xs cs) (h1 : 1 ≤ a) (hl : a + 1 ≤ xs.length) :
    Calls Try.prog 10 #[stV (some ⟨b, 0, none⟩) tp, .int .i64 a, .int .i64 1] w fun e w' => e = .returned (.int .i64 0) ∧ St w' (some ⟨b, 0, none⟩) tp g (xs.set a 1024) cs ∧ Chg (· = g) w w' := by
  have hm := h.n
  have HX := hide (show oxB xs.length a 1 = true by simp [oxB]; omega)
  have H := hide h
  have ngs0 := hide h.open_.2.lt
  clear h
  obtain ⟨hs, cc, fs⟩ := boxes1 w 28 [.pointer (some ⟨b, 0, none⟩), .pointer tp]
  go_enter Try.func10, Try.ntmps10
  go_wp2_with fail
  have ngs : ¬ w.heap.size = g := by have := ngs0.out; omega
  generalize w.alloc (.cells #[.pointer (some ⟨b, 0, none⟩), .pointer tp] 28) = w3 at *
  generalize w.heap.size = s at *
  refine (exists_is (H.out.grow cc) (by omega) HX.out).mono ?_
  rintro e w4 ⟨rfl, c_w4⟩
  replace hs := hs.chg c_w4 id
  replace cc := cc.step c_w4 (fun _ _ h => h.elim)
  clear c_w4 
  obtain ⟨s0, s1⟩ := hs.cell2
  go_wp2_with fail
  refine (word_is (C := 0) (A := 0) (F := 0) (m := true) (f := false) (d := false) (V := 1024) (X := 0) _ (by decide) (by decide)).mono ?_
  rintro e w5 ⟨rfl, c_w5⟩
  replace hs := hs.chg c_w5 id
  replace cc := cc.step c_w5 (fun _ _ h => h.elim)
  clear c_w5 
  have H5 := hide (H.out.grow cc)
  replace cc := cc.mono (S := (· = g)) (fun _ _ h => h.elim)
  clear s0 s1
  obtain ⟨s0, s1⟩ := hs.cell2
  go_wp2_with fail
  refine (store_is H5.out rfl (by omega)).mono ?_
  rintro e w6 ⟨rfl, hst', c'⟩
  have H6 := hide hst'
  replace cc := cc.step c' (fun i hi e => e)
  replace hs := hs.chg c' ngs
  clear hst' c' s0 s1
  obtain ⟨s0, s1⟩ := hs.cell2
  go_wp2
  go_ret
  exact ⟨rfl, H6.out, cc⟩
set_option maxHeartbeats 1000000 in
theorem gap_more {b a n : Nat} (h : St w (some ⟨b, 0, none⟩) tp g xs cs) (h1 : 1 ≤ a) (hn : 2 ≤ n) (hl : a + n ≤ xs.length) :
    Calls Try.prog 10 #[stV (some ⟨b, 0, none⟩) tp, .int .i64 a, .int .i64 n] w fun e w' => e = .returned (.int .i64 0) ∧ St w' (some ⟨b, 0, none⟩) tp g ((xs.set a 0).set (a + 1) n) cs ∧ Chg (· = g) w w' := by
  have hm := h.n
  have HX := hide (show oxB xs.length a n = true by simp [oxB]; omega)
  have q1 : decide ((n : Int) < 1) = false := by simp; omega
  have q2 : ((n : Int) == 1) = false := by simp; omega
  have H := hide h
  have ngs0 := hide h.open_.2.lt
  clear h
  obtain ⟨hs, cc, fs⟩ := boxes1 w 28 [.pointer (some ⟨b, 0, none⟩), .pointer tp]
  go_enter Try.func10, Try.ntmps10
  go_wp2_with fail
  have ngs : ¬ w.heap.size = g := by have := ngs0.out; omega
  generalize w.alloc (.cells #[.pointer (some ⟨b, 0, none⟩), .pointer tp] 28) = w3 at *
  generalize w.heap.size = s at *
  refine (exists_is (H.out.grow cc) (by omega) HX.out).mono ?_
  rintro e w4 ⟨rfl, c_w4⟩
  replace hs := hs.chg c_w4 id
  replace cc := cc.step c_w4 (fun _ _ h => h.elim)
  clear c_w4 
  obtain ⟨s0, s1⟩ := hs.cell2
  go_wp2_with fail
  refine (word_is (C := 0) (A := 0) (F := 0) (m := false) (f := false) (d := false) (V := 0) (X := 0) _ (by decide) (by decide)).mono ?_
  rintro e w5 ⟨rfl, c_w5⟩
  replace hs := hs.chg c_w5 id
  replace cc := cc.step c_w5 (fun _ _ h => h.elim)
  clear c_w5 
  have H5 := hide (H.out.grow cc)
  replace cc := cc.mono (S := (· = g)) (fun _ _ h => h.elim)
  clear s0 s1
  obtain ⟨s0, s1⟩ := hs.cell2
  go_wp2_with fail
  refine (store_is H5.out rfl (by omega)).mono ?_
  rintro e w6 ⟨rfl, hst', c'⟩
  have H6 := hide hst'
  replace cc := cc.step c' (fun i hi e => e)
  replace hs := hs.chg c' ngs
  clear hst' c' s0 s1
  obtain ⟨s0, s1⟩ := hs.cell2
  go_wp2_with fail
  refine (store_is (k := a + 1) H6.out (by simp) (by simp; omega)).mono ?_
  rintro e w7 ⟨rfl, hst', c'⟩
  have H7 := hide hst'
  replace cc := cc.step c' (fun i hi e => e)
  replace hs := hs.chg c' ngs
  clear hst' c' s0 s1
  obtain ⟨s0, s1⟩ := hs.cell2
  go_wp2
  go_ret
  exact ⟨rfl, H7.out, cc⟩
theorem gap_ok {b a n : Nat} (h : St w (some ⟨b, 0, none⟩) tp g xs cs) (h1 : 1 ≤ a) (hn : 1 ≤ n) (hl : a + n ≤ xs.length) :
    Calls Try.prog 10 #[stV (some ⟨b, 0, none⟩) tp, .int .i64 a, .int .i64 n] w fun e w' => e = .returned (.int .i64 0) ∧ St w' (some ⟨b, 0, none⟩) tp g (gapL xs a n) cs ∧ Chg (· = g) w w' := by
  by_cases h2 : n = 1
  · subst h2
    have := gap_one h h1 hl
    simp only [gapL, if_pos]
    exact this
  · have := gap_more (n := n) h h1 (by omega) hl
    simpa only [gapL, if_neg h2] using this

set_option maxHeartbeats 1000000 in
theorem lay_no {i C l X : Int} (h : St w p tp g xs cs) (hX : shX (clAt cs C) l = X) (hx : ¬ X = 0) :
    Calls Try.prog 12 #[stV p tp, .int .i64 i, .int .i64 C, .int .i64 l] w fun e w' => e = .returned (.int .i64 X) ∧ Grow w w' := by
  have HV := hide (show woV (clAt cs C) l = 0 by simp [woV, hX, hx])
  have HX := hide hX
  have H := hide h
  have hx' : (X != 0) = true := by simpa using hx
  clear h hX
  obtain ⟨hs, cc, fs⟩ := boxes1 w 28 [.pointer p, .pointer tp]
  go_enter Try.func12, Try.ntmps12
  go_wp2_with fail
  generalize w.alloc (.cells #[.pointer p, .pointer tp] 28) = w3 at *
  generalize w.heap.size = s at *
  obtain ⟨base, v, ht⟩ := (H.out.grow cc).tab
  refine (words_is ht H.out.cl H.out.rt HV.out HX.out).mono ?_
  rintro e w4 ⟨rfl, c_w4⟩
  replace hs := hs.chg c_w4 id
  replace cc := cc.step c_w4 (fun _ _ h => h.elim)
  clear c_w4 ht
  obtain ⟨s0, s1⟩ := hs.cell2
  clear s0 s1
  go_wp2
  go_ret
  exact ⟨rfl, cc⟩
set_option maxHeartbeats 2000000 in
theorem lay_ok {b a n k : Nat} {C l K R D : Int} {f : Bool} (h : St w (some ⟨b, 0, none⟩) tp g xs cs) (hc : cs[k]? = some ⟨K, R, D, f⟩) (hC : C = k + 1) (hX : shX (clAt cs C) l = 0) (hV : woV (clAt cs C) l = n) (hk : cs.length < 64) (h1 : 1 ≤ a) (hl : a + n ≤ xs.length) :
    Calls Try.prog 12 #[stV (some ⟨b, 0, none⟩) tp, .int .i64 a, .int .i64 C, .int .i64 l] w fun e w' => e = .returned (.int .i64 0) ∧ St w' (some ⟨b, 0, none⟩) tp g (layL xs a n C l f) cs ∧ Chg (· = g) w w' := by
  have hm := h.n
  have hkl : k < cs.length := (List.getElem?_eq_some_iff.1 hc).1
  have hn2 : 2 ≤ n := by
    have := L5.sh_bd (o := clAt cs C) (fun c hc => L5.clAt_rt h.rt hc) l
    rw [woV, if_pos hX] at hV
    omega
  have HB := hide (show oxB xs.length a n = true by simp [oxB]; omega)
  have HW := hide (show wdV C 0 0 false f false = C + L4.b2i 2048 f ∧ wdX C 0 0 f false = 0 by
    have hr : riB C 0 0 f false = true := L4.ri_mk (by omega) (by omega) (by decide) (by decide) (by decide) (by decide) (by simp)
    simp [wdV, wdX, hr, wd, L4.b2i])
  have HV := hide hV
  have HX := hide hX
  have HC := hide hc
  have HCC := hide hC
  have H := hide h
  have ngs0 := hide h.open_.2.lt
  have ngs1 : ¬ w.heap.size = g := by have := ngs0.out; omega
  clear h hX hV hc ngs0 hC
  obtain ⟨hs, cc, fs⟩ := boxes1 w 28 [.pointer (some ⟨b, 0, none⟩), .pointer tp]
  go_enter Try.func12, Try.ntmps12
  go_wp2_with fail
  generalize w.alloc (.cells #[.pointer (some ⟨b, 0, none⟩), .pointer tp] 28) = w3 at *
  generalize w.heap.size = s at *
  obtain ⟨base, v, ht⟩ := (H.out.grow cc).tab
  refine (words_is ht H.out.cl H.out.rt HV.out HX.out).mono ?_
  rintro e w4 ⟨rfl, c_w4⟩
  replace hs := hs.chg c_w4 id
  replace cc := cc.step c_w4 (fun _ _ h => h.elim)
  clear c_w4 ht
  obtain ⟨s0, s1⟩ := hs.cell2
  go_wp2_with fail
  clear s0 s1
  refine (exists_is (H.out.grow cc) (by omega) HB.out).mono ?_
  rintro e w5 ⟨rfl, c_w5⟩
  replace hs := hs.chg c_w5 id
  replace cc := cc.step c_w5 (fun _ _ h => h.elim)
  clear c_w5 
  obtain ⟨s0, s1⟩ := hs.cell2
  obtain ⟨base, v, ht⟩ := (H.out.grow cc).tab
  go_wp2_with fail
  clear s0 s1
  refine (L5.of_in ht H.out.cl HC.out HCC.out).mono ?_
  rintro e w6 ⟨rfl, c_w6⟩
  replace hs := hs.chg c_w6 id
  replace cc := cc.step c_w6 (fun _ _ h => h.elim)
  clear c_w6 ht
  have hx := Blk.new w6 38 [.int .i64 K, .int .i64 R, .int .i64 D, .bool f]
  replace hs := hs.alloc (.cells [.int .i64 K, .int .i64 R, .int .i64 D, .bool f].toArray 38)
  replace cc := cc.alloc (.cells [.int .i64 K, .int .i64 R, .int .i64 D, .bool f].toArray 38)
  obtain ⟨s0, s1⟩ := hs.cell2
  obtain ⟨x0, x1, x2, x3⟩ := hx.cell4
  go_wp2_with fail
  clear s0 s1 x0 x1 x2 x3
  refine (word_is _ HW.out.1 HW.out.2).mono ?_
  rintro e w7 ⟨rfl, c_w7⟩
  replace hs := hs.chg c_w7 id
  replace cc := cc.step c_w7 (fun _ _ h => h.elim)
  clear c_w7 
  have H7 := hide (H.out.grow cc)
  replace cc := cc.mono (S := (· = g)) (fun _ _ h => h.elim)
  obtain ⟨s0, s1⟩ := hs.cell2
  have ngs := ngs1
  go_wp2_with fail
  refine (fill_is H7.out rfl rfl hl).mono ?_
  rintro e w8 ⟨rfl, hst', c'⟩
  have H8 := hide hst'
  replace cc := cc.step c' (fun i hi e => e)
  replace hs := hs.chg c' ngs
  clear hst' c' s0 s1
  obtain ⟨s0, s1⟩ := hs.cell2
  go_wp2_with fail
  refine (store_is H8.out rfl (by rw [L1.fillTo_length]; omega)).mono ?_
  rintro e w9 ⟨rfl, hst', c'⟩
  have H9 := hide hst'
  replace cc := cc.step c' (fun i hi e => e)
  replace hs := hs.chg c' ngs
  clear hst' c' s0 s1
  obtain ⟨s0, s1⟩ := hs.cell2
  go_wp2_with fail
  refine (store_is (k := a + 1) H9.out (by simp) (by rw [List.length_set, L1.fillTo_length]; omega)).mono ?_
  rintro e wa ⟨rfl, hst', c'⟩
  have HA := hide hst'
  replace cc := cc.step c' (fun i hi e => e)
  replace hs := hs.chg c' ngs
  clear hst' c' s0 s1
  obtain ⟨s0, s1⟩ := hs.cell2
  go_wp2
  go_ret
  exact ⟨rfl, HA.out, cc⟩
end
end Go.Proofs.Ytgknndbahdjghaa.L6

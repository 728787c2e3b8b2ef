/- What Ref, Num, SetRef and SetNum answer, and what they store. Conditions: the numbers given fit their kinds. -/
import Derived.Test.YtgknndbahdjghaaL6Ask
namespace Go.Proofs.Ytgknndbahdjghaa.L6
open Go.ChangeShapes Go.WideShapes Go.ChangeAt Go.RowKit
open Go.Proofs.Ytgknndbahdjghaa.L1 (Sl Ar ptr exB)
open Go.Proofs.Ytgknndbahdjghaa.L4 (hdV riB wd wdV wdX ofB ofC ofA ofF ofM ofN ofD ofV ofX set6)
open Go.Proofs.Ytgknndbahdjghaa.L5 (Cl clV rtB Tb clAt shX shR shD woV c0 IsCls newX)
set_option linter.unusedVariables false

section
variable {w w' : World} {p tp : Option Addr} {g : Nat} {xs ys : List Int} {cs : List Cl}
/-- What an object's parts are between. -/
theorem ob_bd (hrt : cs.all Cl.rt = true) {i : Int} (h : obX xs cs i = 0) :
    1 ≤ i ∧ 0 ≤ (obT xs cs i).r ∧ (obT xs cs i).r ≤ 30 ∧ 0 ≤ (obT xs cs i).n ∧ (obT xs cs i).n ≤ 30 ∧ i + 2 + (obT xs cs i).r + (obT xs cs i).n ≤ xs.length := by
  have hf : fdX xs cs i = 0 := Classical.byContradiction fun hf => by rw [(ob_no hf).2] at h; exact hf h
  have hc : ¬ (fdT xs cs i).C = 0 := fun hc => by rw [(ob_gap hf hc).2] at h; exact absurd h (by decide)
  rw [(ob_yes hf hc).1]
  have hb : fdB xs cs i = true := by
    unfold fdX at hf
    split at hf
    · split at hf
      · assumption
      · exact absurd hf (by decide)
    · exact absurd hf (by decide)
  have ht : fdT xs cs i = woT xs cs i := by simp [fdT, hb]
  rw [ht] at hc ⊢
  have hb' := hb
  simp only [fdB, Bool.and_eq_true] at hb'
  obtain ⟨h1, h2, h3, h4⟩ := hb'
  simp only [oxB, decide_eq_true_eq] at h1 h4
  unfold woT at hc h4 ⊢
  by_cases hs : ofC (gw xs i) = 0 ∧ ofM (gw xs i) = true
  · rw [(me_single hs).1] at hc; exact absurd hs.1 hc
  by_cases h2' : i + 1 < xs.length
  · by_cases hC : ofC (gw xs i) = 0
    · rw [(me_gap hs h2' hC).1] at hc; exact absurd hC hc
    · have e := (me_obj (cs := cs) (A := ofA (gw xs i)) (F := ofF (gw xs i)) (m := ofM (gw xs i)) (f := ofN (gw xs i)) (d := ofD (gw xs i)) h2' hC).1
      rw [e] at h4 ⊢
      have := L5.sh_bd (o := clAt cs (ofC (gw xs i))) (fun c hc => L5.clAt_rt hrt hc) (gw xs (i + 1))
      dsimp only at h4 ⊢
      omega
  · rw [(me_off hs h2').1] at hc; exact absurd rfl hc

def plX (n k : Int) : Int := if 0 ≤ k ∧ k < n then 0 else 1
def plP (a n k : Int) : Int := if 0 ≤ k ∧ k < n then a + k else 0
set_option maxHeartbeats 400000 in
theorem place_any (a n k : Int) (w : World) (h : 0 ≤ a ∧ a ≤ 5000) (hn : n ≤ 5000) :
    Calls Try.prog 51 #[.int .i64 a, .int .i64 n, .int .i64 k] w fun e w' => e = .returned (.tuple #[.int .i64 (plP a n k), .int .i64 (plX n k)]) ∧ w = w' := by
  by_cases h1 : 0 ≤ k
  · have h1' : decide (k < 0) = false := by simp; omega
    by_cases h2 : k < n
    · have HE := hide (show plP a n k = a + k ∧ plX n k = 0 by simp [plP, plX, h1, h2])
      have h2' : decide (k ≥ n) = false := by simp; omega
      go_enter Try.func51, Try.ntmps51
      go_wp2
      go_returns
      exact ⟨ret_any (by rw [HE.out.1, HE.out.2] <;> rfl), rfl⟩
    · have HE := hide (show plP a n k = 0 ∧ plX n k = 1 by simp [plP, plX, h2])
      have h2' : decide (k ≥ n) = true := by simp; omega
      go_enter Try.func51, Try.ntmps51
      go_wp2
      go_returns
      exact ⟨ret_any (by rw [HE.out.1, HE.out.2] <;> rfl), rfl⟩
  · have h1' : decide (k < 0) = true := by simp; omega
    have HE := hide (show plP a n k = 0 ∧ plX n k = 1 by simp [plP, plX, h1])
    go_enter Try.func51, Try.ntmps51
    go_wp2
    go_returns
    exact ⟨ret_any (by rw [HE.out.1, HE.out.2] <;> rfl), rfl⟩

/-- Which reference, or number, of an object: the error's number; where it stands. -/
def slN (t : Th) (num : Bool) : Int := if num then t.n else t.r
def slA (t : Th) (i : Int) (num : Bool) : Int := if num then i + 2 + t.r else i + 2
def slX (xs : List Int) (cs : List Cl) (i k : Int) (num : Bool) : Int := if obX xs cs i = 0 then plX (slN (obT xs cs i) num) k else obX xs cs i
def slP (xs : List Int) (cs : List Cl) (i k : Int) (num : Bool) : Int := if slX xs cs i k num = 0 then slA (obT xs cs i) i num + k else 0
theorem sl_no {i k : Int} {num : Bool} (h : ¬ obX xs cs i = 0) : slX xs cs i k num = obX xs cs i ∧ slP xs cs i k num = 0 := by
  have e : slX xs cs i k num = obX xs cs i := by simp [slX, h]
  exact ⟨e, by simp [slP, e, h]⟩
theorem sl_yes {i k : Int} {num : Bool} (h : obX xs cs i = 0) : slX xs cs i k num = plX (slN (obT xs cs i) num) k ∧ slP xs cs i k num = plP (slA (obT xs cs i) i num) (slN (obT xs cs i) num) k := by
  have e : slX xs cs i k num = plX (slN (obT xs cs i) num) k := by simp [slX, h]
  refine ⟨e, ?_⟩
  simp only [slP, e, plP, plX]
  by_cases hk : 0 ≤ k ∧ k < slN (obT xs cs i) num
  · rw [if_pos hk, if_pos hk, if_pos rfl]
  · rw [if_neg hk, if_neg hk, if_neg (by decide)]
theorem sl_bd (hrt : cs.all Cl.rt = true) {i k : Int} {num : Bool} (h : slX xs cs i k num = 0) :
    slP xs cs i k num = slA (obT xs cs i) i num + k ∧ 0 ≤ k ∧ k < slN (obT xs cs i) num ∧ 3 ≤ slP xs cs i k num ∧ slP xs cs i k num < xs.length := by
  have ho : obX xs cs i = 0 := Classical.byContradiction fun ho => by rw [(sl_no (k := k) (num := num) ho).1] at h; exact ho h
  have hb := ob_bd hrt ho
  have e : slP xs cs i k num = slA (obT xs cs i) i num + k := by simp [slP, h]
  rw [(sl_yes ho).1] at h
  unfold plX at h
  split at h
  · rename_i hk
    rw [e]
    refine ⟨rfl, ?_⟩
    cases num <;> simp only [slA, slN, if_true, Bool.false_eq_true, if_false] at hk ⊢ <;> omega
  · exact absurd h (by decide)

set_option maxHeartbeats 1000000 in
theorem refat_any (h : St w p tp g xs cs) (i k : Int) (h1 : i ≤ 9223372036854775807) :
    Calls Try.prog 38 #[stV p tp, .int .i64 i, .int .i64 k] w fun e w' => e = .returned (.tuple #[.int .i64 (slP xs cs i k false), .int .i64 (slX xs cs i k false)]) ∧ Grow w w' := by
  by_cases hx : obX xs cs i = 0
  rotate_left
  · have HE := hide (sl_no (k := k) (num := false) hx)
    have H := hide h
    clear h
    obtain ⟨X, hX⟩ : ∃ X, obX xs cs i = X := ⟨_, rfl⟩
    obtain ⟨T, hT⟩ : ∃ T, obT xs cs i = T := ⟨_, rfl⟩
    rw [hX] at hx HE
    have HT := hide hT
    have HX := hide hX
    have hx' : (X != 0) = true := by simpa using hx
    clear hX hT
    obtain ⟨C, A, F, m, f, d, W, R, D⟩ := T
    obtain ⟨hs, cc, fs⟩ := boxes1 w 28 [.pointer p, .pointer tp]
    go_enter Try.func38, Try.ntmps38
    go_wp2_with fail
    generalize w.alloc (.cells #[.pointer p, .pointer tp] 28) = w3 at *
    generalize w.heap.size = s at *
    refine (object_is (H.out.grow cc) h1 HT.out HX.out).mono ?_
    rintro e w4 ⟨rfl, c_w4⟩
    replace hs := hs.chg c_w4 id
    replace cc := cc.step c_w4 (fun _ _ h => h.elim)
    clear c_w4 
    have ht := Blk.new w4 71 [.int .i64 C, .int .i64 A, .int .i64 F, .bool m, .bool f, .bool d, .int .i64 W, .int .i64 R, .int .i64 D]
    replace hs := hs.alloc (.cells [.int .i64 C, .int .i64 A, .int .i64 F, .bool m, .bool f, .bool d, .int .i64 W, .int .i64 R, .int .i64 D].toArray 71)
    replace cc := cc.alloc (.cells [.int .i64 C, .int .i64 A, .int .i64 F, .bool m, .bool f, .bool d, .int .i64 W, .int .i64 R, .int .i64 D].toArray 71)
    obtain ⟨x0, x1, x2, x3, x4, x5, x6, x7, x8⟩ := ht.cell9
    clear x0 x1 x2 x3 x4 x5 x6 x7 x8
    go_wp2
    go_returns
    exact ⟨ret_any (by rw [HE.out.1, HE.out.2] <;> rfl), cc⟩
  · have HE := hide (sl_yes (k := k) (num := false) hx)
    have hb := ob_bd h.rt hx
    have hn := h.n
    have H := hide h
    clear h
    obtain ⟨T, hT⟩ : ∃ T, obT xs cs i = T := ⟨_, rfl⟩
    rw [hT] at hb HE
    have HT := hide hT
    have HX := hide hx
    clear hx hT
    obtain ⟨C, A, F, m, f, d, W, R, D⟩ := T
    dsimp only at hb
    obtain ⟨hs, cc, fs⟩ := boxes1 w 28 [.pointer p, .pointer tp]
    go_enter Try.func38, Try.ntmps38
    go_wp2_with fail
    generalize w.alloc (.cells #[.pointer p, .pointer tp] 28) = w3 at *
    generalize w.heap.size = s at *
    refine (object_is (H.out.grow cc) h1 HT.out HX.out).mono ?_
    rintro e w4 ⟨rfl, c_w4⟩
    replace hs := hs.chg c_w4 id
    replace cc := cc.step c_w4 (fun _ _ h => h.elim)
    clear c_w4 
    have ht := Blk.new w4 71 [.int .i64 C, .int .i64 A, .int .i64 F, .bool m, .bool f, .bool d, .int .i64 W, .int .i64 R, .int .i64 D]
    replace hs := hs.alloc (.cells [.int .i64 C, .int .i64 A, .int .i64 F, .bool m, .bool f, .bool d, .int .i64 W, .int .i64 R, .int .i64 D].toArray 71)
    replace cc := cc.alloc (.cells [.int .i64 C, .int .i64 A, .int .i64 F, .bool m, .bool f, .bool d, .int .i64 W, .int .i64 R, .int .i64 D].toArray 71)
    obtain ⟨x0, x1, x2, x3, x4, x5, x6, x7, x8⟩ := ht.cell9
    go_wp2_with fail
    refine (place_any _ _ _ _ (by omega) (by omega)).mono ?_
    rintro e w' ⟨rfl, rfl⟩
    go_wp2
    go_returns
    exact ⟨ret_any (by rw [HE.out.1, HE.out.2] <;> rfl), cc⟩
theorem refat_is {i k P X : Int} (h : St w p tp g xs cs) (h1 : i ≤ 9223372036854775807) (hP : slP xs cs i k false = P) (hX : slX xs cs i k false = X) :
    Calls Try.prog 38 #[stV p tp, .int .i64 i, .int .i64 k] w fun e w' => e = .returned (.tuple #[.int .i64 P, .int .i64 X]) ∧ Grow w w' := by
  have h' := refat_any h i k h1
  rwa [hP, hX] at h'
set_option maxHeartbeats 1000000 in
theorem numat_any (h : St w p tp g xs cs) (i k : Int) (h1 : i ≤ 9223372036854775807) :
    Calls Try.prog 39 #[stV p tp, .int .i64 i, .int .i64 k] w fun e w' => e = .returned (.tuple #[.int .i64 (slP xs cs i k true), .int .i64 (slX xs cs i k true)]) ∧ Grow w w' := by
  by_cases hx : obX xs cs i = 0
  rotate_left
  · have HE := hide (sl_no (k := k) (num := true) hx)
    have H := hide h
    clear h
    obtain ⟨X, hX⟩ : ∃ X, obX xs cs i = X := ⟨_, rfl⟩
    obtain ⟨T, hT⟩ : ∃ T, obT xs cs i = T := ⟨_, rfl⟩
    rw [hX] at hx HE
    have HT := hide hT
    have HX := hide hX
    have hx' : (X != 0) = true := by simpa using hx
    clear hX hT
    obtain ⟨C, A, F, m, f, d, W, R, D⟩ := T
    obtain ⟨hs, cc, fs⟩ := boxes1 w 28 [.pointer p, .pointer tp]
    go_enter Try.func39, Try.ntmps39
    go_wp2_with fail
    generalize w.alloc (.cells #[.pointer p, .pointer tp] 28) = w3 at *
    generalize w.heap.size = s at *
    refine (object_is (H.out.grow cc) h1 HT.out HX.out).mono ?_
    rintro e w4 ⟨rfl, c_w4⟩
    replace hs := hs.chg c_w4 id
    replace cc := cc.step c_w4 (fun _ _ h => h.elim)
    clear c_w4 
    have ht := Blk.new w4 71 [.int .i64 C, .int .i64 A, .int .i64 F, .bool m, .bool f, .bool d, .int .i64 W, .int .i64 R, .int .i64 D]
    replace hs := hs.alloc (.cells [.int .i64 C, .int .i64 A, .int .i64 F, .bool m, .bool f, .bool d, .int .i64 W, .int .i64 R, .int .i64 D].toArray 71)
    replace cc := cc.alloc (.cells [.int .i64 C, .int .i64 A, .int .i64 F, .bool m, .bool f, .bool d, .int .i64 W, .int .i64 R, .int .i64 D].toArray 71)
    obtain ⟨x0, x1, x2, x3, x4, x5, x6, x7, x8⟩ := ht.cell9
    clear x0 x1 x2 x3 x4 x5 x6 x7 x8
    go_wp2
    go_returns
    exact ⟨ret_any (by rw [HE.out.1, HE.out.2] <;> rfl), cc⟩
  · have HE := hide (sl_yes (k := k) (num := true) hx)
    have hb := ob_bd h.rt hx
    have hn := h.n
    have H := hide h
    clear h
    obtain ⟨T, hT⟩ : ∃ T, obT xs cs i = T := ⟨_, rfl⟩
    rw [hT] at hb HE
    have HT := hide hT
    have HX := hide hx
    clear hx hT
    obtain ⟨C, A, F, m, f, d, W, R, D⟩ := T
    dsimp only at hb
    obtain ⟨hs, cc, fs⟩ := boxes1 w 28 [.pointer p, .pointer tp]
    go_enter Try.func39, Try.ntmps39
    go_wp2_with fail
    generalize w.alloc (.cells #[.pointer p, .pointer tp] 28) = w3 at *
    generalize w.heap.size = s at *
    refine (object_is (H.out.grow cc) h1 HT.out HX.out).mono ?_
    rintro e w4 ⟨rfl, c_w4⟩
    replace hs := hs.chg c_w4 id
    replace cc := cc.step c_w4 (fun _ _ h => h.elim)
    clear c_w4 
    have ht := Blk.new w4 71 [.int .i64 C, .int .i64 A, .int .i64 F, .bool m, .bool f, .bool d, .int .i64 W, .int .i64 R, .int .i64 D]
    replace hs := hs.alloc (.cells [.int .i64 C, .int .i64 A, .int .i64 F, .bool m, .bool f, .bool d, .int .i64 W, .int .i64 R, .int .i64 D].toArray 71)
    replace cc := cc.alloc (.cells [.int .i64 C, .int .i64 A, .int .i64 F, .bool m, .bool f, .bool d, .int .i64 W, .int .i64 R, .int .i64 D].toArray 71)
    obtain ⟨x0, x1, x2, x3, x4, x5, x6, x7, x8⟩ := ht.cell9
    go_wp2_with fail
    refine (place_any _ _ _ _ (by omega) (by omega)).mono ?_
    rintro e w' ⟨rfl, rfl⟩
    go_wp2
    go_returns
    exact ⟨ret_any (by rw [HE.out.1, HE.out.2] <;> rfl), cc⟩
theorem numat_is {i k P X : Int} (h : St w p tp g xs cs) (h1 : i ≤ 9223372036854775807) (hP : slP xs cs i k true = P) (hX : slX xs cs i k true = X) :
    Calls Try.prog 39 #[stV p tp, .int .i64 i, .int .i64 k] w fun e w' => e = .returned (.tuple #[.int .i64 P, .int .i64 X]) ∧ Grow w w' := by
  have h' := numat_any h i k h1
  rwa [hP, hX] at h'

/-- What a field is. -/
def slV (xs : List Int) (cs : List Cl) (i k : Int) (num : Bool) : Int := if slX xs cs i k num = 0 then gw xs (slP xs cs i k num) else 0
set_option maxHeartbeats 1000000 in
theorem ref_any (h : St w p tp g xs cs) (i k : Int) (h1 : i ≤ 9223372036854775807) :
    Calls Try.prog 20 #[stV p tp, .int .i64 i, .int .i64 k] w fun e w' => e = .returned (.tuple #[.int .i64 (slV xs cs i k false), .int .i64 (slX xs cs i k false)]) ∧ Grow w w' := by
  have hn := h.n
  by_cases hx : slX xs cs i k false = 0
  rotate_left
  · have HV := hide (show slV xs cs i k false = 0 by simp [slV, hx])
    have HP := hide (show slP xs cs i k false = 0 by simp [slP, hx])
    have H := hide h
    clear h
    obtain ⟨X, hX⟩ : ∃ X, slX xs cs i k false = X := ⟨_, rfl⟩
    rw [hX] at hx
    have HX := hide hX
    have hx' : (X != 0) = true := by simpa using hx
    clear hX
    obtain ⟨hs, cc, fs⟩ := boxes1 w 28 [.pointer p, .pointer tp]
    go_enter Try.func20, Try.ntmps20
    go_wp2_with fail
    generalize w.alloc (.cells #[.pointer p, .pointer tp] 28) = w3 at *
    generalize w.heap.size = s at *
    refine (refat_is (H.out.grow cc) h1 HP.out HX.out).mono ?_
    rintro e w4 ⟨rfl, c_w4⟩
    replace hs := hs.chg c_w4 id
    replace cc := cc.step c_w4 (fun _ _ h => h.elim)
    clear c_w4 
    go_wp2
    go_returns
    exact ⟨ret_any (by rw [HV.out, HX.out] <;> rfl), cc⟩
  · have hb := sl_bd h.rt hx
    obtain ⟨P, hP⟩ : ∃ P, slP xs cs i k false = P := ⟨_, rfl⟩
    have HV := hide (show slV xs cs i k false = gw xs P by simp [slV, hx, hP])
    rw [hP] at hb
    have HP := hide hP
    have HX := hide hx
    have eL : ldB xs P = true := by simp [ldB]; omega
    have HL := hide (show ldV xs P = gw xs P ∧ ldX xs P = 0 by simp [ldV, ldX, eL])
    have H := hide h
    have hp : P ≤ 9223372036854775807 := by omega
    clear h hx hP eL hb
    obtain ⟨hs, cc, fs⟩ := boxes1 w 28 [.pointer p, .pointer tp]
    go_enter Try.func20, Try.ntmps20
    go_wp2_with fail
    generalize w.alloc (.cells #[.pointer p, .pointer tp] 28) = w3 at *
    generalize w.heap.size = s at *
    refine (refat_is (H.out.grow cc) h1 HP.out HX.out).mono ?_
    rintro e w4 ⟨rfl, c_w4⟩
    replace hs := hs.chg c_w4 id
    replace cc := cc.step c_w4 (fun _ _ h => h.elim)
    clear c_w4 
    obtain ⟨s0, s1⟩ := hs.cell2
    go_wp2_with fail
    refine (load_is (H.out.grow cc).ar hn hp HL.out.1 HL.out.2).mono ?_
    rintro e w' ⟨rfl, rfl⟩
    go_wp2
    go_returns
    exact ⟨ret_any (by rw [HV.out, HX.out] <;> rfl), cc⟩
theorem ref_is {i k V X : Int} (h : St w p tp g xs cs) (h1 : i ≤ 9223372036854775807) (hV : slV xs cs i k false = V) (hX : slX xs cs i k false = X) :
    Calls Try.prog 20 #[stV p tp, .int .i64 i, .int .i64 k] w fun e w' => e = .returned (.tuple #[.int .i64 V, .int .i64 X]) ∧ Grow w w' := by
  have h' := ref_any h i k h1
  rwa [hV, hX] at h'
set_option maxHeartbeats 1000000 in
theorem num_any (h : St w p tp g xs cs) (i k : Int) (h1 : i ≤ 9223372036854775807) :
    Calls Try.prog 21 #[stV p tp, .int .i64 i, .int .i64 k] w fun e w' => e = .returned (.tuple #[.int .i64 (slV xs cs i k true), .int .i64 (slX xs cs i k true)]) ∧ Grow w w' := by
  have hn := h.n
  by_cases hx : slX xs cs i k true = 0
  rotate_left
  · have HV := hide (show slV xs cs i k true = 0 by simp [slV, hx])
    have HP := hide (show slP xs cs i k true = 0 by simp [slP, hx])
    have H := hide h
    clear h
    obtain ⟨X, hX⟩ : ∃ X, slX xs cs i k true = X := ⟨_, rfl⟩
    rw [hX] at hx
    have HX := hide hX
    have hx' : (X != 0) = true := by simpa using hx
    clear hX
    obtain ⟨hs, cc, fs⟩ := boxes1 w 28 [.pointer p, .pointer tp]
    go_enter Try.func21, Try.ntmps21
    go_wp2_with fail
    generalize w.alloc (.cells #[.pointer p, .pointer tp] 28) = w3 at *
    generalize w.heap.size = s at *
    refine (numat_is (H.out.grow cc) h1 HP.out HX.out).mono ?_
    rintro e w4 ⟨rfl, c_w4⟩
    replace hs := hs.chg c_w4 id
    replace cc := cc.step c_w4 (fun _ _ h => h.elim)
    clear c_w4 
    go_wp2
    go_returns
    exact ⟨ret_any (by rw [HV.out, HX.out] <;> rfl), cc⟩
  · have hb := sl_bd h.rt hx
    obtain ⟨P, hP⟩ : ∃ P, slP xs cs i k true = P := ⟨_, rfl⟩
    have HV := hide (show slV xs cs i k true = gw xs P by simp [slV, hx, hP])
    rw [hP] at hb
    have HP := hide hP
    have HX := hide hx
    have eL : ldB xs P = true := by simp [ldB]; omega
    have HL := hide (show ldV xs P = gw xs P ∧ ldX xs P = 0 by simp [ldV, ldX, eL])
    have H := hide h
    have hp : P ≤ 9223372036854775807 := by omega
    clear h hx hP eL hb
    obtain ⟨hs, cc, fs⟩ := boxes1 w 28 [.pointer p, .pointer tp]
    go_enter Try.func21, Try.ntmps21
    go_wp2_with fail
    generalize w.alloc (.cells #[.pointer p, .pointer tp] 28) = w3 at *
    generalize w.heap.size = s at *
    refine (numat_is (H.out.grow cc) h1 HP.out HX.out).mono ?_
    rintro e w4 ⟨rfl, c_w4⟩
    replace hs := hs.chg c_w4 id
    replace cc := cc.step c_w4 (fun _ _ h => h.elim)
    clear c_w4 
    obtain ⟨s0, s1⟩ := hs.cell2
    go_wp2_with fail
    refine (load_is (H.out.grow cc).ar hn hp HL.out.1 HL.out.2).mono ?_
    rintro e w' ⟨rfl, rfl⟩
    go_wp2
    go_returns
    exact ⟨ret_any (by rw [HV.out, HX.out] <;> rfl), cc⟩
theorem num_is {i k V X : Int} (h : St w p tp g xs cs) (h1 : i ≤ 9223372036854775807) (hV : slV xs cs i k true = V) (hX : slX xs cs i k true = X) :
    Calls Try.prog 21 #[stV p tp, .int .i64 i, .int .i64 k] w fun e w' => e = .returned (.tuple #[.int .i64 V, .int .i64 X]) ∧ Grow w w' := by
  have h' := num_any h i k h1
  rwa [hV, hX] at h'

set_option maxHeartbeats 1000000 in
theorem setref_no {i k u X : Int} (h : St w p tp g xs cs) (h1 : i ≤ 9223372036854775807) (hX : slX xs cs i k false = X) (hx : ¬ X = 0) :
    Calls Try.prog 18 #[stV p tp, .int .i64 i, .int .i64 k, .int .i64 u] w fun e w' => e = .returned (.int .i64 X) ∧ Grow w w' := by
  have HP := hide (show slP xs cs i k false = 0 by simp [slP, hX, hx])
  have HX := hide hX
  have H := hide h
  have hx' : (X != 0) = true := by simpa using hx
  clear h hX
  obtain ⟨hs, cc, fs⟩ := boxes1 w 28 [.pointer p, .pointer tp]
  go_enter Try.func18, Try.ntmps18
  go_wp2_with fail
  generalize w.alloc (.cells #[.pointer p, .pointer tp] 28) = w3 at *
  generalize w.heap.size = s at *
  refine (refat_is (H.out.grow cc) h1 HP.out HX.out).mono ?_
  rintro e w4 ⟨rfl, c_w4⟩
  replace hs := hs.chg c_w4 id
  replace cc := cc.step c_w4 (fun _ _ h => h.elim)
  clear c_w4 
  go_wp2
  go_ret
  exact ⟨rfl, cc⟩
set_option maxHeartbeats 1000000 in
theorem setref_in {i k P u : Int} (h : St w p tp g xs cs) (h1 : i ≤ 9223372036854775807) (hX : slX xs cs i k false = 0) (hP : slP xs cs i k false = P) :
    Calls Try.prog 18 #[stV p tp, .int .i64 i, .int .i64 k, .int .i64 u] w fun e w' => e = .returned (.int .i64 0) ∧ St w' p tp g (xs.set P.toNat u) cs ∧ Chg (· = g) w w' := by
  have hn := h.n
  have hb := sl_bd h.rt hX
  rw [hP] at hb
  have HX := hide hX
  have HP := hide hP
  obtain ⟨K, rfl⟩ := Int.eq_ofNat_of_zero_le (show 0 ≤ P by omega)
  have hk : K < xs.length := by omega
  obtain ⟨b, rfl, -⟩ : ∃ b, p = some ⟨b, 0, none⟩ ∧ Ar w b g xs := by
    rcases h.ar with ⟨_, rfl⟩ | ha
    · simp at hk
    · exact ha
  have H := hide h
  clear h hX hP hb
  obtain ⟨hs, cc, fs⟩ := boxes1 w 28 [.pointer (some ⟨b, 0, none⟩), .pointer tp]
  go_enter Try.func18, Try.ntmps18
  go_wp2_with fail
  generalize w.alloc (.cells #[.pointer (some ⟨b, 0, none⟩), .pointer tp] 28) = w3 at *
  generalize w.heap.size = s at *
  refine (refat_is (H.out.grow cc) h1 HP.out HX.out).mono ?_
  rintro e w4 ⟨rfl, c_w4⟩
  replace hs := hs.chg c_w4 id
  replace cc := cc.step c_w4 (fun _ _ h => h.elim)
  clear c_w4 
  obtain ⟨s0, s1⟩ := hs.cell2
  go_wp2_with fail
  have H4 := hide (H.out.grow cc)
  obtain ⟨ha⟩ : Nonempty (Ar w4 b g xs) := by
    rcases H4.out.ar with ⟨e, _⟩ | ⟨b', e, ha⟩
    · cases e
    · injection e with e; injection e with e; subst e; exact ⟨ha⟩
  refine (L1.store_ok b g xs K u w4 ha hn hk).mono ?_
  rintro e w5 ⟨rfl, ha5, c5⟩
  have H5 := hide (H4.out.put ha5 (by simp) c5)
  have c6 := (cc.mono (S := (· = g)) (fun _ _ h => h.elim)).trans c5
  clear ha ha5 c5 cc s0 s1 hs
  go_wp2
  go_ret
  exact ⟨rfl, H5.out, c6⟩
set_option maxHeartbeats 1000000 in
theorem setnum_no {i k u X : Int} (h : St w p tp g xs cs) (h1 : i ≤ 9223372036854775807) (hX : slX xs cs i k true = X) (hx : ¬ X = 0) :
    Calls Try.prog 19 #[stV p tp, .int .i64 i, .int .i64 k, .int .i64 u] w fun e w' => e = .returned (.int .i64 X) ∧ Grow w w' := by
  have HP := hide (show slP xs cs i k true = 0 by simp [slP, hX, hx])
  have HX := hide hX
  have H := hide h
  have hx' : (X != 0) = true := by simpa using hx
  clear h hX
  obtain ⟨hs, cc, fs⟩ := boxes1 w 28 [.pointer p, .pointer tp]
  go_enter Try.func19, Try.ntmps19
  go_wp2_with fail
  generalize w.alloc (.cells #[.pointer p, .pointer tp] 28) = w3 at *
  generalize w.heap.size = s at *
  refine (numat_is (H.out.grow cc) h1 HP.out HX.out).mono ?_
  rintro e w4 ⟨rfl, c_w4⟩
  replace hs := hs.chg c_w4 id
  replace cc := cc.step c_w4 (fun _ _ h => h.elim)
  clear c_w4 
  go_wp2
  go_ret
  exact ⟨rfl, cc⟩
set_option maxHeartbeats 1000000 in
theorem setnum_in {i k P u : Int} (h : St w p tp g xs cs) (h1 : i ≤ 9223372036854775807) (hX : slX xs cs i k true = 0) (hP : slP xs cs i k true = P) :
    Calls Try.prog 19 #[stV p tp, .int .i64 i, .int .i64 k, .int .i64 u] w fun e w' => e = .returned (.int .i64 0) ∧ St w' p tp g (xs.set P.toNat u) cs ∧ Chg (· = g) w w' := by
  have hn := h.n
  have hb := sl_bd h.rt hX
  rw [hP] at hb
  have HX := hide hX
  have HP := hide hP
  obtain ⟨K, rfl⟩ := Int.eq_ofNat_of_zero_le (show 0 ≤ P by omega)
  have hk : K < xs.length := by omega
  obtain ⟨b, rfl, -⟩ : ∃ b, p = some ⟨b, 0, none⟩ ∧ Ar w b g xs := by
    rcases h.ar with ⟨_, rfl⟩ | ha
    · simp at hk
    · exact ha
  have H := hide h
  clear h hX hP hb
  obtain ⟨hs, cc, fs⟩ := boxes1 w 28 [.pointer (some ⟨b, 0, none⟩), .pointer tp]
  go_enter Try.func19, Try.ntmps19
  go_wp2_with fail
  generalize w.alloc (.cells #[.pointer (some ⟨b, 0, none⟩), .pointer tp] 28) = w3 at *
  generalize w.heap.size = s at *
  refine (numat_is (H.out.grow cc) h1 HP.out HX.out).mono ?_
  rintro e w4 ⟨rfl, c_w4⟩
  replace hs := hs.chg c_w4 id
  replace cc := cc.step c_w4 (fun _ _ h => h.elim)
  clear c_w4 
  obtain ⟨s0, s1⟩ := hs.cell2
  go_wp2_with fail
  have H4 := hide (H.out.grow cc)
  obtain ⟨ha⟩ : Nonempty (Ar w4 b g xs) := by
    rcases H4.out.ar with ⟨e, _⟩ | ⟨b', e, ha⟩
    · cases e
    · injection e with e; injection e with e; subst e; exact ⟨ha⟩
  refine (L1.store_ok b g xs K u w4 ha hn hk).mono ?_
  rintro e w5 ⟨rfl, ha5, c5⟩
  have H5 := hide (H4.out.put ha5 (by simp) c5)
  have c6 := (cc.mono (S := (· = g)) (fun _ _ h => h.elim)).trans c5
  clear ha ha5 c5 cc s0 s1 hs
  go_wp2
  go_ret
  exact ⟨rfl, H5.out, c6⟩
end
end Go.Proofs.Ytgknndbahdjghaa.L6

/- For all classes and numbers ObjectFields answers true: what is laid into one object's references and numbers is there, and changes neither its head, nor any other field, nor any other object. Conditions: none. -/
import Derived.Test.YtgknndbahdjghaaL6Fill
import Derived.LoopTactic
namespace Go.Proofs.Ytgknndbahdjghaa.objectFields
open Go.ChangeShapes Go.WideShapes Go.ChangeAt Go.RowKit Go.Proofs.Ytgknndbahdjghaa.L6
open Go.Proofs.Ytgknndbahdjghaa.L4 (hdV)
open Go.Proofs.Ytgknndbahdjghaa.L5 (Cl IsCls newX clAt shX shR shD open_cls)
set_option linter.unusedVariables false

set_option maxHeartbeats 1000000 in
set_option maxRecDepth 100000 in
theorem walk_many (a a3 a4 : Option Addr) (len cap len3 cap3 len4 cap4 : Nat) (n o : Int) (w : World) (h : 60 < len3 ∨ 60 < len4) :
    Calls Try.prog 4 #[.slice a len cap, .int .u8 n, .int .u8 o, .slice a3 len3 cap3, .slice a4 len4 cap4] w fun e w' => e = .returned (.bool true) ∧ Below w.heap.size w w' := by
  by_cases h1 : 60 < len3
  · have q1 : decide ((len3 : Int) > 60) = true := by simp; omega
    clear h
    go_enter Try.func4, Try.ntmps4
    go_wp2_with fail
    refine (awake_any _).mono ?_
    rintro e wa ⟨rfl, ca⟩
    go_wp2_with fail
    refine (awake_any _).mono ?_
    rintro e wb ⟨rfl, cb⟩
    go_wp2
    go_ret
    exact ⟨rfl, (ca.trans cb).below (fun _ _ h => h) (Nat.le_refl _)⟩
  · have q1 : decide ((len3 : Int) > 60) = false := by simp; omega
    have q2 : decide ((len4 : Int) > 60) = true := by simp; omega
    clear h h1
    go_enter Try.func4, Try.ntmps4
    go_wp2_with fail
    refine (awake_any _).mono ?_
    rintro e wa ⟨rfl, ca⟩
    go_wp2_with fail
    refine (awake_any _).mono ?_
    rintro e wb ⟨rfl, cb⟩
    go_wp2
    go_ret
    exact ⟨rfl, (ca.trans cb).below (fun _ _ h => h) (Nat.le_refl _)⟩
set_option maxHeartbeats 1000000 in
set_option maxRecDepth 100000 in
theorem walk_long (a a3 a4 : Option Addr) (len cap len3 cap3 len4 cap4 : Nat) (n o : Int) (w : World) (h3 : len3 ≤ 60) (h4 : len4 ≤ 60) (hl : 100 < len) :
    Calls Try.prog 4 #[.slice a len cap, .int .u8 n, .int .u8 o, .slice a3 len3 cap3, .slice a4 len4 cap4] w fun e w' => e = .returned (.bool true) ∧ Below w.heap.size w w' := by
  have q1 : decide ((len3 : Int) > 60) = false := by simp; omega
  have q2 : decide ((len4 : Int) > 60) = false := by simp; omega
  go_enter Try.func4, Try.ntmps4
  go_wp2_with fail
  refine (awake_any _).mono ?_
  rintro e wa ⟨rfl, ca⟩
  go_wp2_with fail
  refine (both_long 200 wa hl).mono ?_
  rintro e w1 ⟨rfl, c1⟩
  replace ca := ca.trans c1
  clear c1
  have cz := (ca.alloc (.cells [.pointer none, .pointer none].toArray 28)).alloc (.cells [.pointer none, .slice none 0 0].toArray 31)
  go_wp2
  go_ret
  exact ⟨rfl, cz.below (fun _ _ h => h) (Nat.le_refl _)⟩
set_option maxHeartbeats 1000000 in
set_option maxRecDepth 100000 in
theorem walk_bad (a a3 a4 : Option Addr) (len cap len3 cap3 len4 cap4 : Nat) (cs : List Cl) (n o : Int) (w : World) (h3 : len3 ≤ 60) (h4 : len4 ≤ 60) (h : IsCls w a len cap cs) (hl : len ≤ 100) (hX : ¬ newX cs = 0) :
    Calls Try.prog 4 #[.slice a len cap, .int .u8 n, .int .u8 o, .slice a3 len3 cap3, .slice a4 len4 cap4] w fun e w' => e = .returned (.bool true) ∧ Below w.heap.size w w' := by
  have q1 : decide ((len3 : Int) > 60) = false := by simp; omega
  have q2 : decide ((len4 : Int) > 60) = false := by simp; omega
  have H := hide h
  have HX := hide hX
  clear h hX
  go_enter Try.func4, Try.ntmps4
  go_wp2_with fail
  refine (awake_any _).mono ?_
  rintro e wa ⟨rfl, ca⟩
  go_wp2_with fail
  refine (both_no 200 wa (H.out.chg ca (fun _ _ => id)) hl HX.out).mono ?_
  rintro e w1 ⟨rfl, c1⟩
  replace ca := ca.trans c1
  clear c1
  have cz := (ca.alloc (.cells [.pointer none, .pointer none].toArray 28)).alloc (.cells [.pointer none, .slice none 0 0].toArray 31)
  go_wp2
  go_ret
  exact ⟨rfl, cz.below (fun _ _ h => h) (Nat.le_refl _)⟩
set_option maxHeartbeats 1000000 in
set_option maxRecDepth 100000 in
theorem walk_none (a a3 a4 : Option Addr) (cap len3 cap3 len4 cap4 : Nat) (n o : Int) (w : World) (h3 : len3 ≤ 60) (h4 : len4 ≤ 60) (h : IsCls w a 0 cap []) :
    Calls Try.prog 4 #[.slice a 0 cap, .int .u8 n, .int .u8 o, .slice a3 len3 cap3, .slice a4 len4 cap4] w fun e w' => e = .returned (.bool true) ∧ Below w.heap.size w w' := by
  have q1 : decide ((len3 : Int) > 60) = false := by simp; omega
  have q2 : decide ((len4 : Int) > 60) = false := by simp; omega
  have H := hide h
  have hl : 0 ≤ 100 := by omega
  have HX := hide (show newX [] = 0 by decide)
  clear h
  go_enter Try.func4, Try.ntmps4
  go_wp2_with fail
  refine (awake_any _).mono ?_
  rintro e wa ⟨rfl, ca⟩
  go_wp2_with fail
  refine (both_yes 200 wa (H.out.chg ca (fun _ _ => id)) hl HX.out).mono ?_
  rintro e w1 ⟨b, tg, g, q, rfl, hs1, hg, c1⟩
  have HS := hide hs1
  have HG : Fresh w g := Nat.le_trans ca.size hg
  replace ca := ca.trans c1
  clear hs1 hg c1
  have cz := (ca.alloc (.cells [.pointer (some ⟨b, 0, none⟩), .pointer (some ⟨tg, 0, none⟩)].toArray 28)).alloc (.cells [.pointer (some ⟨q, 0, none⟩), .slice a 0 cap].toArray 31)
  go_wp2
  go_ret
  exact ⟨rfl, cz.below (fun _ _ h => h) (Nat.le_refl _)⟩
theorem facts {cs : List Cl} {i j r d r2 d2 : Nat} {c c2 : Cl} (hc : cs[i]? = some c) (hc2 : cs[j]? = some c2) (hX : newX cs = 0) (hX0 : shX (some c) 0 = 0) (hX2 : shX (some c2) 0 = 0) (hr : shR (some c) 0 = r) (hd : shD (some c) 0 = d) (hr2 : shR (some c2) 0 = r2) (hd2 : shD (some c2) 0 = d2) (rs ds : List Int) :
    ∀ xs, layL (layL (zeros 200) 1 (2 + r + d) ((i : Int) + 1) 0 c.f) 100 (2 + r2 + d2) ((j : Int) + 1) 0 c2.f = xs →
      xs.length = 200 ∧ IsOb xs cs 1 i c 0 ∧ Fl xs r d rs ds 0 0 xs := by
  obtain ⟨hrt, hl⟩ := L5.new_zero hX
  have hbd := L5.sh_bd (o := some c) (fun c' e => by injection e with e; subst e; exact L5.all_rt hrt hc) 0
  have hbd2 := L5.sh_bd (o := some c2) (fun c' e => by injection e with e; subst e; exact L5.all_rt hrt hc2) 0
  rw [hr, hd] at hbd
  rw [hr2, hd2] at hbd2
  rintro xs rfl
  have h0 : (zeros 200).length = 200 := zeros_length _
  generalize zeros 200 = xs0 at *
  have h1 : (layL xs0 1 (2 + r + d) ((i : Int) + 1) 0 c.f).length = 200 := by rw [layL_length]; exact h0
  have g1 := fun j => layL_get xs0 1 (2 + r + d) ((i : Int) + 1) 0 c.f j (by omega) (by omega)
  have o1 := layL_ob (xs := xs0) (a := 1) (n := 2 + r + d) hc hl hrt hX0 (by rw [hr, hd]; omega) (by omega) (by omega)
  generalize layL xs0 1 (2 + r + d) ((i : Int) + 1) 0 c.f = xs1 at *
  have g2 := fun k => layL_get xs1 100 (2 + r2 + d2) ((j : Int) + 1) 0 c2.f k (by omega) (by omega)
  have hl2 : (layL xs1 100 (2 + r2 + d2) ((j : Int) + 1) 0 c2.f).length = 200 := by rw [layL_length]; exact h1
  refine ⟨hl2, ?_, .start hl2 fun k h3 h4 => ?_⟩
  · refine o1.same (layL_length _ _ _ _ _ _) ?_ ?_
    · rw [g2, if_neg (by omega), if_neg (by omega), if_neg (by omega)]
    · rw [g2, if_neg (by omega), if_neg (by omega), if_neg (by omega)]
  · rw [g2, if_neg (by omega), if_neg (by omega), if_neg (by omega), g1, if_neg (by omega), if_neg (by omega), if_pos (by omega)]
theorem awords_new {w : World} {tp : Option Addr} {g : Nat} {xs : List Int} {cs : List Cl} {b a m : Nat} {i n : Int} (h : St w (some ⟨b, 0, none⟩) tp g xs cs) (hi : i = (a : Int)) (hn : n = (m : Int)) (hk : a + m ≤ xs.length) :
    Calls Try.prog 17 #[.pointer (some ⟨b, 0, none⟩), .int .i64 i, .int .i64 n] w fun e w' => ∃ z, e = .returned (.tuple #[.slice (some ⟨z, 0, none⟩) m m, .int .i64 0]) ∧ Blk w' z 3 (ints ((xs.drop a).take m)) ∧ Grow w w' ∧ Fresh w z := by
  subst hi hn
  exact (L1.words_ok b g xs a m w h.open_ h.n hk).mono fun e w' ⟨he, hb, hc⟩ => ⟨_, he, hb, hc, Nat.le_refl _⟩
theorem cut_length (a m : Nat) (xs : List Int) (h : a + m ≤ xs.length) : ((xs.drop a).take m).length = m := by simp; omega
theorem again {w w' : World} {b g : Nat} {tp : Option Addr} {xs ys : List Int} {cs : List Cl} (h : St w (some ⟨b, 0, none⟩) tp g xs cs) (c : Chg (· = g) w w') (hb : Blk w' g 3 (ints ys)) (hl : ys.length = xs.length) : St w' (some ⟨b, 0, none⟩) tp g ys cs :=
  h.put ⟨by rw [hl]; exact h.open_.1.chg c h.open_.ne, hb⟩ hl c
theorem slr {xs : List Int} {cs : List Cl} {i r k : Nat} {c : Cl} (h : IsOb xs cs 1 i c 0) (hrt : cs.all Cl.rt = true) (hr : shR (some c) 0 = r) (hk : k < r) : slX xs cs 1 k false = 0 ∧ slP xs cs 1 k false = 3 + (k : Int) := by
  obtain ⟨h1, h2⟩ := h.sl hrt (k : Int) false
  have hx : slX xs cs 1 k false = 0 := by
    refine h1.trans ?_
    rw [if_neg (by decide), hr, plX, if_pos (by omega)]
  refine ⟨hx, (h2 hx).trans ?_⟩
  rw [if_neg (by decide)]
  omega
theorem slr_no {xs : List Int} {cs : List Cl} {i r k : Nat} {c : Cl} (h : IsOb xs cs 1 i c 0) (hrt : cs.all Cl.rt = true) (hr : shR (some c) 0 = r) (hk : r ≤ k) : slX xs cs 1 k false = 1 := by
  refine (h.sl hrt (k : Int) false).1.trans ?_
  rw [if_neg (by decide), hr, plX, if_neg (by omega)]
theorem sln {xs : List Int} {cs : List Cl} {i r d k : Nat} {c : Cl} (h : IsOb xs cs 1 i c 0) (hrt : cs.all Cl.rt = true) (hr : shR (some c) 0 = r) (hd : shD (some c) 0 = d) (hk : k < d) : slX xs cs 1 k true = 0 ∧ slP xs cs 1 k true = 3 + (r : Int) + (k : Int) := by
  obtain ⟨h1, h2⟩ := h.sl hrt (k : Int) true
  have hx : slX xs cs 1 k true = 0 := by
    refine h1.trans ?_
    rw [if_pos rfl, hd, plX, if_pos (by omega)]
  refine ⟨hx, (h2 hx).trans ?_⟩
  rw [if_pos rfl, hr]
  omega
theorem sln_no {xs : List Int} {cs : List Cl} {i r d k : Nat} {c : Cl} (h : IsOb xs cs 1 i c 0) (hrt : cs.all Cl.rt = true) (hr : shR (some c) 0 = r) (hd : shD (some c) 0 = d) (hk : d ≤ k) : slX xs cs 1 k true = 1 := by
  refine (h.sl hrt (k : Int) true).1.trans ?_
  rw [if_pos rfl, hd, plX, if_neg (by omega)]
set_option maxHeartbeats 60000000 in
set_option maxRecDepth 100000 in
theorem walk_main (a a3 a4 : Option Addr) (len cap len3 cap3 len4 cap4 i j r d r2 d2 : Nat) (cs : List Cl) (K R D K2 R2 D2 : Int) (f f2 : Bool) (rs ds : List Int) (n o : Int) (w : World) (h : IsCls w a len cap cs) (h3 : len3 ≤ 60) (h4 : len4 ≤ 60) (hrs : IsRow .i64 w a3 len3 cap3 rs) (hds : IsRow .i64 w a4 len4 cap4 ds) (hl : len ≤ 100) (hX : newX cs = 0) (h0 : 0 < len)
    (hn : 0 ≤ n ∧ n ≤ 255) (hi : n % (len : Int) = i) (ho : 0 ≤ o ∧ o ≤ 255) (hj : o % (len : Int) = j) (hc : cs[i]? = some ⟨K, R, D, f⟩) (hc2 : cs[j]? = some ⟨K2, R2, D2, f2⟩) (hX0 : shX (some ⟨K, R, D, f⟩) 0 = 0) (hX2 : shX (some ⟨K2, R2, D2, f2⟩) 0 = 0)
    (hr : shR (some ⟨K, R, D, f⟩) 0 = r) (hd : shD (some ⟨K, R, D, f⟩) 0 = d) (hr2 : shR (some ⟨K2, R2, D2, f2⟩) 0 = r2) (hd2 : shD (some ⟨K2, R2, D2, f2⟩) 0 = d2) :
    Calls Try.prog 4 #[.slice a len cap, .int .u8 n, .int .u8 o, .slice a3 len3 cap3, .slice a4 len4 cap4] w fun e w' => e = .returned (.bool true) ∧ Below w.heap.size w w' := by
  have q1 : decide ((len3 : Int) > 60) = false := by simp; omega
  have q2 : decide ((len4 : Int) > 60) = false := by simp; omega
  have hil : i < len := by have := (List.getElem?_eq_some_iff.1 hc).1; rw [h.len] at this; exact this
  have hjl : j < len := by have := (List.getElem?_eq_some_iff.1 hc2).1; rw [h.len] at this; exact this
  have hbd := L5.sh_bd (o := some (⟨K, R, D, f⟩ : Cl)) (fun c' e => by injection e with e; subst e; exact L5.all_rt (L5.new_zero hX).1 hc) 0
  have hbd2 := L5.sh_bd (o := some (⟨K2, R2, D2, f2⟩ : Cl)) (fun c' e => by injection e with e; subst e; exact L5.all_rt (L5.new_zero hX).1 hc2) 0
  rw [hr, hd] at hbd
  rw [hr2, hd2] at hbd2
  have hrd : 2 + r + d ≤ 32 ∧ 2 + r2 + d2 ≤ 32 := by omega
  have hcl : clAt cs (1 + (i : Int)) = some ⟨K, R, D, f⟩ := by rw [show (1 + (i : Int)) = (i : Int) + 1 by omega]; exact L5.clAt_at hc
  have hcl2 : clAt cs (1 + (j : Int)) = some ⟨K2, R2, D2, f2⟩ := by rw [show (1 + (j : Int)) = (j : Int) + 1 by omega]; exact L5.clAt_at hc2
  have HWO := hide (show L5.woV (clAt cs (1 + (i : Int))) 0 = ((2 + r + d : Nat) : Int) by rw [hcl, L5.woV, if_pos hX0, hr, hd]; simp)
  have HWO2 := hide (show L5.woV (clAt cs (1 + (j : Int))) 0 = ((2 + r2 + d2 : Nat) : Int) by rw [hcl2, L5.woV, if_pos hX2, hr2, hd2]; simp)
  have HCL := hide hcl
  have HCL2 := hide hcl2
  have hFA := hide (facts hc hc2 hX hX0 hX2 hr hd hr2 hd2 rs ds)
  have hz : (len : Int) ≠ 0 := by omega
  have hz' : ((len : Int) == 0) = false := by simp; omega
  have u1 : IntKind.i64.wrap n = n := IntWalk.i64_in _ (by omega)
  have u2 : IntKind.i64.wrap o = o := IntWalk.i64_in _ (by omega)
  have u3 : IntKind.i64.wrap (n.tmod (len : Int)) = i := by rw [Int.tmod_eq_emod_of_nonneg hn.1, hi]; exact IntWalk.i64_in _ (by omega)
  have u4 : IntKind.i64.wrap (o.tmod (len : Int)) = j := by rw [Int.tmod_eq_emod_of_nonneg ho.1, hj]; exact IntWalk.i64_in _ (by omega)
  have u5 : IntKind.i64.wrap (1 + (i : Int)) = 1 + i := IntWalk.i64_in _ (by omega)
  have u6 : IntKind.i64.wrap (1 + (j : Int)) = 1 + j := IntWalk.i64_in _ (by omega)
  have H := hide h
  have HX := hide hX
  have HCC := hide hc
  have HCC2 := hide hc2
  have HX0 := hide hX0
  have HX2 := hide hX2
  have HR := hide hr
  have HD := hide hd
  have HRS := hide hrs
  have HDS := hide hds
  clear h hX hc hc2 hX0 hX2 hr hd hr2 hd2 hcl hcl2 hrs hds hbd hbd2
  go_enter Try.func4, Try.ntmps4
  go_wp2_with fail
  refine (awake_any _).mono ?_
  rintro e wa ⟨rfl, ca⟩
  go_wp2_with fail
  refine (both_yes 200 wa (H.out.chg ca (fun _ _ => id)) hl HX.out).mono ?_
  rintro e w1 ⟨b, tg, g, q, rfl, hs1, hg, c1⟩
  have HS := hide hs1
  have HG : Fresh w g := Nat.le_trans ca.size hg
  replace ca := ca.trans c1
  clear hs1 hg c1
  rw [show L1.clamp 200 = 200 by decide] at HS
  have ngs0 := hide HS.out.lt
  obtain ⟨hs, hr_, cc, fs, fr_, n_sr_⟩ := boxes2 w1 28 [.pointer (some ⟨b, 0, none⟩), .pointer (some ⟨tg, 0, none⟩)] 31 [.pointer (some ⟨q, 0, none⟩), .slice a len cap]
  go_wp2_with fail
  have ngs : ¬ w1.heap.size = g := by have := ngs0.out; omega
  clear ngs0 hr_ q1 q2
  replace HS := hide (HS.out.grow cc)
  replace ca := ca.trans cc
  clear cc
  generalize (w1.alloc (.cells #[.pointer (some ⟨b, 0, none⟩), .pointer (some ⟨tg, 0, none⟩)] 28)).alloc (.cells #[.pointer (some ⟨q, 0, none⟩), .slice a len cap] 31) = w3 at *
  generalize w1.heap.size + 1 = r_ at *
  generalize w1.heap.size = s at *
  go_quiet (fail)
  replace HS := hide (HS.out.grow ((Chg.refl (fun _ => False) _).drewN nq))
  replace hs := hs.drewN nq
  replace ca := ca.drewN nq
  generalize w3.drewN nq = w4 at *
  clear u1 u2 u3 u4 u5 u6 hz hz' hn hi ho hj
  obtain ⟨s0, s1⟩ := hs.cell2
  have hl63 := (L5.new_zero HX.out).2
  go_wp2_with fail
  refine (lay_ok (a := 1) (n := 2 + r + d) HS.out HCC.out (Int.add_comm _ _) (by rw [HCL.out]; exact HX0.out) HWO.out hl63 (by omega) (by rw [zeros_length]; omega)).mono ?_
  rintro e w5 ⟨rfl, hs', c'⟩
  replace HS := hide hs'
  replace hs := hs.chg c' ngs
  replace ca := L6.chg_new ca c' HG
  clear hs' c' s0 s1
  obtain ⟨s0, s1⟩ := hs.cell2
  go_wp2_with fail
  refine (lay_ok (a := 100) (n := 2 + r2 + d2) HS.out HCC2.out (Int.add_comm _ _) (by rw [HCL2.out]; exact HX2.out) HWO2.out hl63 (by omega) (by rw [layL_length, zeros_length]; omega)).mono ?_
  rintro e w6 ⟨rfl, hs', c'⟩
  replace HS := hide hs'
  replace hs := hs.chg c' ngs
  replace ca := L6.chg_new ca c' HG
  clear hs' c' s0 s1
  obtain ⟨s0, s1⟩ := hs.cell2
  rw [Int.add_comm 1 (i : Int), Int.add_comm 1 (j : Int)] at HS
  obtain ⟨ys, hys⟩ : ∃ ys, layL (layL (zeros 200) 1 (2 + r + d) ((i : Int) + 1) 0 f) 100 (2 + r2 + d2) ((j : Int) + 1) 0 f2 = ys := ⟨_, rfl⟩
  obtain ⟨f1, f2_, f3⟩ := hFA.out ys hys
  rw [hys] at HS
  have HOB := hide (f2_.ob HS.out.rt)
  have HIS := hide f2_
  have HFL := hide f3
  clear hys hFA f2_ f3
  go_wp2_with fail
  refine (oshape_is (i := 1) (R := (r : Int)) (D := (d : Int)) (X := 0) HS.out (by decide) (by have := HOB.out.1; exact (congrArg Th.r this).trans HR.out) (by have := HOB.out.1; exact (congrArg Th.n this).trans HD.out) HOB.out.2).mono ?_
  rintro e w7 ⟨rfl, c'⟩
  replace HS := hide (HS.out.grow c')
  replace hs := hs.chg c' id
  replace ca := ca.trans c'
  clear c' s0 s1
  go_wp2_with fail
  have ngz := hide HS.out.lt
  refine (awords_new (a := 100) (m := 40) HS.out rfl rfl (by rw [f1]; omega)).mono ?_
  rintro e w8 ⟨z1, rfl, hb1, c8, hzf⟩
  replace HS := hide (HS.out.grow c8)
  replace hs := hs.chg c8 id
  replace ca := ca.trans c8
  clear c8
  have nzg : ¬ z1 = g := by have : g < w7.heap.size := ngz.out; have : w7.heap.size ≤ z1 := hzf; omega
  clear hzf ngz
  obtain ⟨s0, s1⟩ := hs.cell2
  go_wp2_with fail
  refine (head_is (i := 1) (C := (i : Int) + 1) (A := 0) (F := 0) (m := false) (f := f) (d := false) (X := 0) HS.out (by decide) (by have := HOB.out.1; exact (by rw [show obT ys cs 1 = obV i ⟨K, R, D, f⟩ 0 from this]; rfl)) HOB.out.2).mono ?_
  rintro e w9 ⟨rfl, c9⟩
  replace HS := hide (HS.out.grow c9)
  replace hs := hs.chg c9 id
  replace ca := ca.trans c9
  replace hb1 := hb1.chg c9 id
  clear c9 s0 s1
  have nhg : ¬ w9.heap.size = g := by have := HS.out.lt; omega
  have hh := Blk.new w9 45 [.int .i64 ((i : Int) + 1), .int .i64 0, .int .i64 0, .bool false, .bool f, .bool false]
  replace hs := hs.alloc (.cells [.int .i64 ((i : Int) + 1), .int .i64 0, .int .i64 0, .bool false, .bool f, .bool false].toArray 45)
  replace hb1 := hb1.alloc (.cells [.int .i64 ((i : Int) + 1), .int .i64 0, .int .i64 0, .bool false, .bool f, .bool false].toArray 45)
  replace ca := ca.alloc (.cells [.int .i64 ((i : Int) + 1), .int .i64 0, .int .i64 0, .bool false, .bool f, .bool false].toArray 45)
  replace HS := hide (HS.out.grow (Grow.box w9 (.cells [.int .i64 ((i : Int) + 1), .int .i64 0, .int .i64 0, .bool false, .bool f, .bool false].toArray 45)))
  go_wp2_with fail
  generalize w9.alloc (.cells #[.int .i64 ((i : Int) + 1), .int .i64 0, .int .i64 0, .bool false, .bool f, .bool false] 45) = w10 at *
  generalize w9.heap.size = hb at *
  go_loopw [105] (fun x wr => ∃ (k : Nat) (xs : List Int), k ≤ len3 ∧ x = .int .i64 k ∧ Chg (· = g) w10 wr ∧ Blk wr g 3 (ints xs) ∧ Fl ys r d rs ds k 0 xs) (fun x _ => len3 - (intOf x).toNat)
  case atStart => exact ⟨0, ys, Nat.zero_le _, rfl, Chg.refl _ _, HS.out.open_.2, HFL.out⟩
  case round =>
    obtain ⟨k, xs, hk, rfl, cg, hbg, hfl⟩ := hrel
    have HSR := hide (again HS.out cg hbg (hfl.1.trans f1.symm))
    by_cases hlt : k < len3
    · as_aux_lemma =>
      obtain ⟨x3, rfl, hx0, -⟩ := HRS.out.at_ hlt
      have hxb : ¬ (x3.add k).block = g := by have := cell_lt hx0; have hg : w.heap.size ≤ g := HG; omega
      have hx := cg.cell (ca.cell hx0 id) hxb
      obtain ⟨u, hu⟩ : ∃ u, rs.getD k 0 = u := ⟨_, rfl⟩
      rw [hu] at hx
      have hs5 := hs.chg cg ngs
      have HK := hide (show ∀ W, Chg (· = g) wr.drew W → W.cell? ⟨s, 0, none⟩ = some (.pointer (some ⟨b, 0, none⟩)) ∧ W.cell? ⟨s, 1, none⟩ = some (.pointer (some ⟨tg, 0, none⟩)) ∧ W.cell? (x3.add k) = some (.int .i64 u) from fun W c =>
        ⟨((hs5.drew).chg c ngs).cell 0, ((hs5.drew).chg c ngs).cell 1, c.cell (w := wr.drew) hx hxb⟩)
      have HOX := hide (hfl.ob HIS.out f1)
      have HSD := hide (HSR.out.grow (Chg.refl (fun _ => False) wr).drew)
      obtain ⟨s0, s1⟩ := hs5.cell2
      clear hx0 hs5
      by_cases hkr : k < r
      · have hq : decide ((k : Int) < (r : Int)) = true := by simp; omega
        have hX1 : slX xs cs 1 k false = 0 := (slr HOX.out HSR.out.rt HR.out hkr).1
        have hP1 : slP xs cs 1 k false = 3 + (k : Int) := (slr HOX.out HSR.out.rt HR.out hkr).2
        have HC1 := hide (setref_in (u := u) HSD.out (by decide) hX1 hP1)
        have HF := hide (hfl.ref hkr (by omega) u hu)
        clear hX1 hP1 hfl
        go_wp2_with fail
        go_region_held3 (fun W => W.cell? ⟨s, 0, none⟩ = some (.pointer (some ⟨b, 0, none⟩)) ∧ W.cell? ⟨s, 1, none⟩ = some (.pointer (some ⟨tg, 0, none⟩)) ∧ W.cell? (x3.add k) = some (.int .i64 u)) (first | exact HK.out _ c3 | exact HK.out _ (Chg.refl _ _) | go_keep) (first | (go_at_call 18; refine HC1.out.mono ?_; rintro e wz ⟨rfl, hz3, c3⟩))
        all_goals
          rw [show (3 + (k : Int) : Int).toNat = 3 + k by omega] at hz3
          have HB5 := hide hz3.open_.2
          have HCG := hide (cg.trans ((Chg.refl (fun q => q = g) wr).drew.trans c3))
          clear HK HC1 hz3 c3 s0 s1 hx
          go_wp2
          go_roundw
          case rel => first | exact ⟨k + 1, _, by omega, by go_num, HCG.out, HB5.out, HF.out⟩ | exact ⟨_, _, _, _, _, _, _, _, _, _, _, _, _, _, _, _, _, _, ⟨k + 1, _, by omega, by go_num, HCG.out, HB5.out, HF.out⟩, rfl⟩
          case measure => simp [intOf]; omega
      · have hq : decide ((k : Int) < (r : Int)) = false := by simp; omega
        have hX1 : slX xs cs 1 k false = 1 := slr_no HOX.out HSR.out.rt HR.out (by omega)
        have HC1 := hide (setref_no (u := u) HSD.out (by decide) hX1 (by decide))
        have HF := hide (hfl.refOut (by omega))
        clear hX1 hfl
        go_wp2_with fail
        go_region_held3 (fun W => W.cell? ⟨s, 0, none⟩ = some (.pointer (some ⟨b, 0, none⟩)) ∧ W.cell? ⟨s, 1, none⟩ = some (.pointer (some ⟨tg, 0, none⟩)) ∧ W.cell? (x3.add k) = some (.int .i64 u)) (first | exact HK.out _ (Chg.mono c3 (fun _ _ h => False.elim h)) | exact HK.out _ (Chg.refl _ _) | go_keep) (first | (go_at_call 18; refine HC1.out.mono ?_; rintro e wz ⟨rfl, c3⟩))
        all_goals
          have c4 := (Chg.refl (fun _ => False) wr).drew.trans c3
          have HB5 := hide (hbg.chg c4 id)
          have HCG := hide (cg.step c4 (fun _ _ h => False.elim h))
          clear HK HC1 c3 c4 s0 s1 hx
          go_wp2
          go_roundw
          case rel => first | exact ⟨k + 1, _, by omega, by go_num, HCG.out, HB5.out, HF.out⟩ | exact ⟨_, _, _, _, _, _, _, _, _, _, _, _, _, _, _, _, _, _, ⟨k + 1, _, by omega, by go_num, HCG.out, HB5.out, HF.out⟩, rfl⟩
          case measure => simp [intOf]; omega
    · obtain rfl : k = len3 := by omega
      clear hlt hk
      go_wp2
      go_loopw [123] (fun x wr => ∃ (m : Nat) (xs : List Int), m ≤ len4 ∧ x = .int .i64 m ∧ Chg (· = g) w10 wr ∧ Blk wr g 3 (ints xs) ∧ Fl ys r d rs ds k m xs) (fun x _ => len4 - (intOf x).toNat)
      case atStart => exact ⟨0, xs, Nat.zero_le _, rfl, cg, hbg, hfl⟩
      case round =>
        clear HSR cg hbg hfl
        obtain ⟨mv, xs, hm, rfl, cg, hbg, hfl⟩ := hrel
        have HSR := hide (again HS.out cg hbg (hfl.1.trans f1.symm))
        by_cases hlt : mv < len4
        · as_aux_lemma =>
          obtain ⟨x3, rfl, hx0, -⟩ := HDS.out.at_ hlt
          have hxb : ¬ (x3.add mv).block = g := by have := cell_lt hx0; have hg : w.heap.size ≤ g := HG; omega
          have hx := cg.cell (ca.cell hx0 id) hxb
          obtain ⟨u, hu⟩ : ∃ u, ds.getD mv 0 = u := ⟨_, rfl⟩
          rw [hu] at hx
          have hs5 := hs.chg cg ngs
          have HK := hide (show ∀ W, Chg (· = g) wr.drew W → W.cell? ⟨s, 0, none⟩ = some (.pointer (some ⟨b, 0, none⟩)) ∧ W.cell? ⟨s, 1, none⟩ = some (.pointer (some ⟨tg, 0, none⟩)) ∧ W.cell? (x3.add mv) = some (.int .i64 u) from fun W c =>
            ⟨((hs5.drew).chg c ngs).cell 0, ((hs5.drew).chg c ngs).cell 1, c.cell (w := wr.drew) hx hxb⟩)
          have HOX := hide (hfl.ob HIS.out f1)
          have HSD := hide (HSR.out.grow (Chg.refl (fun _ => False) wr).drew)
          obtain ⟨s0, s1⟩ := hs5.cell2
          clear hx0 hs5
          by_cases hkr : mv < d
          · have hq : decide ((mv : Int) < (d : Int)) = true := by simp; omega
            have hX1 : slX xs cs 1 mv true = 0 := (sln HOX.out HSR.out.rt HR.out HD.out hkr).1
            have hP1 : slP xs cs 1 mv true = 3 + (r : Int) + (mv : Int) := (sln HOX.out HSR.out.rt HR.out HD.out hkr).2
            have HC1 := hide (setnum_in (u := u) HSD.out (by decide) hX1 hP1)
            have HF := hide (hfl.num hkr (by omega) u hu)
            clear hX1 hP1 hfl
            go_wp2_with fail
            go_region_held3 (fun W => W.cell? ⟨s, 0, none⟩ = some (.pointer (some ⟨b, 0, none⟩)) ∧ W.cell? ⟨s, 1, none⟩ = some (.pointer (some ⟨tg, 0, none⟩)) ∧ W.cell? (x3.add mv) = some (.int .i64 u)) (first | exact HK.out _ c3 | exact HK.out _ (Chg.refl _ _) | go_keep) (first | (go_at_call 19; refine HC1.out.mono ?_; rintro e wz ⟨rfl, hz3, c3⟩))
            all_goals
              rw [show (3 + (r : Int) + (mv : Int) : Int).toNat = 3 + r + mv by omega] at hz3
              have HB5 := hide hz3.open_.2
              have HCG := hide (cg.trans ((Chg.refl (fun q => q = g) wr).drew.trans c3))
              clear HK HC1 hz3 c3 s0 s1 hx
              go_wp2
              go_roundw
              case rel => first | exact ⟨mv + 1, _, by omega, by go_num, HCG.out, HB5.out, HF.out⟩ | exact ⟨_, _, _, _, _, _, _, _, _, _, _, _, _, _, _, _, _, _, ⟨mv + 1, _, by omega, by go_num, HCG.out, HB5.out, HF.out⟩, rfl⟩
              case measure => simp [intOf]; omega
          · have hq : decide ((mv : Int) < (d : Int)) = false := by simp; omega
            have hX1 : slX xs cs 1 mv true = 1 := sln_no HOX.out HSR.out.rt HR.out HD.out (by omega)
            have HC1 := hide (setnum_no (u := u) HSD.out (by decide) hX1 (by decide))
            have HF := hide (hfl.numOut (by omega))
            clear hX1 hfl
            go_wp2_with fail
            go_region_held3 (fun W => W.cell? ⟨s, 0, none⟩ = some (.pointer (some ⟨b, 0, none⟩)) ∧ W.cell? ⟨s, 1, none⟩ = some (.pointer (some ⟨tg, 0, none⟩)) ∧ W.cell? (x3.add mv) = some (.int .i64 u)) (first | exact HK.out _ (Chg.mono c3 (fun _ _ h => False.elim h)) | exact HK.out _ (Chg.refl _ _) | go_keep) (first | (go_at_call 19; refine HC1.out.mono ?_; rintro e wz ⟨rfl, c3⟩))
            all_goals
              have c4 := (Chg.refl (fun _ => False) wr).drew.trans c3
              have HB5 := hide (hbg.chg c4 id)
              have HCG := hide (cg.step c4 (fun _ _ h => False.elim h))
              clear HK HC1 c3 c4 s0 s1 hx
              go_wp2
              go_roundw
              case rel => first | exact ⟨mv + 1, _, by omega, by go_num, HCG.out, HB5.out, HF.out⟩ | exact ⟨_, _, _, _, _, _, _, _, _, _, _, _, _, _, _, _, _, _, ⟨mv + 1, _, by omega, by go_num, HCG.out, HB5.out, HF.out⟩, rfl⟩
              case measure => simp [intOf]; omega
        · obtain rfl : mv = len4 := by omega
          have HOX := hide (hfl.ob HIS.out f1)
          have hs2 := hs.chg cg ngs
          have hb2 := hb1.chg cg nzg
          have hh2 := hh.chg cg nhg
          have HCA := hide (chg_new ca cg HG)
          have HFF := hide hfl
          have hr32 : r ≤ 30 ∧ d ≤ 30 := by omega
          clear hlt hm cg hbg hfl HS hs hb1 hh ca
          go_wp2
          go_loopw [140] (fun x wq => ∃ m : Nat, m ≤ r ∧ x = .int .i64 m ∧ Grow wr wq) (fun x _ => r - (intOf x).toNat)
          case atStart => exact ⟨0, Nat.zero_le _, rfl, Chg.refl _ _⟩
          case round =>
            obtain ⟨m, hm, rfl, cq⟩ := hrel
            by_cases hlt : m < r
            · as_aux_lemma =>
              obtain ⟨hX1, hV1⟩ := HOX.out.rd HSR.out.rt m false (by rw [if_neg (by decide), HR.out]; omega)
              have hs5 := hs2.chg cq id
              obtain ⟨s0, s1⟩ := hs5.cell2
              have hV2 : slV xs cs 1 m false = if m < k then rs.getD m 0 else 0 := hV1.trans (by rw [if_neg (by decide)]; exact HFF.out.atRef hlt)
              clear hV1
              by_cases hlt2 : m < k
              · obtain ⟨x3, rfl, hx0, -⟩ := HRS.out.at_ hlt2
                have hx := (HCA.out.trans cq).cell hx0 id
                rw [if_pos hlt2] at hV2
                obtain ⟨u, hu⟩ : ∃ u, rs.getD m 0 = u := ⟨_, rfl⟩
                rw [hu] at hx hV2
                have HV := hide hV2
                have HX1 := hide hX1
                have hne : (u != u) = false := by simp
                clear hV2 hX1 hu hx0 hs5
                as_aux_lemma =>
                go_wp2_with fail
                refine (ref_is (HSR.out.grow cq) (by decide) HV.out HX1.out).mono ?_
                rintro e wy ⟨rfl, cy⟩
                replace cq := cq.trans cy
                clear cy s0 s1 hx
                go_wp2
                go_roundw
                case rel => exact ⟨m + 1, by omega, by go_num, cq⟩
                case measure => simp [intOf]; omega
              · rw [if_neg hlt2] at hV2
                have HV := hide hV2
                have HX1 := hide hX1
                have q6 : decide ((m : Int) < (k : Int)) = false := by simp; omega
                clear hV2 hX1 hs5
                as_aux_lemma =>
                go_wp2_with fail
                refine (ref_is (HSR.out.grow cq) (by decide) HV.out HX1.out).mono ?_
                rintro e wy ⟨rfl, cy⟩
                replace cq := cq.trans cy
                clear cy s0 s1
                go_wp2
                go_roundw
                case rel => exact ⟨m + 1, by omega, by go_num, cq⟩
                case measure => simp [intOf]; omega
            · obtain rfl : m = r := by omega
              have HQ := hide cq
              clear cq hm hlt
              replace HSR := hide (HSR.out.grow HQ.out)
              replace hs2 := hs2.chg HQ.out id
              replace hb2 := hb2.chg HQ.out id
              replace hh2 := hh2.chg HQ.out id
              replace HCA := hide (HCA.out.trans HQ.out)
              clear HQ
              go_wp2
              go_loopw [166] (fun x wy => ∃ m2 : Nat, m2 ≤ d ∧ x = .int .i64 m2 ∧ Grow wr wy) (fun x _ => d - (intOf x).toNat)
              case atStart => exact ⟨0, Nat.zero_le _, rfl, Chg.refl _ _⟩
              case round =>
                obtain ⟨m, hm, rfl, cq⟩ := hrel
                by_cases hlt : m < d
                · as_aux_lemma =>
                  obtain ⟨hX1, hV1⟩ := HOX.out.rd HSR.out.rt m true (by rw [if_pos rfl, HD.out]; omega)
                  have hs5 := hs2.chg cq id
                  obtain ⟨s0, s1⟩ := hs5.cell2
                  have hV2 : slV xs cs 1 m true = if m < mv then ds.getD m 0 else 0 := hV1.trans (by rw [if_pos rfl, HR.out, Int.toNat_natCast]; exact HFF.out.atNum hlt)
                  clear hV1
                  by_cases hlt2 : m < mv
                  · obtain ⟨x3, rfl, hx0, -⟩ := HDS.out.at_ hlt2
                    have hx := (HCA.out.trans cq).cell hx0 id
                    rw [if_pos hlt2] at hV2
                    obtain ⟨u, hu⟩ : ∃ u, ds.getD m 0 = u := ⟨_, rfl⟩
                    rw [hu] at hx hV2
                    have HV := hide hV2
                    have HX1 := hide hX1
                    have hne : (u != u) = false := by simp
                    clear hV2 hX1 hu hx0 hs5
                    as_aux_lemma =>
                    go_wp2_with fail
                    refine (num_is (HSR.out.grow cq) (by decide) HV.out HX1.out).mono ?_
                    rintro e wy ⟨rfl, cy⟩
                    replace cq := cq.trans cy
                    clear cy s0 s1 hx
                    go_wp2
                    go_roundw
                    case rel => exact ⟨m + 1, by omega, by go_num, cq⟩
                    case measure => simp [intOf]; omega
                  · rw [if_neg hlt2] at hV2
                    have HV := hide hV2
                    have HX1 := hide hX1
                    have q6 : decide ((m : Int) < (mv : Int)) = false := by simp; omega
                    clear hV2 hX1 hs5
                    as_aux_lemma =>
                    go_wp2_with fail
                    refine (num_is (HSR.out.grow cq) (by decide) HV.out HX1.out).mono ?_
                    rintro e wy ⟨rfl, cy⟩
                    replace cq := cq.trans cy
                    clear cy s0 s1
                    go_wp2
                    go_roundw
                    case rel => exact ⟨m + 1, by omega, by go_num, cq⟩
                    case measure => simp [intOf]; omega
                · obtain rfl : m = d := by omega
                  replace HSR := hide (HSR.out.grow cq)
                  replace hs2 := hs2.chg cq id
                  replace hb2 := hb2.chg cq id
                  replace hh2 := hh2.chg cq id
                  have hca := HCA.out.trans cq
                  have HOB2 := hide (HOX.out.ob HSR.out.rt)
                  have hcut : (xs.drop 100).take 40 = (ys.drop 100).take 40 := cut_same (fun j hj => HFF.out.far (100 + j) (.inr (by omega))) (by rw [HFF.out.1]; omega) (by rw [f1]; omega)
                  have hcl := cut_length 100 40 ys (by rw [f1]; omega)
                  have hxl := HFF.out.1
                  clear cq hlt hm HCA HDS HRS H
                  as_aux_lemma =>
                  go_wp2_with fail
                  refine (awords_is (a := 100) (m := 40) HSR.out rfl rfl (by rw [hxl]; omega)).mono ?_
                  rintro e y1 ⟨z2, rfl, hb3, c1⟩
                  rw [hcut] at hb3
                  replace HSR := hide (HSR.out.grow c1)
                  replace hs2 := hs2.chg c1 id
                  replace hb2 := hb2.chg c1 id
                  replace hh2 := hh2.chg c1 id
                  replace hca := hca.trans c1
                  clear c1
                  obtain ⟨s0, s1⟩ := hs2.cell2
                  go_wp2_with fail
                  refine (head_is (i := 1) (C := (i : Int) + 1) (A := 0) (F := 0) (m := false) (f := f) (d := false) (X := 0) HSR.out (by decide) (by have := HOB2.out.1; exact (by rw [show obT xs cs 1 = obV i ⟨K, R, D, f⟩ 0 from this]; rfl)) HOB2.out.2).mono ?_
                  rintro e y2 ⟨rfl, c2⟩
                  replace hb2 := hb2.chg c2 id
                  replace hb3 := hb3.chg c2 id
                  replace hh2 := hh2.chg c2 id
                  replace hca := hca.trans c2
                  clear c2 s0 s1 hs2
                  have hy := Blk.new y2 45 [.int .i64 ((i : Int) + 1), .int .i64 0, .int .i64 0, .bool false, .bool f, .bool false]
                  replace hb2 := hb2.alloc (.cells [.int .i64 ((i : Int) + 1), .int .i64 0, .int .i64 0, .bool false, .bool f, .bool false].toArray 45)
                  replace hb3 := hb3.alloc (.cells [.int .i64 ((i : Int) + 1), .int .i64 0, .int .i64 0, .bool false, .bool f, .bool false].toArray 45)
                  replace hh2 := hh2.alloc (.cells [.int .i64 ((i : Int) + 1), .int .i64 0, .int .i64 0, .bool false, .bool f, .bool false].toArray 45)
                  replace hca := hca.alloc (.cells [.int .i64 ((i : Int) + 1), .int .i64 0, .int .i64 0, .bool false, .bool f, .bool false].toArray 45)
                  go_wp2_with fail
                  refine (L1.same_yes _ _ _ _ _ _ _ (L1.Rd.of_blk hb2 hcl) (L1.Rd.of_blk hb3 hcl) (by omega)).mono ?_
                  rintro e y3 ⟨rfl, c3⟩
                  replace hy := hy.chg c3 id
                  replace hh2 := hh2.chg c3 id
                  replace hca := hca.trans c3
                  clear c3 hb2 hb3
                  obtain ⟨x0, x1, x2, x3, x4, x5⟩ := hy.cell6
                  obtain ⟨h0, h1, h2, h3, h4, h5⟩ := hh2.cell6
                  have kR := sameH ((i : Int) + 1) 0 0 false f false
                  go_wp2
                  go_ret
                  exact ⟨rfl, hca.below (fun _ _ h => h) (Nat.le_refl _)⟩
theorem walk (a : Option Addr) (len cap : Nat) (cs : List Cl) (n o : Int) (a3 : Option Addr) (len3 cap3 : Nat) (rs : List Int) (a4 : Option Addr) (len4 cap4 : Nat) (ds : List Int) (w : World) (h : IsCls w a len cap cs) (wn : (Lit.int .u8 n).wf = true) (wo : (Lit.int .u8 o).wf = true) (hr3 : IsRow .i64 w a3 len3 cap3 rs) (hr4 : IsRow .i64 w a4 len4 cap4 ds) :
    Calls Try.prog 4 #[.slice a len cap, .int .u8 n, .int .u8 o, .slice a3 len3 cap3, .slice a4 len4 cap4] w fun e w' => e = .returned (.bool true) ∧ Below w.heap.size w w' := by
  by_cases h3 : len3 ≤ 60
  rotate_left
  · exact walk_many a a3 a4 len cap len3 cap3 len4 cap4 n o w (.inl (by omega))
  by_cases h4 : len4 ≤ 60
  rotate_left
  · exact walk_many a a3 a4 len cap len3 cap3 len4 cap4 n o w (.inr (by omega))
  by_cases hl : len ≤ 100
  rotate_left
  · exact walk_long a a3 a4 len cap len3 cap3 len4 cap4 n o w h3 h4 (by omega)
  by_cases hX : newX cs = 0
  rotate_left
  · exact walk_bad a a3 a4 len cap len3 cap3 len4 cap4 cs n o w h3 h4 h hl hX
  by_cases h0 : len = 0
  · subst h0
    obtain rfl : cs = [] := List.eq_nil_of_length_eq_zero h.len
    exact walk_none a a3 a4 cap len3 cap3 len4 cap4 n o w h3 h4 h
  have hn : 0 ≤ n ∧ n ≤ 255 := bounds_u8 wn
  have ho : 0 ≤ o ∧ o ≤ 255 := bounds_u8 wo
  have hi0 : 0 ≤ n % (len : Int) := Int.emod_nonneg _ (by omega)
  have hi1 : n % (len : Int) < len := Int.emod_lt_of_pos _ (by omega)
  have hj0 : 0 ≤ o % (len : Int) := Int.emod_nonneg _ (by omega)
  have hj1 : o % (len : Int) < len := Int.emod_lt_of_pos _ (by omega)
  obtain ⟨i, hi⟩ := Int.eq_ofNat_of_zero_le hi0
  obtain ⟨j, hj⟩ := Int.eq_ofNat_of_zero_le hj0
  obtain ⟨-, -, ⟨K, R, D, f⟩, -, hc, -, -⟩ := h.at_ (i := i) (by omega)
  obtain ⟨-, -, ⟨K2, R2, D2, f2⟩, -, hc2, -, -⟩ := h.at_ (i := j) (by omega)
  obtain ⟨hrt, hl64⟩ := L5.new_zero hX
  have hbd := L5.sh_bd (o := some (⟨K, R, D, f⟩ : Cl)) (fun c' e => by injection e with e; subst e; exact L5.all_rt hrt hc) 0
  have hbd2 := L5.sh_bd (o := some (⟨K2, R2, D2, f2⟩ : Cl)) (fun c' e => by injection e with e; subst e; exact L5.all_rt hrt hc2) 0
  obtain ⟨r, hr⟩ := Int.eq_ofNat_of_zero_le hbd.1
  obtain ⟨d, hd⟩ := Int.eq_ofNat_of_zero_le hbd.2.2.1
  obtain ⟨r2, hr2⟩ := Int.eq_ofNat_of_zero_le hbd2.1
  obtain ⟨d2, hd2⟩ := Int.eq_ofNat_of_zero_le hbd2.2.2.1
  exact walk_main a a3 a4 len cap len3 cap3 len4 cap4 i j r d r2 d2 cs K R D K2 R2 D2 f f2 rs ds n o w h h3 h4 hr3 hr4 hl hX (by omega) hn hi ho hj hc hc2 (by simp [shX]) (by simp [shX]) hr hd hr2 hd2


theorem own : ownKnob Try.prog.godebug = none := by kernel_rfl
theorem laidOut : laidOutB Try.prog = true := by kernel_rfl

set_option maxRecDepth 100000 in
theorem lifted (os : Os) (started : os.Started) (H : Type) (enc : TypeId × Value → H) :
    ReturnsInHanded {} Try.checked os 4 .any (Rows.objectFieldsSpec.pre6 enc Try.prog Try.f4 Rows.objectFieldsRow.domain false) (Rows.objectFieldsSpec.post enc Try.prog Try.f4 false true false false) := by
  refine returnsInHanded_of_change (C := Try.checked) own started (by kernel_rfl) Try.func4
    (ChangeSpec.witness6 (enc := enc) (C := Try.checked) false ⟨#[], #[.slice none 0 0, .int .u8 0, .int .u8 0, .slice none 0 0, .slice none 0 0], []⟩ 8 (by kernel_rfl) (by kernel_rfl) (by kernel_rfl) (by kernel_rfl)) ?_
  intro W base args ds gs before hval0 hW hcnd _
  have hval : ∀ (j : Nat) t v, Try.f4.params[j]? = some t → args[j]? = some v → Value.okWide Try.prog W .any base t v := hval0
  have hW' := hW
  obtain ⟨p, q, hA0, hV, rfl, hfz, hnd⟩ := hW
  have hA : DataW.TrodAll enc Try.prog W 0 (fun _ => true) true Try.f4.params.toList args.toList ds p := hA0
  rw [Try.params4] at hA hval
  obtain ⟨v0, vs0, d0, ds0, p0, q0, hargs, rfl, rfl, h0, r0⟩ := trodAll_cons hA
  obtain ⟨v1, vs1, d1, ds1, p1, q1, rfl, rfl, rfl, h1, r1⟩ := trodAll_cons r0
  obtain ⟨v2, vs2, d2, ds2, p2, q2, rfl, rfl, rfl, h2, r2⟩ := trodAll_cons r1
  obtain ⟨v3, vs3, d3, ds3, p3, q3, rfl, rfl, rfl, h3, r3⟩ := trodAll_cons r2
  obtain ⟨v4, vs4, d4, ds4, p4, q4, rfl, rfl, rfl, h4, r4⟩ := trodAll_cons r3
  obtain ⟨rfl, rfl, rfl⟩ := trodAll_nil r4
  obtain rfl : args = #[v0, v1, v2, v3, v4] := by cases args; simp_all
  obtain ⟨rfl, rfl⟩ := trodVars_none hV
  have k0 := h0
  have lt0 : ∀ x ∈ p0, x.block < W.heap.size := by obtain ⟨m, hm⟩ := k0; exact DataW.trod_lt m _ _ _ hm
  obtain ⟨a0, len0, cap0, cs0, rfl, w0⟩ := open_cls (hval 0 22 v0 rfl rfl) h0
  obtain ⟨a1, rfl, rfl, rfl, w1⟩ := open_int Try.underlying5 (hval 1 5 v1 rfl rfl) h1
  obtain ⟨a2, rfl, rfl, rfl, w2⟩ := open_int Try.underlying5 (hval 2 5 v2 rfl rfl) h2
  obtain ⟨a3, len3, cap3, rfl⟩ := okWide_slice Try.underlying34 (hval 3 34 v3 rfl rfl)
  have k3 := h3
  have lt3 : ∀ x ∈ p3, x.block < W.heap.size := by obtain ⟨m, hm⟩ := k3; exact DataW.trod_lt m _ _ _ hm
  obtain ⟨z3, w3⟩ : ∃ zs, IsRow .i64 W a3 len3 cap3 zs := open_row Try.underlying34 Try.underlying3 (by kernel_rfl) h3
  obtain ⟨a4, len4, cap4, rfl⟩ := okWide_slice Try.underlying34 (hval 4 34 v4 rfl rfl)
  have k4 := h4
  have lt4 : ∀ x ∈ p4, x.block < W.heap.size := by obtain ⟨m, hm⟩ := k4; exact DataW.trod_lt m _ _ _ hm
  obtain ⟨z4, w4⟩ : ∃ zs, IsRow .i64 W a4 len4 cap4 zs := open_row Try.underlying34 Try.underlying3 (by kernel_rfl) h4
  clear hA0 hval0
  refine (walk a0 len0 cap0 cs0 a1 a2 a3 len3 cap3 z3 a4 len4 cap4 z4 W w0 w1 w2 w3 w4).mono fun e W' ⟨he, bel⟩ => ?_
  subst he
  exact ⟨_, rfl, _, _, _, [], _, [], hW', trodAll_mk1 (shut_bool Try.underlying4 _), (trodAll_cons_mk (Below.trod laidOut (by kernel_rfl) (of_decide_eq_true (by kernel_rfl)) k0 bel lt0) (trodAll_cons_mk (shut_int Try.underlying5 w1) (trodAll_cons_mk (shut_int Try.underlying5 w2) (trodAll_cons_mk (Below.trod laidOut (by kernel_rfl) (of_decide_eq_true (by kernel_rfl)) k3 bel lt3) (trodAll_cons_mk (Below.trod laidOut (by kernel_rfl) (of_decide_eq_true (by kernel_rfl)) k4 bel lt4) trodAll_mk0))))), rfl, bel.frame _, fun h => by cases h⟩

theorem over : Rows.objectFieldsRow.holds Try.pinned (OpenSpec.ofChange Rows.objectFieldsSpec) :=
  OpenClaim.holds_of_wide 4 Try.f4 rfl rfl rfl rfl rfl rfl rfl ⟨rfl, rfl, rfl, rfl, rfl⟩ rfl rfl rfl rfl rfl (by kernel_rfl) Try.func4 (by kernel_rfl)
    (of_decide_eq_true (by kernel_rfl)) (by unfold Func.isWrapper; first | (rw [if_pos (by decide +kernel)]; kernel_rfl) | (rw [if_neg (by decide +kernel)]; exact ⟨rfl, rfl⟩))
    (fun os started H enc _ => lifted os started H enc)

/-- The statement. -/
theorem proved : Rows.ObjectFieldsSaid := over
#print axioms proved
end Go.Proofs.Ytgknndbahdjghaa.objectFields


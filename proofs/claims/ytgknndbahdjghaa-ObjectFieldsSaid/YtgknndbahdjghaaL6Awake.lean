/- A new store; that the program is awake; the two stores of the statements. Conditions: none. -/
import Derived.Test.YtgknndbahdjghaaL6Pure
namespace Go.Proofs.Ytgknndbahdjghaa.L6
open Go.ChangeShapes Go.WideShapes Go.ChangeAt Go.RowKit
open Go.Proofs.Ytgknndbahdjghaa.L1 (Sl Ar ptr exB)
open Go.Proofs.Ytgknndbahdjghaa.L4 (hdV riB wd wdV wdX ofB ofC ofA ofF ofM ofN ofD ofV ofX set6)
open Go.Proofs.Ytgknndbahdjghaa.L5 (Cl clV rtB Tb clAt shX shR shD woV c0 IsCls newX)
set_option linter.unusedVariables false

section
variable {w w' : World} {p tp : Option Addr} {g : Nat} {xs ys : List Int} {cs : List Cl}
theorem tb_ne {base : Nat} {v : Value} (ht : Tb w base tp v cs) : ¬ v.ownBlock = some w.heap.size ∧ ¬ tp = some ⟨w.heap.size, 0, none⟩ := by
  refine ⟨fun e => ?_, ?_⟩
  · have := (ht.1.lt _ e).2; omega
  · rintro rfl
    rcases ht.2 with ⟨e, _⟩ | ⟨k, e, _, hk⟩
    · cases e
    · injection e with e; injection e with e; have := hk.lt; omega
theorem st_mk {b base : Nat} {v : Value} (ht : Tb w base tp v cs) (ha : Ar w b g xs) (hne : ¬ v.ownBlock = some g ∧ ¬ tp = some ⟨g, 0, none⟩) (hn : xs.length ≤ 4096) (h1 : cs.length ≤ 100) (h2 : cs.all Cl.rt = true) :
    St w (some ⟨b, 0, none⟩) tp g xs cs := ⟨.inr ⟨_, rfl, ha⟩, ⟨base, v, ht, hne.1, hne.2⟩, hn, h1, h2⟩
theorem st_new {w1 w2 : World} {base : Nat} {v : Value} (ht : Tb w1 base tp v cs) (ha : Ar w2 (w1.heap.size + 1) w1.heap.size xs) (c : Grow w1 w2) (hn : xs.length ≤ 4096) (hX : newX cs = 0) :
    St w2 (some ⟨w1.heap.size + 1, 0, none⟩) tp w1.heap.size xs cs := by
  obtain ⟨h1, h2⟩ := L5.new_zero hX
  refine ⟨.inr ⟨_, rfl, ha⟩, ⟨base, v, ht.grow c, fun e => ?_, ?_⟩, hn, by omega, h1⟩
  · have := (ht.1.lt _ e).2; omega
  · rintro rfl
    rcases ht.2 with ⟨e, _⟩ | ⟨k, e, _, hk⟩
    · cases e
    · injection e with e; injection e with e; have := hk.lt; omega
section
variable {t : TypeId} {a b a' b' : Value}
theorem _root_.Go.Proofs.Ytgknndbahdjghaa.Blk.put2 (h : Blk w g t [a', b']) (a b : Value) : Blk ((w.setCell ⟨g, 0, none⟩ a).setCell ⟨g, 1, none⟩ b) g t [a, b] := (h.set_ 0 a).set_ 1 b
theorem _root_.Go.Proofs.Ytgknndbahdjghaa.Blk.far2 {q : Nat} {cs : List Value} (h : Blk w g t cs) (hq : ¬ g = q) (a b : Value) : Blk ((w.setCell ⟨q, 0, none⟩ a).setCell ⟨q, 1, none⟩ b) g t cs := (h.far (p := ⟨q, 0, none⟩) hq a).far (p := ⟨q, 1, none⟩) hq b
theorem _root_.Go.Proofs.Ytgknndbahdjghaa.Fresh.put2 (h : Fresh w g) (k : Grow w w') (a b : Value) : Grow w ((w'.setCell ⟨g, 0, none⟩ a).setCell ⟨g, 1, none⟩ b) := h.put (h.put k 0 a) 1 b
theorem _root_.Go.Proofs.Ytgknndbahdjghaa.Blk.frozen2 {cs : List Value} (h : Blk w g t cs) : w.frozen? ⟨g, 0, none⟩ = false ∧ w.frozen? ⟨g, 1, none⟩ = false := ⟨h.frozen 0, h.frozen 1⟩
end
set_option maxHeartbeats 400000 in
theorem on_any (p tp : Option Addr) (w : World) :
    Calls Try.prog 25 #[.pointer p, .pointer tp] w fun e w' => e = .returned (stV p tp) ∧ Grow w w' := by
  go_enter Try.func25, Try.ntmps25
  go_wp2
  refine bodyPost_ret (v := stV p tp) (by simp [results, Try.results25, go_sem]) rfl ?_
  exact ⟨rfl, Grow.box _ _⟩
theorem St.lt {b : Nat} (h : St w (some ⟨b, 0, none⟩) tp g xs cs) : g < w.heap.size := h.open_.2.lt
theorem chg_new {w1 w2 : World} (cc : Grow w w1) (c : Chg (· = g) w1 w2) (hg : w.heap.size ≤ g) : Grow w w2 := cc.step c fun i hi e => by omega
set_option maxHeartbeats 1000000 in
theorem awake_any (w : World) :
    Calls Try.prog 8 #[] w fun e w' => e = .returned (.bool true) ∧ Grow w w' := by
  have hl := Blk.new w 38 [.int .i64 1, .int .i64 1, .int .i64 1, .bool false]
  have cw := Grow.box w (.cells [.int .i64 1, .int .i64 1, .int .i64 1, .bool false].toArray 38)
  have HI := hide (L5.IsCls.one (c := ⟨1, 1, 1, false⟩) hl (by decide))
  clear hl
  go_enter Try.func8, Try.ntmps8
  go_wp2_with fail
  refine (L5.new_yes _ HI.out (by decide) (by decide)).mono ?_
  rintro e w1 ⟨tg, v, rfl, ht, c1⟩
  replace cw := cw.trans c1
  have HT := hide ht
  clear ht HI c1
  go_wp2_with fail
  refine (L1.new_any 9 _).mono ?_
  rintro e w2 ⟨rfl, ha, c2⟩
  have HS := hide (st_new (xs := zeros 9) HT.out ha c2 (by decide) (by decide))
  have HG := hide (show w.heap.size ≤ w1.heap.size from cw.size)
  replace cw := cw.trans c2
  clear ha c2 HT
  generalize w1.heap.size + 1 = b at *
  generalize w1.heap.size = g at *
  go_wp2_with fail
  refine (on_any _ _ _).mono ?_
  rintro e w3 ⟨rfl, c3⟩
  replace HS := hide (HS.out.grow c3)
  replace cw := cw.trans c3
  clear c3
  have ngs : ¬ w3.heap.size = g := by have := HS.out.lt; omega
  have hs := Blk.new w3 28 [.pointer (some ⟨b, 0, none⟩), .pointer (some ⟨tg, 0, none⟩)]
  replace cw := cw.alloc (.cells [.pointer (some ⟨b, 0, none⟩), .pointer (some ⟨tg, 0, none⟩)].toArray 28)
  replace HS := hide (HS.out.grow (Grow.box w3 (.cells [.pointer (some ⟨b, 0, none⟩), .pointer (some ⟨tg, 0, none⟩)].toArray 28)))
  obtain ⟨s0, s1⟩ := hs.cell2
  go_wp2_with fail
  refine (lay_ok (a := 1) (n := 4) (k := 0) (K := 1) (R := 1) (D := 1) (f := false) HS.out rfl (by decide) (by decide) (by decide) (by decide) (by decide) (by decide)).mono ?_
  rintro e w4 ⟨rfl, hs4, c4⟩
  replace HS := hide hs4
  replace hs := hs.chg c4 ngs
  replace cw := chg_new cw c4 HG.out
  clear hs4 c4 s0 s1
  obtain ⟨s0, s1⟩ := hs.cell2
  have hrt : [(⟨1, 1, 1, false⟩ : Cl)].all Cl.rt = true := by decide
  have ho : IsOb (layL (zeros 9) 1 4 1 0 false) [⟨1, 1, 1, false⟩] 1 0 ⟨1, 1, 1, false⟩ 0 := layL_ob (xs := zeros 9) (cs := [⟨1, 1, 1, false⟩]) (a := 1) (n := 4) (k := 0) (c := ⟨1, 1, 1, false⟩) (l := 0) rfl (by decide) (by decide) (by decide) (by decide) (by decide) (by decide)
  have hf : fdT (layL (zeros 9) 1 4 1 0 false) [⟨1, 1, 1, false⟩] 1 = obV 0 ⟨1, 1, 1, false⟩ 0 ∧ fdX (layL (zeros 9) 1 4 1 0 false) [⟨1, 1, 1, false⟩] 1 = 0 := ho.fd hrt
  have hx : slX (layL (zeros 9) 1 4 1 0 false) [⟨1, 1, 1, false⟩] 1 0 true = 0 := (ho.sl hrt 0 true).1
  have hp : slP (layL (zeros 9) 1 4 1 0 false) [⟨1, 1, 1, false⟩] 1 0 true = 4 := (ho.sl hrt 0 true).2 hx
  have HF := hide hf
  have HX := hide hx
  have HP := hide hp
  clear hrt ho hf hx hp
  go_wp2_with fail
  refine (size_is (W := 4) (b := true) (X := 0) HS.out (by decide) (by rw [HF.out.1]; rfl) (by rw [HF.out.1]; rfl) HF.out.2).mono ?_
  rintro e w5 ⟨rfl, c5⟩
  replace HS := hide (HS.out.grow c5)
  replace hs := hs.chg c5 id
  replace cw := cw.trans c5
  clear c5 s0 s1
  obtain ⟨s0, s1⟩ := hs.cell2
  go_wp2_with fail
  refine (setnum_in (P := 4) HS.out (by decide) HX.out HP.out).mono ?_
  rintro e w6 ⟨rfl, hs6, c6⟩
  replace cw := chg_new cw c6 HG.out
  clear c6 s0 s1
  go_wp2
  go_ret
  exact ⟨rfl, cw⟩
set_option maxHeartbeats 1000000 in
theorem both_long {a : Option Addr} {len cap : Nat} (n : Int) (w : World) (hl : 100 < len) :
    Calls Try.prog 9 #[.slice a len cap, .int .i64 n] w fun e w' => e = .returned (.tuple #[.pointer none, stV none none, .agg #[.pointer none, .slice none 0 0], .bool false]) ∧ Grow w w' := by
  go_enter Try.func9, Try.ntmps9
  go_wp2
  refine bodyPost_ret (v := .tuple #[.pointer none, stV none none, .agg #[.pointer none, .slice none 0 0], .bool false]) (by simp [results, Try.results9, go_sem]) rfl ?_
  exact ⟨rfl, (Grow.box _ _).alloc _⟩
theorem rnew_is {a : Option Addr} {len cap : Nat} {X : Int} (w : World) (h : IsCls w a len cap cs) (hl : len ≤ 100) (hX : newX cs = X) :
    Calls Try.prog 28 #[.slice a len cap] w fun e w' => e = .returned (.int .i64 X) ∧ Grow w w' := by
  have h' := L5.rnew_any a len cap cs w h hl
  rwa [hX] at h'
set_option maxHeartbeats 1000000 in
theorem both_no {a : Option Addr} {len cap : Nat} (n : Int) (w : World) (h : IsCls w a len cap cs) (hl : len ≤ 100) (hX : ¬ newX cs = 0) :
    Calls Try.prog 9 #[.slice a len cap, .int .i64 n] w fun e w' => e = .returned (.tuple #[.pointer none, stV none none, .agg #[.pointer none, .slice none 0 0], .bool false]) ∧ Grow w w' := by
  obtain ⟨X, hX'⟩ : ∃ X, newX cs = X := ⟨_, rfl⟩
  rw [hX'] at hX
  have HX := hide hX'
  have hx' : (X != 0) = true := by simpa using hX
  have hl' : decide ((len : Int) > 100) = false := by simp; omega
  have H := hide h
  clear h hX'
  obtain ⟨hs, hr, cc, fs, fr, n_sr⟩ := boxes2 w 28 [.pointer none, .pointer none] 31 [.pointer none, .slice none 0 0]
  go_enter Try.func9, Try.ntmps9
  go_wp2_with fail
  generalize (w.alloc (.cells #[.pointer none, .pointer none] 28)).alloc (.cells #[.pointer none, .slice none 0 0] 31) = w3 at *
  generalize w.heap.size + 1 = r at *
  generalize w.heap.size = s at *
  refine (rnew_is _ (H.out.chg cc (fun _ _ => id)) hl HX.out).mono ?_
  rintro e w4 ⟨rfl, c_w4⟩
  replace hs := hs.chg c_w4 id
  replace hr := hr.chg c_w4 id
  replace cc := cc.step c_w4 (fun _ _ h => h.elim)
  clear c_w4 
  obtain ⟨s0, s1⟩ := hs.cell2
  obtain ⟨r0, r1⟩ := hr.cell2
  obtain ⟨k0, k1⟩ := hs.frozen2
  obtain ⟨j0, j1⟩ := hr.frozen2
  go_wp2
  have hs' := (hs.put2 (.pointer none) (.pointer none)).far2 n_sr (.pointer none) (.slice none 0 0)
  have hr' := (hr.far2 (fun e => n_sr e.symm) (.pointer none) (.pointer none)).put2 (.pointer none) (.slice none 0 0)
  have cc' := fr.put2 (fs.put2 cc (.pointer none) (.pointer none)) (.pointer none) (.slice none 0 0)
  clear s0 s1 r0 r1 k0 k1 j0 j1 hs hr cc
  generalize ((((w4.setCell ⟨s, 0, none⟩ (.pointer none)).setCell ⟨s, 1, none⟩ (.pointer none)).setCell ⟨r, 0, none⟩ (.pointer none)).setCell ⟨r, 1, none⟩ (.slice none 0 0)) = wz at *
  obtain ⟨s0, s1⟩ := hs'.cell2
  obtain ⟨r0, r1⟩ := hr'.cell2
  refine bodyPost_ret (v := .tuple #[(.pointer none), .agg #[(.pointer none), (.pointer none)], .agg #[(.pointer none), (.slice none 0 0)], .bool false]) (by simp [results, Try.results9, go_sem, s0, s1, r0, r1]) rfl ?_
  exact ⟨rfl, cc'⟩
set_option maxHeartbeats 1000000 in
theorem both_yes {a : Option Addr} {len cap : Nat} (n : Int) (w : World) (h : IsCls w a len cap cs) (hl : len ≤ 100) (hX : newX cs = 0) :
    Calls Try.prog 9 #[.slice a len cap, .int .i64 n] w fun e w' => ∃ b tg g q, e = .returned (.tuple #[.pointer (some ⟨b, 0, none⟩), stV (some ⟨b, 0, none⟩) (some ⟨tg, 0, none⟩), .agg #[.pointer (some ⟨q, 0, none⟩), .slice a len cap], .bool true]) ∧
      St w' (some ⟨b, 0, none⟩) (some ⟨tg, 0, none⟩) g (zeros (L1.clamp n)) cs ∧ Fresh w g ∧ Grow w w' := by
  have HX := hide hX
  have hl' : decide ((len : Int) > 100) = false := by simp; omega
  have H := hide h
  have hz : (zeros (L1.clamp n)).length ≤ 4096 := by rw [zeros_length]; unfold L1.clamp; omega
  clear h hX
  obtain ⟨hs, hr, cc, fs, fr, n_sr⟩ := boxes2 w 28 [.pointer none, .pointer none] 31 [.pointer none, .slice none 0 0]
  go_enter Try.func9, Try.ntmps9
  go_wp2_with fail
  generalize (w.alloc (.cells #[.pointer none, .pointer none] 28)).alloc (.cells #[.pointer none, .slice none 0 0] 31) = w3 at *
  generalize w.heap.size + 1 = r at *
  generalize w.heap.size = s at *
  refine (rnew_is _ (H.out.chg cc (fun _ _ => id)) hl HX.out).mono ?_
  rintro e w4 ⟨rfl, c_w4⟩
  replace hs := hs.chg c_w4 id
  replace hr := hr.chg c_w4 id
  replace cc := cc.step c_w4 (fun _ _ h => h.elim)
  clear c_w4 
  obtain ⟨B, hB⟩ : ∃ B, B = w4.heap.size := ⟨_, rfl⟩
  have HSB := hide (show s < B by rw [hB]; exact hs.lt)
  have HRB := hide (show r < B by rw [hB]; exact hr.lt)
  go_wp2_with fail
  refine (L5.new_yes _ (H.out.chg cc (fun _ _ => id)) hl HX.out).mono ?_
  rintro e w5 ⟨tg, v, rfl, ht, c5⟩
  have HB5 := hide (show B ≤ w5.heap.size by rw [hB]; exact c5.size)
  rw [← hB] at ht
  clear hB
  replace hs := hs.chg c5 id
  replace hr := hr.chg c5 id
  replace cc := cc.trans c5
  clear c5
  go_wp2_with fail
  refine (L1.new_any n _).mono ?_
  rintro e w6 ⟨rfl, ha, c6⟩
  have HNE := hide (tb_ne ht)
  have HT := hide (ht.grow c6)
  have HA := hide ha
  have HBB := hide (show B ≤ w5.heap.size + 1 by have := HB5.out; omega)
  have HG : Fresh w w5.heap.size := cc.size
  replace hs := hs.chg c6 id
  replace hr := hr.chg c6 id
  replace cc := cc.trans c6
  clear ha c6 ht
  generalize w5.heap.size + 1 = b at *
  generalize w5.heap.size = g at *
  go_wp2_with fail
  refine (on_any _ _ _).mono ?_
  rintro e w7 ⟨rfl, c7⟩
  replace HT := hide (HT.out.grow c7)
  replace HA := hide (HA.out.chg c7 id id)
  replace hs := hs.chg c7 id
  replace hr := hr.chg c7 id
  replace cc := cc.trans c7
  clear c7
  go_wp2_with fail
  refine (L1.rnew_any n _).mono ?_
  rintro e w8 ⟨rfl, -, c8⟩
  replace HT := hide (HT.out.grow c8)
  replace HA := hide (HA.out.chg c8 id id)
  replace hs := hs.chg c8 id
  replace hr := hr.chg c8 id
  replace cc := cc.trans c8
  clear c8
  generalize w7.heap.size + 1 = q at *
  obtain ⟨s0, s1⟩ := hs.cell2
  obtain ⟨r0, r1⟩ := hr.cell2
  obtain ⟨k0, k1⟩ := hs.frozen2
  obtain ⟨j0, j1⟩ := hr.frozen2
  have cS : Chg (· < B) w8 ((((w8.setCell ⟨s, 0, none⟩ (.pointer (some ⟨b, 0, none⟩))).setCell ⟨s, 1, none⟩ (.pointer (some ⟨tg, 0, none⟩))).setCell ⟨r, 0, none⟩ (.pointer (some ⟨q, 0, none⟩))).setCell ⟨r, 1, none⟩ (.slice a len cap)) :=
    ((((Chg.refl _ _).setCell (p := ⟨s, 0, none⟩) (fun _ => HSB.out) _).setCell (p := ⟨s, 1, none⟩) (fun _ => HSB.out) _).setCell (p := ⟨r, 0, none⟩) (fun _ => HRB.out) _).setCell (p := ⟨r, 1, none⟩) (fun _ => HRB.out) _
  obtain ⟨hz1, hz2⟩ := L5.new_zero HX.out
  have HS := hide (st_mk (HT.out.chg cS (fun i h => h)) (HA.out.chg cS (by have := HBB.out; omega) (by have := HB5.out; omega)) HNE.out hz (by omega) hz1)
  clear cS HT HA hz1 hz2
  go_wp2
  have hs' := (hs.put2 (.pointer (some ⟨b, 0, none⟩)) (.pointer (some ⟨tg, 0, none⟩))).far2 n_sr (.pointer (some ⟨q, 0, none⟩)) (.slice a len cap)
  have hr' := (hr.far2 (fun e => n_sr e.symm) (.pointer (some ⟨b, 0, none⟩)) (.pointer (some ⟨tg, 0, none⟩))).put2 (.pointer (some ⟨q, 0, none⟩)) (.slice a len cap)
  have cc' := fr.put2 (fs.put2 cc (.pointer (some ⟨b, 0, none⟩)) (.pointer (some ⟨tg, 0, none⟩))) (.pointer (some ⟨q, 0, none⟩)) (.slice a len cap)
  clear s0 s1 r0 r1 k0 k1 j0 j1 hs hr cc
  generalize ((((w8.setCell ⟨s, 0, none⟩ (.pointer (some ⟨b, 0, none⟩))).setCell ⟨s, 1, none⟩ (.pointer (some ⟨tg, 0, none⟩))).setCell ⟨r, 0, none⟩ (.pointer (some ⟨q, 0, none⟩))).setCell ⟨r, 1, none⟩ (.slice a len cap)) = wz at *
  obtain ⟨s0, s1⟩ := hs'.cell2
  obtain ⟨r0, r1⟩ := hr'.cell2
  refine bodyPost_ret (v := .tuple #[(.pointer (some ⟨b, 0, none⟩)), .agg #[(.pointer (some ⟨b, 0, none⟩)), (.pointer (some ⟨tg, 0, none⟩))], .agg #[(.pointer (some ⟨q, 0, none⟩)), (.slice a len cap)], .bool true]) (by simp [results, Try.results9, go_sem, s0, s1, r0, r1]) rfl ?_
  exact ⟨b, tg, g, q, rfl, HS.out, HG, cc'⟩
end
end Go.Proofs.Ytgknndbahdjghaa.L6

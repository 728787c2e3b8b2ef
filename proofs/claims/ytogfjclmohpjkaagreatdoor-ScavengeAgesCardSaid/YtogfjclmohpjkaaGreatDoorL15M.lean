/- What place does: where an object goes, and its head there. Conditions: Old has room for it. -/
import Derived.Test.YtogfjclmohpjkaaGreatDoorL15H
namespace Go.Proofs.YtogfjclmohpjkaaGreatDoor.L15
open Go.ChangeShapes Go.WideShapes Go.ChangeAt Go.RowKit Go.Shelf
open Go.Proofs.YtogfjclmohpjkaaGreatDoor.L1 (Sl Ar ptr exB)
open Go.Proofs.YtogfjclmohpjkaaGreatDoor.L4 (hdV riB wd wdV wdX)
open Go.Proofs.YtogfjclmohpjkaaGreatDoor.L5 (Cl clV rtB Tb clAt shX shR shD)
open Go.Proofs.YtogfjclmohpjkaaGreatDoor.L6 (Th th0 stV St fdT fdX obT obX slX slP slV gw Wk)
open Go.Proofs.YtogfjclmohpjkaaGreatDoor.L2 (spV orZ hasB)
set_option linter.unusedVariables false
set_option maxRecDepth 100000
section
variable {w w' W : World} {tp : Option Addr} {g n b z mb mg k : Nat} {y : Yg} {ot tt C A F : Int} {m f d : Bool}
/-- The cells of a run's struct that place looks at. -/
theorem mv_cells (h : Blk w mb 91 (mvCs b tp y ot tt mg n)) : w.cell? ⟨mb, 15, none⟩ = some (.int .i64 y.th) ∧ w.cell? ⟨mb, 16, none⟩ = some (.int .i64 y.OF) ∧ w.cell? ⟨mb, 17, none⟩ = some (.int .i64 ot) ∧ w.cell? ⟨mb, 18, none⟩ = some (.int .i64 y.OE) ∧ w.cell? ⟨mb, 19, none⟩ = some (.int .i64 y.TF) ∧ w.cell? ⟨mb, 20, none⟩ = some (.int .i64 tt) ∧ w.cell? ⟨mb, 21, none⟩ = some (.int .i64 y.TE) ∧ w.cell? ⟨mb, 22, none⟩ = some (.slice (some ⟨mg, 0, none⟩) n n) :=
  ⟨h.cell 15, h.cell 16, h.cell 17, h.cell 18, h.cell 19, h.cell 20, h.cell 21, h.cell 22⟩
theorem mv_fr (h : Blk w mb 91 (mvCs b tp y ot tt mg n)) : w.frozen? ⟨mb, 16, none⟩ = false ∧ w.frozen? ⟨mb, 17, none⟩ = false ∧ w.frozen? ⟨mb, 18, none⟩ = false ∧ w.frozen? ⟨mb, 19, none⟩ = false ∧ w.frozen? ⟨mb, 20, none⟩ = false ∧ w.frozen? ⟨mb, 21, none⟩ = false :=
  ⟨h.frozen 16, h.frozen 17, h.frozen 18, h.frozen 19, h.frozen 20, h.frozen 21⟩
set_option maxHeartbeats 2000000 in
theorem place_to (hb : Blk w mb 91 (mvCs b tp y ot tt mg n)) (ht : L2.riB y.TF tt y.TE = true) (hA : 0 ≤ A ∧ A ≤ 7) (hk : 1 ≤ k) (h1 : A < y.th) (h2 : (k : Int) ≤ y.TE - tt) :
    Calls Tryz.prog 78 #[ptr mb, .int .i64 k, hdV C A F m f d] w fun e w' => e = .returned (.tuple #[.int .i64 tt, hdV C (L4.olA A) 0 false f d]) ∧ Blk w' mb 91 (mvCs b tp y ot (tt + k) mg n) ∧ Chg (· = mb) w w' := by
  have q1 : decide (A < y.th) = true := decide_eq_true h1
  obtain ⟨hh, hr, cc, fh, fr, nhr⟩ := boxes2 w 123 [.int .i64 C, .int .i64 A, .int .i64 0, .bool false, .bool f, .bool d] 123 [.int .i64 0, .int .i64 0, .int .i64 0, .bool false, .bool false, .bool false]
  have hml := hb.lt
  have nmh : ¬ mb = w.heap.size := by omega
  have nmr : ¬ mb = w.heap.size + 1 := by omega
  go_enter Tryz.func78, Tryz.ntmps78
  go_wp2_with fail
  replace hb := hb.chg cc id
  generalize (w.alloc (.cells #[.int .i64 C, .int .i64 A, .int .i64 0, .bool false, .bool f, .bool d] 123)).alloc (.cells #[.int .i64 0, .int .i64 0, .int .i64 0, .bool false, .bool false, .bool false] 123) = w3 at *
  generalize hrr : w.heap.size + 1 = r at *
  generalize hhh : w.heap.size = h at *
  obtain ⟨-, b1, -⟩ := hh.cell6
  obtain ⟨m15, -⟩ := mv_cells hb
  refine wp_region_grow (by kernel_rfl) (by kernel_rfl) ?_
  repeat (
    with_reducible refine wpQuiet_step ?_
    intro K hK
    first
      | ((with_reducible refine quiet_offT rfl ?_ (hK _ ?_)); focus (refine ⟨_, rfl, ?_⟩; with_reducible rfl))
      | ((with_reducible refine quiet_offF rfl ?_ (hK _ ?_)); focus (refine ⟨_, rfl, ?_⟩; with_reducible rfl))
      | ((with_reducible refine quiet_offN rfl ?_ (hK _ ?_)); focus (exact rfl))
      | ((first | with_reducible refine quiet_free rfl ?_ | ((with_reducible refine quiet_on rfl ?_ ?_); focus (refine ⟨_, rfl, ?_⟩; with_reducible rfl)))
         apply Exists.intro
         refine ⟨fun Wq hW => ?_, hK _ ?_⟩
         focus (have q0 := Grow.cell hW b1; have q1 := Grow.cell hW m15; go_simp; first | done | with_reducible rfl))
    clear hK K
    simp only [Act.put, List.setIfInBounds_toArray, List.set_cons_zero, List.set_cons_succ])
  with_reducible refine wpQuiet_nil ?_
  intro w4 c4
  replace hh := hh.chg c4 id
  replace hr := hr.chg c4 id
  replace hb := hb.chg c4 id
  replace cc := cc.trans c4
  clear c4 b1 m15
  obtain ⟨-, -, -, -, m19, m20, m21, -⟩ := mv_cells hb
  go_wp2_with fail
  clear m19 m20 m21
  refine (L2.take_ok y.TF tt y.TE (k : Int) _ ht (by omega) h2).mono ?_
  rintro e w5 ⟨rfl, c5⟩
  replace hh := hh.chg c5 id
  replace hr := hr.chg c5 id
  replace hb := hb.chg c5 id
  replace cc := cc.trans c5
  clear c5
  have hq := Blk.new w5 34 [.int .i64 y.TF, .int .i64 (tt + k), .int .i64 y.TE]
  replace hh := hh.alloc (.cells [.int .i64 y.TF, .int .i64 (tt + k), .int .i64 y.TE].toArray 34)
  replace hr := hr.alloc (.cells [.int .i64 y.TF, .int .i64 (tt + k), .int .i64 y.TE].toArray 34)
  replace hb := hb.alloc (.cells [.int .i64 y.TF, .int .i64 (tt + k), .int .i64 y.TE].toArray 34)
  replace cc := cc.alloc (.cells [.int .i64 y.TF, .int .i64 (tt + k), .int .i64 y.TE].toArray 34)
  obtain ⟨q0, q1', q2⟩ := hq.cell3
  obtain ⟨-, -, -, k19, k20, k21⟩ := mv_fr hb
  obtain ⟨b0, b1, b2, b3, b4, b5⟩ := hh.cell6
  obtain ⟨-, -, -, -, m19, m20, m21, -⟩ := mv_cells hb
  go_wp2_with fail
  clear k19 k20 k21 b0 b1 b2 b3 b4 b5 m19 m20 m21
  have hb' : Blk ((((w5.alloc (.cells #[.int .i64 y.TF, .int .i64 (tt + k), .int .i64 y.TE] 34)).setCell ⟨mb, 19, none⟩ (.int .i64 y.TF)).setCell ⟨mb, 20, none⟩ (.int .i64 (tt + k))).setCell ⟨mb, 21, none⟩ (.int .i64 y.TE)) mb 91 (mvCs b tp y ot (tt + k) mg n) := ((hb.set_ 19 (.int .i64 y.TF)).set_ 20 (.int .i64 (tt + k))).set_ 21 (.int .i64 y.TE)
  have hh' : Blk ((((w5.alloc (.cells #[.int .i64 y.TF, .int .i64 (tt + k), .int .i64 y.TE] 34)).setCell ⟨mb, 19, none⟩ (.int .i64 y.TF)).setCell ⟨mb, 20, none⟩ (.int .i64 (tt + k))).setCell ⟨mb, 21, none⟩ (.int .i64 y.TE)) h 123 [.int .i64 C, .int .i64 A, .int .i64 0, .bool false, .bool f, .bool d] := ((hh.far (p := ⟨mb, 19, none⟩) (fun e => nmh e.symm) _).far (p := ⟨mb, 20, none⟩) (fun e => nmh e.symm) _).far (p := ⟨mb, 21, none⟩) (fun e => nmh e.symm) _
  have hr' : Blk ((((w5.alloc (.cells #[.int .i64 y.TF, .int .i64 (tt + k), .int .i64 y.TE] 34)).setCell ⟨mb, 19, none⟩ (.int .i64 y.TF)).setCell ⟨mb, 20, none⟩ (.int .i64 (tt + k))).setCell ⟨mb, 21, none⟩ (.int .i64 y.TE)) r 123 [.int .i64 0, .int .i64 0, .int .i64 0, .bool false, .bool false, .bool false] := ((hr.far (p := ⟨mb, 19, none⟩) (fun e => nmr e.symm) _).far (p := ⟨mb, 20, none⟩) (fun e => nmr e.symm) _).far (p := ⟨mb, 21, none⟩) (fun e => nmr e.symm) _
  have cc' : Chg (· = mb) w ((((w5.alloc (.cells #[.int .i64 y.TF, .int .i64 (tt + k), .int .i64 y.TE] 34)).setCell ⟨mb, 19, none⟩ (.int .i64 y.TF)).setCell ⟨mb, 20, none⟩ (.int .i64 (tt + k))).setCell ⟨mb, 21, none⟩ (.int .i64 y.TE)) := (((cc.mono (S := (· = mb)) (fun _ _ h => h.elim)).setCell (p := ⟨mb, 19, none⟩) (fun _ => rfl) _).setCell (p := ⟨mb, 20, none⟩) (fun _ => rfl) _).setCell (p := ⟨mb, 21, none⟩) (fun _ => rfl) _
  clear hb hh hr cc hq q0 q1' q2
  generalize (((w5.alloc (.cells #[.int .i64 y.TF, .int .i64 (tt + k), .int .i64 y.TE] 34)).setCell ⟨mb, 19, none⟩ (.int .i64 y.TF)).setCell ⟨mb, 20, none⟩ (.int .i64 (tt + k))).setCell ⟨mb, 21, none⟩ (.int .i64 y.TE) = w7 at *
  refine (L4.older_in C A 0 false f d _ hA.1 hA.2).mono ?_
  rintro e w8 ⟨rfl, c8⟩
  replace hr' := hr'.chg c8 id
  replace hb' := hb'.chg c8 id
  have HC8 := hide (cc'.trans (c8.mono (fun _ _ h => h.elim)))
  clear c8 cc' hh'
  obtain ⟨r0, r1, r2, r3, r4, r5⟩ := hr'.cell6
  obtain ⟨f0, f1, f2, f3, f4, f5⟩ := hr'.frozen6
  have HB8 := hide hb'
  have HR8 := hide hr'
  clear hr' hb'
  go_wp2
  clear r0 r1 r2 r3 r4 r5 f0 f1 f2 f3 f4 f5
  have hr2 : Blk (((((((w8).setCell ⟨r, 0, none⟩ (.int .i64 C)).setCell ⟨r, 1, none⟩ (.int .i64 (L4.olA A))).setCell ⟨r, 2, none⟩ (.int .i64 0)).setCell ⟨r, 3, none⟩ (.bool false)).setCell ⟨r, 4, none⟩ (.bool f)).setCell ⟨r, 5, none⟩ (.bool d)) r 123 [.int .i64 C, .int .i64 (L4.olA A), .int .i64 0, .bool false, .bool f, .bool d] := HR8.out.put6 (.int .i64 C) (.int .i64 (L4.olA A)) (.int .i64 0) (.bool false) (.bool f) (.bool d)
  have hb2 : Blk (((((((w8).setCell ⟨r, 0, none⟩ (.int .i64 C)).setCell ⟨r, 1, none⟩ (.int .i64 (L4.olA A))).setCell ⟨r, 2, none⟩ (.int .i64 0)).setCell ⟨r, 3, none⟩ (.bool false)).setCell ⟨r, 4, none⟩ (.bool f)).setCell ⟨r, 5, none⟩ (.bool d)) mb 91 (mvCs b tp y ot (tt + k) mg n) := HB8.out.far6 nmr (.int .i64 C) (.int .i64 (L4.olA A)) (.int .i64 0) (.bool false) (.bool f) (.bool d)
  have hfr : r < w.heap.size → r = mb := fun hlt => absurd hlt (by have : w.heap.size ≤ r := fr; omega)
  have c2 : Chg (· = mb) w (((((((w8).setCell ⟨r, 0, none⟩ (.int .i64 C)).setCell ⟨r, 1, none⟩ (.int .i64 (L4.olA A))).setCell ⟨r, 2, none⟩ (.int .i64 0)).setCell ⟨r, 3, none⟩ (.bool false)).setCell ⟨r, 4, none⟩ (.bool f)).setCell ⟨r, 5, none⟩ (.bool d)) := (((((HC8.out.setCell (p := ⟨r, 0, none⟩) hfr _).setCell (p := ⟨r, 1, none⟩) hfr _).setCell (p := ⟨r, 2, none⟩) hfr _).setCell (p := ⟨r, 3, none⟩) hfr _).setCell (p := ⟨r, 4, none⟩) hfr _).setCell (p := ⟨r, 5, none⟩) hfr _
  clear HB8 HR8 HC8 hfr
  generalize (((((((w8).setCell ⟨r, 0, none⟩ (.int .i64 C)).setCell ⟨r, 1, none⟩ (.int .i64 (L4.olA A))).setCell ⟨r, 2, none⟩ (.int .i64 0)).setCell ⟨r, 3, none⟩ (.bool false)).setCell ⟨r, 4, none⟩ (.bool f)).setCell ⟨r, 5, none⟩ (.bool d)) = w9 at *
  obtain ⟨r0, r1, r2, r3, r4, r5⟩ := hr2.cell6
  refine bodyPost_ret (v := .tuple #[.int .i64 tt, hdV C (L4.olA A) 0 false f d]) (by simp [results, Tryz.results78, go_sem, r0, r1, r2, r3, r4, r5]) rfl ?_
  exact ⟨rfl, hb2, c2⟩
set_option maxHeartbeats 2000000 in
theorem place_old (hb : Blk w mb 91 (mvCs b tp y ot tt mg n)) (ho : L2.riB y.OF ot y.OE = true) (hk : 1 ≤ k) (h1 : ¬ A < y.th) (h3 : (k : Int) ≤ y.OE - ot) :
    Calls Tryz.prog 78 #[ptr mb, .int .i64 k, hdV C A F m f d] w fun e w' => e = .returned (.tuple #[.int .i64 ot, hdV C A 0 false f d]) ∧ Blk w' mb 91 (mvCs b tp y (ot + k) tt mg n) ∧ Chg (· = mb) w w' := by
  have q1 : decide (A < y.th) = false := decide_eq_false h1
  obtain ⟨hh, hr, cc, fh, fr, nhr⟩ := boxes2 w 123 [.int .i64 C, .int .i64 A, .int .i64 0, .bool false, .bool f, .bool d] 123 [.int .i64 0, .int .i64 0, .int .i64 0, .bool false, .bool false, .bool false]
  have hml := hb.lt
  have nmh : ¬ mb = w.heap.size := by omega
  have nmr : ¬ mb = w.heap.size + 1 := by omega
  go_enter Tryz.func78, Tryz.ntmps78
  go_wp2_with fail
  replace hb := hb.chg cc id
  generalize (w.alloc (.cells #[.int .i64 C, .int .i64 A, .int .i64 0, .bool false, .bool f, .bool d] 123)).alloc (.cells #[.int .i64 0, .int .i64 0, .int .i64 0, .bool false, .bool false, .bool false] 123) = w3 at *
  generalize hrr : w.heap.size + 1 = r at *
  generalize hhh : w.heap.size = h at *
  obtain ⟨-, b1, -⟩ := hh.cell6
  obtain ⟨m15, -⟩ := mv_cells hb
  refine wp_region_grow (by kernel_rfl) (by kernel_rfl) ?_
  repeat (
    with_reducible refine wpQuiet_step ?_
    intro K hK
    first
      | ((with_reducible refine quiet_offT rfl ?_ (hK _ ?_)); focus (refine ⟨_, rfl, ?_⟩; with_reducible rfl))
      | ((with_reducible refine quiet_offF rfl ?_ (hK _ ?_)); focus (refine ⟨_, rfl, ?_⟩; with_reducible rfl))
      | ((with_reducible refine quiet_offN rfl ?_ (hK _ ?_)); focus (exact rfl))
      | ((first | with_reducible refine quiet_free rfl ?_ | ((with_reducible refine quiet_on rfl ?_ ?_); focus (refine ⟨_, rfl, ?_⟩; with_reducible rfl)))
         apply Exists.intro
         refine ⟨fun Wq hW => ?_, hK _ ?_⟩
         focus (have q0 := Grow.cell hW b1; have q1 := Grow.cell hW m15; go_simp; first | done | with_reducible rfl))
    clear hK K
    simp only [Act.put, List.setIfInBounds_toArray, List.set_cons_zero, List.set_cons_succ])
  with_reducible refine wpQuiet_nil ?_
  intro w4 c4
  replace hh := hh.chg c4 id
  replace hr := hr.chg c4 id
  replace hb := hb.chg c4 id
  replace cc := cc.trans c4
  clear c4 b1 m15
  obtain ⟨-, m16, m17, m18, -⟩ := mv_cells hb
  go_wp2_with fail
  clear m16 m17 m18
  refine (L2.take_ok y.OF ot y.OE (k : Int) _ ho (by omega) h3).mono ?_
  rintro e w5 ⟨rfl, c5⟩
  replace hh := hh.chg c5 id
  replace hr := hr.chg c5 id
  replace hb := hb.chg c5 id
  replace cc := cc.trans c5
  clear c5
  have hq := Blk.new w5 34 [.int .i64 y.OF, .int .i64 (ot + k), .int .i64 y.OE]
  replace hh := hh.alloc (.cells [.int .i64 y.OF, .int .i64 (ot + k), .int .i64 y.OE].toArray 34)
  replace hr := hr.alloc (.cells [.int .i64 y.OF, .int .i64 (ot + k), .int .i64 y.OE].toArray 34)
  replace hb := hb.alloc (.cells [.int .i64 y.OF, .int .i64 (ot + k), .int .i64 y.OE].toArray 34)
  replace cc := cc.alloc (.cells [.int .i64 y.OF, .int .i64 (ot + k), .int .i64 y.OE].toArray 34)
  obtain ⟨q0, q1', q2⟩ := hq.cell3
  obtain ⟨k16, k17, k18, -⟩ := mv_fr hb
  obtain ⟨-, m16, m17, m18, -⟩ := mv_cells hb
  go_wp2_with fail
  clear k16 k17 k18 m16 m17 m18
  have hb' : Blk ((((w5.alloc (.cells #[.int .i64 y.OF, .int .i64 (ot + k), .int .i64 y.OE] 34)).setCell ⟨mb, 16, none⟩ (.int .i64 y.OF)).setCell ⟨mb, 17, none⟩ (.int .i64 (ot + k))).setCell ⟨mb, 18, none⟩ (.int .i64 y.OE)) mb 91 (mvCs b tp y (ot + k) tt mg n) := ((hb.set_ 16 (.int .i64 y.OF)).set_ 17 (.int .i64 (ot + k))).set_ 18 (.int .i64 y.OE)
  have hh' : Blk ((((w5.alloc (.cells #[.int .i64 y.OF, .int .i64 (ot + k), .int .i64 y.OE] 34)).setCell ⟨mb, 16, none⟩ (.int .i64 y.OF)).setCell ⟨mb, 17, none⟩ (.int .i64 (ot + k))).setCell ⟨mb, 18, none⟩ (.int .i64 y.OE)) h 123 [.int .i64 C, .int .i64 A, .int .i64 0, .bool false, .bool f, .bool d] := ((hh.far (p := ⟨mb, 16, none⟩) (fun e => nmh e.symm) _).far (p := ⟨mb, 17, none⟩) (fun e => nmh e.symm) _).far (p := ⟨mb, 18, none⟩) (fun e => nmh e.symm) _
  have hr' : Blk ((((w5.alloc (.cells #[.int .i64 y.OF, .int .i64 (ot + k), .int .i64 y.OE] 34)).setCell ⟨mb, 16, none⟩ (.int .i64 y.OF)).setCell ⟨mb, 17, none⟩ (.int .i64 (ot + k))).setCell ⟨mb, 18, none⟩ (.int .i64 y.OE)) r 123 [.int .i64 0, .int .i64 0, .int .i64 0, .bool false, .bool false, .bool false] := ((hr.far (p := ⟨mb, 16, none⟩) (fun e => nmr e.symm) _).far (p := ⟨mb, 17, none⟩) (fun e => nmr e.symm) _).far (p := ⟨mb, 18, none⟩) (fun e => nmr e.symm) _
  have cc' : Chg (· = mb) w ((((w5.alloc (.cells #[.int .i64 y.OF, .int .i64 (ot + k), .int .i64 y.OE] 34)).setCell ⟨mb, 16, none⟩ (.int .i64 y.OF)).setCell ⟨mb, 17, none⟩ (.int .i64 (ot + k))).setCell ⟨mb, 18, none⟩ (.int .i64 y.OE)) := (((cc.mono (S := (· = mb)) (fun _ _ h => h.elim)).setCell (p := ⟨mb, 16, none⟩) (fun _ => rfl) _).setCell (p := ⟨mb, 17, none⟩) (fun _ => rfl) _).setCell (p := ⟨mb, 18, none⟩) (fun _ => rfl) _
  clear hb hh hr cc hq q0 q1' q2
  generalize (((w5.alloc (.cells #[.int .i64 y.OF, .int .i64 (ot + k), .int .i64 y.OE] 34)).setCell ⟨mb, 16, none⟩ (.int .i64 y.OF)).setCell ⟨mb, 17, none⟩ (.int .i64 (ot + k))).setCell ⟨mb, 18, none⟩ (.int .i64 y.OE) = w7 at *
  obtain ⟨b0, b1, b2, b3, b4, b5⟩ := hh'.cell6
  obtain ⟨r0, r1, r2, r3, r4, r5⟩ := hr'.cell6
  obtain ⟨f0, f1, f2, f3, f4, f5⟩ := hr'.frozen6
  go_still_tail 3, (by kernel_rfl)
  change wpList _ _ _ _ _ (World.drew _)
  have HB8 := hide hb'.drew
  have HR8 := hide hr'.drew
  have HC8 := hide cc'.drew
  clear hr' hb' hh' cc' b0 b1 b2 b3 b4 b5 r0 r1 r2 r3 r4 r5 f0 f1 f2 f3 f4 f5
  generalize w7.drew = w8 at *
  obtain ⟨r0, r1, r2, r3, r4, r5⟩ := HR8.out.cell6
  obtain ⟨f0, f1, f2, f3, f4, f5⟩ := HR8.out.frozen6
  go_wp2
  clear r0 r1 r2 r3 r4 r5 f0 f1 f2 f3 f4 f5
  have hr2 : Blk (((((((w8).setCell ⟨r, 0, none⟩ (.int .i64 C)).setCell ⟨r, 1, none⟩ (.int .i64 A)).setCell ⟨r, 2, none⟩ (.int .i64 0)).setCell ⟨r, 3, none⟩ (.bool false)).setCell ⟨r, 4, none⟩ (.bool f)).setCell ⟨r, 5, none⟩ (.bool d)) r 123 [.int .i64 C, .int .i64 A, .int .i64 0, .bool false, .bool f, .bool d] := HR8.out.put6 (.int .i64 C) (.int .i64 A) (.int .i64 0) (.bool false) (.bool f) (.bool d)
  have hb2 : Blk (((((((w8).setCell ⟨r, 0, none⟩ (.int .i64 C)).setCell ⟨r, 1, none⟩ (.int .i64 A)).setCell ⟨r, 2, none⟩ (.int .i64 0)).setCell ⟨r, 3, none⟩ (.bool false)).setCell ⟨r, 4, none⟩ (.bool f)).setCell ⟨r, 5, none⟩ (.bool d)) mb 91 (mvCs b tp y (ot + k) tt mg n) := HB8.out.far6 nmr (.int .i64 C) (.int .i64 A) (.int .i64 0) (.bool false) (.bool f) (.bool d)
  have hfr : r < w.heap.size → r = mb := fun hlt => absurd hlt (by have : w.heap.size ≤ r := fr; omega)
  have c2 : Chg (· = mb) w (((((((w8).setCell ⟨r, 0, none⟩ (.int .i64 C)).setCell ⟨r, 1, none⟩ (.int .i64 A)).setCell ⟨r, 2, none⟩ (.int .i64 0)).setCell ⟨r, 3, none⟩ (.bool false)).setCell ⟨r, 4, none⟩ (.bool f)).setCell ⟨r, 5, none⟩ (.bool d)) := (((((HC8.out.setCell (p := ⟨r, 0, none⟩) hfr _).setCell (p := ⟨r, 1, none⟩) hfr _).setCell (p := ⟨r, 2, none⟩) hfr _).setCell (p := ⟨r, 3, none⟩) hfr _).setCell (p := ⟨r, 4, none⟩) hfr _).setCell (p := ⟨r, 5, none⟩) hfr _
  clear HB8 HR8 HC8 hfr
  generalize (((((((w8).setCell ⟨r, 0, none⟩ (.int .i64 C)).setCell ⟨r, 1, none⟩ (.int .i64 A)).setCell ⟨r, 2, none⟩ (.int .i64 0)).setCell ⟨r, 3, none⟩ (.bool false)).setCell ⟨r, 4, none⟩ (.bool f)).setCell ⟨r, 5, none⟩ (.bool d)) = w9 at *
  obtain ⟨r0, r1, r2, r3, r4, r5⟩ := hr2.cell6
  refine bodyPost_ret (v := .tuple #[.int .i64 ot, hdV C A 0 false f d]) (by simp [results, Tryz.results78, go_sem, r0, r1, r2, r3, r4, r5]) rfl ?_
  exact ⟨rfl, hb2, c2⟩
set_option maxHeartbeats 2000000 in
theorem place_full (hb : Blk w mb 91 (mvCs b tp y ot tt mg n)) (ho : L2.riB y.OF ot y.OE = true) (ht : L2.riB y.TF tt y.TE = true) (hk : 1 ≤ k) (hk4 : k ≤ 100) (h1 : A < y.th) (h2 : y.TE - tt < (k : Int)) (h3 : (k : Int) ≤ y.OE - ot) :
    Calls Tryz.prog 78 #[ptr mb, .int .i64 k, hdV C A F m f d] w fun e w' => e = .returned (.tuple #[.int .i64 ot, hdV C A 0 false f d]) ∧ Blk w' mb 91 (mvCs b tp y (ot + k) tt mg n) ∧ Chg (· = mb) w w' := by
  have q1 : decide (A < y.th) = true := decide_eq_true h1
  obtain ⟨hh, hr, cc, fh, fr, nhr⟩ := boxes2 w 123 [.int .i64 C, .int .i64 A, .int .i64 0, .bool false, .bool f, .bool d] 123 [.int .i64 0, .int .i64 0, .int .i64 0, .bool false, .bool false, .bool false]
  have hml := hb.lt
  have nmh : ¬ mb = w.heap.size := by omega
  have nmr : ¬ mb = w.heap.size + 1 := by omega
  go_enter Tryz.func78, Tryz.ntmps78
  go_wp2_with fail
  replace hb := hb.chg cc id
  generalize (w.alloc (.cells #[.int .i64 C, .int .i64 A, .int .i64 0, .bool false, .bool f, .bool d] 123)).alloc (.cells #[.int .i64 0, .int .i64 0, .int .i64 0, .bool false, .bool false, .bool false] 123) = w3 at *
  generalize hrr : w.heap.size + 1 = r at *
  generalize hhh : w.heap.size = h at *
  obtain ⟨-, b1, -⟩ := hh.cell6
  obtain ⟨m15, -⟩ := mv_cells hb
  refine wp_region_grow (by kernel_rfl) (by kernel_rfl) ?_
  repeat (
    with_reducible refine wpQuiet_step ?_
    intro K hK
    first
      | ((with_reducible refine quiet_offT rfl ?_ (hK _ ?_)); focus (refine ⟨_, rfl, ?_⟩; with_reducible rfl))
      | ((with_reducible refine quiet_offF rfl ?_ (hK _ ?_)); focus (refine ⟨_, rfl, ?_⟩; with_reducible rfl))
      | ((with_reducible refine quiet_offN rfl ?_ (hK _ ?_)); focus (exact rfl))
      | ((first | with_reducible refine quiet_free rfl ?_ | ((with_reducible refine quiet_on rfl ?_ ?_); focus (refine ⟨_, rfl, ?_⟩; with_reducible rfl)))
         apply Exists.intro
         refine ⟨fun Wq hW => ?_, hK _ ?_⟩
         focus (have q0 := Grow.cell hW b1; have q1 := Grow.cell hW m15; go_simp; first | done | with_reducible rfl))
    clear hK K
    simp only [Act.put, List.setIfInBounds_toArray, List.set_cons_zero, List.set_cons_succ])
  with_reducible refine wpQuiet_nil ?_
  intro w4 c4
  replace hh := hh.chg c4 id
  replace hr := hr.chg c4 id
  replace hb := hb.chg c4 id
  replace cc := cc.trans c4
  clear c4 b1 m15
  obtain ⟨-, -, -, -, m19, m20, m21, -⟩ := mv_cells hb
  go_wp2_with fail
  clear m19 m20 m21
  refine (L2.take_full y.TF tt y.TE (k : Int) _ (by omega) ht (by omega) h2).mono ?_
  rintro e wt ⟨rfl, c5⟩
  replace hh := hh.chg c5 id
  replace hr := hr.chg c5 id
  replace hb := hb.chg c5 id
  replace cc := cc.trans c5
  clear c5
  have hz := Grow.box wt (.cells [.int .i64 0, .int .i64 0, .int .i64 0].toArray 34)
  replace hh := hh.chg hz id
  replace hr := hr.chg hz id
  replace hb := hb.chg hz id
  replace cc := cc.trans hz
  clear hz
  obtain ⟨-, m16, m17, m18, -⟩ := mv_cells hb
  go_wp2_with fail
  clear m16 m17 m18
  refine (L2.take_ok y.OF ot y.OE (k : Int) _ ho (by omega) h3).mono ?_
  rintro e w5 ⟨rfl, c5⟩
  replace hh := hh.chg c5 id
  replace hr := hr.chg c5 id
  replace hb := hb.chg c5 id
  replace cc := cc.trans c5
  clear c5
  have hq := Blk.new w5 34 [.int .i64 y.OF, .int .i64 (ot + k), .int .i64 y.OE]
  replace hh := hh.alloc (.cells [.int .i64 y.OF, .int .i64 (ot + k), .int .i64 y.OE].toArray 34)
  replace hr := hr.alloc (.cells [.int .i64 y.OF, .int .i64 (ot + k), .int .i64 y.OE].toArray 34)
  replace hb := hb.alloc (.cells [.int .i64 y.OF, .int .i64 (ot + k), .int .i64 y.OE].toArray 34)
  replace cc := cc.alloc (.cells [.int .i64 y.OF, .int .i64 (ot + k), .int .i64 y.OE].toArray 34)
  obtain ⟨q0, q1', q2⟩ := hq.cell3
  obtain ⟨k16, k17, k18, -⟩ := mv_fr hb
  obtain ⟨-, m16, m17, m18, -⟩ := mv_cells hb
  go_wp2_with fail
  clear k16 k17 k18 m16 m17 m18
  have hb' : Blk ((((w5.alloc (.cells #[.int .i64 y.OF, .int .i64 (ot + k), .int .i64 y.OE] 34)).setCell ⟨mb, 16, none⟩ (.int .i64 y.OF)).setCell ⟨mb, 17, none⟩ (.int .i64 (ot + k))).setCell ⟨mb, 18, none⟩ (.int .i64 y.OE)) mb 91 (mvCs b tp y (ot + k) tt mg n) := ((hb.set_ 16 (.int .i64 y.OF)).set_ 17 (.int .i64 (ot + k))).set_ 18 (.int .i64 y.OE)
  have hh' : Blk ((((w5.alloc (.cells #[.int .i64 y.OF, .int .i64 (ot + k), .int .i64 y.OE] 34)).setCell ⟨mb, 16, none⟩ (.int .i64 y.OF)).setCell ⟨mb, 17, none⟩ (.int .i64 (ot + k))).setCell ⟨mb, 18, none⟩ (.int .i64 y.OE)) h 123 [.int .i64 C, .int .i64 A, .int .i64 0, .bool false, .bool f, .bool d] := ((hh.far (p := ⟨mb, 16, none⟩) (fun e => nmh e.symm) _).far (p := ⟨mb, 17, none⟩) (fun e => nmh e.symm) _).far (p := ⟨mb, 18, none⟩) (fun e => nmh e.symm) _
  have hr' : Blk ((((w5.alloc (.cells #[.int .i64 y.OF, .int .i64 (ot + k), .int .i64 y.OE] 34)).setCell ⟨mb, 16, none⟩ (.int .i64 y.OF)).setCell ⟨mb, 17, none⟩ (.int .i64 (ot + k))).setCell ⟨mb, 18, none⟩ (.int .i64 y.OE)) r 123 [.int .i64 0, .int .i64 0, .int .i64 0, .bool false, .bool false, .bool false] := ((hr.far (p := ⟨mb, 16, none⟩) (fun e => nmr e.symm) _).far (p := ⟨mb, 17, none⟩) (fun e => nmr e.symm) _).far (p := ⟨mb, 18, none⟩) (fun e => nmr e.symm) _
  have cc' : Chg (· = mb) w ((((w5.alloc (.cells #[.int .i64 y.OF, .int .i64 (ot + k), .int .i64 y.OE] 34)).setCell ⟨mb, 16, none⟩ (.int .i64 y.OF)).setCell ⟨mb, 17, none⟩ (.int .i64 (ot + k))).setCell ⟨mb, 18, none⟩ (.int .i64 y.OE)) := (((cc.mono (S := (· = mb)) (fun _ _ h => h.elim)).setCell (p := ⟨mb, 16, none⟩) (fun _ => rfl) _).setCell (p := ⟨mb, 17, none⟩) (fun _ => rfl) _).setCell (p := ⟨mb, 18, none⟩) (fun _ => rfl) _
  clear hb hh hr cc hq q0 q1' q2
  generalize (((w5.alloc (.cells #[.int .i64 y.OF, .int .i64 (ot + k), .int .i64 y.OE] 34)).setCell ⟨mb, 16, none⟩ (.int .i64 y.OF)).setCell ⟨mb, 17, none⟩ (.int .i64 (ot + k))).setCell ⟨mb, 18, none⟩ (.int .i64 y.OE) = w7 at *
  obtain ⟨b0, b1, b2, b3, b4, b5⟩ := hh'.cell6
  obtain ⟨r0, r1, r2, r3, r4, r5⟩ := hr'.cell6
  obtain ⟨f0, f1, f2, f3, f4, f5⟩ := hr'.frozen6
  go_still_tail 3, (by kernel_rfl)
  change wpList _ _ _ _ _ (World.drew _)
  have HB8 := hide hb'.drew
  have HR8 := hide hr'.drew
  have HC8 := hide cc'.drew
  clear hr' hb' hh' cc' b0 b1 b2 b3 b4 b5 r0 r1 r2 r3 r4 r5 f0 f1 f2 f3 f4 f5
  generalize w7.drew = w8 at *
  obtain ⟨r0, r1, r2, r3, r4, r5⟩ := HR8.out.cell6
  obtain ⟨f0, f1, f2, f3, f4, f5⟩ := HR8.out.frozen6
  go_wp2
  clear r0 r1 r2 r3 r4 r5 f0 f1 f2 f3 f4 f5
  have hr2 : Blk (((((((w8).setCell ⟨r, 0, none⟩ (.int .i64 C)).setCell ⟨r, 1, none⟩ (.int .i64 A)).setCell ⟨r, 2, none⟩ (.int .i64 0)).setCell ⟨r, 3, none⟩ (.bool false)).setCell ⟨r, 4, none⟩ (.bool f)).setCell ⟨r, 5, none⟩ (.bool d)) r 123 [.int .i64 C, .int .i64 A, .int .i64 0, .bool false, .bool f, .bool d] := HR8.out.put6 (.int .i64 C) (.int .i64 A) (.int .i64 0) (.bool false) (.bool f) (.bool d)
  have hb2 : Blk (((((((w8).setCell ⟨r, 0, none⟩ (.int .i64 C)).setCell ⟨r, 1, none⟩ (.int .i64 A)).setCell ⟨r, 2, none⟩ (.int .i64 0)).setCell ⟨r, 3, none⟩ (.bool false)).setCell ⟨r, 4, none⟩ (.bool f)).setCell ⟨r, 5, none⟩ (.bool d)) mb 91 (mvCs b tp y (ot + k) tt mg n) := HB8.out.far6 nmr (.int .i64 C) (.int .i64 A) (.int .i64 0) (.bool false) (.bool f) (.bool d)
  have hfr : r < w.heap.size → r = mb := fun hlt => absurd hlt (by have : w.heap.size ≤ r := fr; omega)
  have c2 : Chg (· = mb) w (((((((w8).setCell ⟨r, 0, none⟩ (.int .i64 C)).setCell ⟨r, 1, none⟩ (.int .i64 A)).setCell ⟨r, 2, none⟩ (.int .i64 0)).setCell ⟨r, 3, none⟩ (.bool false)).setCell ⟨r, 4, none⟩ (.bool f)).setCell ⟨r, 5, none⟩ (.bool d)) := (((((HC8.out.setCell (p := ⟨r, 0, none⟩) hfr _).setCell (p := ⟨r, 1, none⟩) hfr _).setCell (p := ⟨r, 2, none⟩) hfr _).setCell (p := ⟨r, 3, none⟩) hfr _).setCell (p := ⟨r, 4, none⟩) hfr _).setCell (p := ⟨r, 5, none⟩) hfr _
  clear HB8 HR8 HC8 hfr
  generalize (((((((w8).setCell ⟨r, 0, none⟩ (.int .i64 C)).setCell ⟨r, 1, none⟩ (.int .i64 A)).setCell ⟨r, 2, none⟩ (.int .i64 0)).setCell ⟨r, 3, none⟩ (.bool false)).setCell ⟨r, 4, none⟩ (.bool f)).setCell ⟨r, 5, none⟩ (.bool d)) = w9 at *
  obtain ⟨r0, r1, r2, r3, r4, r5⟩ := hr2.cell6
  refine bodyPost_ret (v := .tuple #[.int .i64 ot, hdV C A 0 false f d]) (by simp [results, Tryz.results78, go_sem, r0, r1, r2, r3, r4, r5]) rfl ?_
  exact ⟨rfl, hb2, c2⟩
theorem place_any {at_ Ao : Int} {T : Bool} (hb : Blk w mb 91 (mvCs b tp y ot tt mg n)) (ho : L2.riB y.OF ot y.OE = true) (ht : L2.riB y.TF tt y.TE = true) (hA : 0 ≤ A ∧ A ≤ 7) (hk : 1 ≤ k) (hk4 : k ≤ 100) (h3 : (k : Int) ≤ y.OE - ot)
    (hT : T = (decide (A < y.th) && decide ((k : Int) ≤ y.TE - tt))) (hat : at_ = if T then tt else ot) (hAo : Ao = if T then L4.olA A else A) :
    Calls Tryz.prog 78 #[ptr mb, .int .i64 k, hdV C A F m f d] w fun e w' => e = .returned (.tuple #[.int .i64 at_, hdV C Ao 0 false f d]) ∧ Blk w' mb 91 (mvCs b tp y (if T then ot else ot + k) (if T then tt + k else tt) mg n) ∧ Chg (· = mb) w w' := by
  subst hat hAo
  by_cases h1 : A < y.th
  · by_cases h2 : (k : Int) ≤ y.TE - tt
    · have : T = true := by rw [hT]; simp [h1, h2]
      subst this
      exact place_to hb ht hA hk h1 h2
    · have : T = false := by rw [hT]; simp [h2]
      subst this
      exact place_full hb ho ht hk hk4 h1 (by omega) h3
  · have : T = false := by rw [hT]; simp [h1]
    subst this
    exact place_old hb ho hk h1 h3
end
end Go.Proofs.YtogfjclmohpjkaaGreatDoor.L15

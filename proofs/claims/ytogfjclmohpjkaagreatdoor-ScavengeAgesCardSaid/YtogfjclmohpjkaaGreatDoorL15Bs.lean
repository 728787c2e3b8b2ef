/- The plain store of a life's words: what its Size, Shape and Head answer of an object. Conditions: there is an object. -/
import Derived.Test.YtogfjclmohpjkaaGreatDoorL15L
namespace Go.Proofs.YtogfjclmohpjkaaGreatDoor.L15
open Go.ChangeShapes Go.WideShapes Go.ChangeAt Go.RowKit
open Go.Proofs.YtogfjclmohpjkaaGreatDoor.L1 (Sl Ar RAr ptr exB)
open Go.Proofs.YtogfjclmohpjkaaGreatDoor.L4 (hdV riB wd)
open Go.Proofs.YtogfjclmohpjkaaGreatDoor.L5 (Cl clV rtB Tb clAt shX shR shD IsCls)
open Go.Proofs.YtogfjclmohpjkaaGreatDoor.L6 (Th th0 stV St fdT fdX obT obX slX slP slV gw Wk)
set_option linter.unusedVariables false
set_option maxRecDepth 100000
/-- A plain store in memory: its words, its classes. -/
structure Rs (w : World) (q z : Nat) (ca : Option Addr) (cl cp : Nat) (xs : List Int) (cs : List Cl) : Prop where
  ar : RAr w q z xs
  cls : IsCls w ca cl cp cs
  n : xs.length ≤ 4096
  rt : cs.all Cl.rt = true
abbrev rsV (q : Nat) (ca : Option Addr) (cl cp : Nat) : Value := .agg #[ptr q, .slice ca cl cp]
section
variable {w w' W : World} {q z cl cp : Nat} {ca : Option Addr} {xs : List Int} {cs : List Cl} {a : Int} {o : Ob}
theorem Rs.grow (h : Rs w q z ca cl cp xs cs) (c : Grow w w') : Rs w' q z ca cl cp xs cs := ⟨h.ar.chg c id id, h.cls.chg c (fun _ _ => id), h.n, h.rt⟩
theorem Rs.cells (h : Rs w q z ca cl cp xs cs) {K : Nat} (ho : ObAt xs cs (K : Int) o) : w.cell? ⟨q, 0, none⟩ = some (.slice (some ⟨z, 0, none⟩) xs.length xs.length) ∧ w.cell? ⟨z, K, none⟩ = some (.int .i64 (wd o.C o.A o.F o.m o.f o.d)) ∧ w.cell? ⟨z, K + 1, none⟩ = some (.int .i64 o.l) := by
  have hl := ho.len
  have hs := sz_pos o
  have h2 : 2 ≤ o.sz := by unfold Ob.sz; omega
  refine ⟨h.ar.cell, ?_, ?_⟩
  · rw [h.ar.2.cell, ints_get _ _ (by omega)]
    have := ho.g0
    unfold gw at this
    rw [← this]; rfl
  · rw [h.ar.2.cell, ints_get _ _ (by omega)]
    have := ho.g1
    unfold gw at this
    rw [← this]
    congr 2
set_option maxHeartbeats 2000000 in
theorem rsize_any (h : Rs w q z ca cl cp xs cs) (ho : ObAt xs cs a o) :
    Calls Tryz.prog 109 #[rsV q ca cl cp, .int .i64 a] w fun e w' => e = .returned (.tuple #[.int .i64 (o.sz : Int), .bool true, .int .i64 0]) ∧ Grow w w' := by
  have ha1 := ho.a1
  have hl := ho.len
  obtain ⟨K, rfl⟩ := Int.eq_ofNat_of_zero_le (show 0 ≤ a by omega)
  obtain ⟨b1, b2, b3, b4, b5, b6⟩ := ho.ok.bd h.rt
  obtain ⟨S, hS⟩ : ∃ S, o.sz = S := ⟨_, rfl⟩
  obtain ⟨R, hR⟩ : ∃ R, o.rs.length = R := ⟨_, rfl⟩
  obtain ⟨D, hD⟩ : ∃ D, o.ds.length = D := ⟨_, rfl⟩
  have hsum : 2 + R + D = S := by rw [← hR, ← hD, ← hS]; rfl
  obtain ⟨n, hn⟩ : ∃ n, xs.length = n := ⟨_, rfl⟩
  have hn4 := h.n
  rw [hS] at hl b1 b2
  rw [hS]
  rw [hn] at hl hn4
  have hkn : K + S ≤ n := by simpa using hl
  have HRI := hide ho.ok.ri
  have HCE := hide (fun W (c : Grow w W) => (h.grow c).cells ho)
  have HSH := hide (fun W (c : Grow w W) => show Calls Tryz.prog 61 #[.slice ca cl cp, .int .i64 o.C, .int .i64 o.l] W fun e w' => e = .returned (.tuple #[.int .i64 (R : Int), .int .i64 (D : Int), .int .i64 0]) ∧ Grow W w' from by
    have := L5.rshape_any (h.grow c).cls h.rt o.l o.C
    rw [ho.ok.r, ho.ok.d, ho.ok.x, hR, hD] at this
    exact this)
  have HTH := hide (fun W (c : Grow w W) => show Calls Tryz.prog 125 #[ptr q, .int .i64 (K : Int), .int .i64 (S : Int)] W fun e w' => e = .returned (.bool true) ∧ W = w' from by
    have := L1.there_any q z xs (K : Int) (S : Int) W (h.grow c).ar h.n (by omega) (by omega)
    rwa [show exB xs.length (K : Int) (S : Int) = true by rw [hn]; simp [exB]; omega] at this)
  rw [hn] at HCE
  obtain ⟨A, F, m, f, d, hh⟩ : ∃ A F m f d, o.A = A ∧ o.F = F ∧ o.m = m ∧ o.f = f ∧ o.d = d := ⟨_, _, _, _, _, rfl, rfl, rfl, rfl, rfl⟩
  obtain ⟨C, hC⟩ : ∃ C, o.C = C := ⟨_, rfl⟩
  obtain ⟨l, hll⟩ : ∃ l, o.l = l := ⟨_, rfl⟩
  rw [hC] at b3 b4
  rw [hh.1, hh.2.1, hh.2.2.1, hh.2.2.2.1, hh.2.2.2.2, hC, hll] at HCE
  rw [hh.1, hh.2.1, hh.2.2.2.1, hh.2.2.2.2, hC] at HRI
  rw [hC, hll] at HSH
  have q1 : decide ((K : Int) < 1) = false := decide_eq_false (by omega)
  have q2 : decide ((K : Int) ≥ (n : Int)) = false := decide_eq_false (by omega)
  have q3 : decide ((K : Int) + 1 ≥ (n : Int)) = false := decide_eq_false (by omega)
  have q4 : (C == 0) = false := by simp; omega
  have w1 : IntKind.i64.wrap ((K : Int) + 1) = (K : Int) + 1 := IntWalk.i64_in _ (by omega)
  have w2 : IntKind.i64.wrap (2 + (R : Int)) = 2 + (R : Int) := IntWalk.i64_in _ (by omega)
  have w3' : IntKind.i64.wrap (2 + (R : Int) + (D : Int)) = (S : Int) := (IntWalk.i64_in _ (by omega)).trans (by omega)
  have k1 : K < n := by omega
  have k2 : K + 1 < n := by omega
  clear h ho ha1 hl b1 b2 b3 b4 b5 b6 hS hR hD hsum hn hn4 hkn hh hC hll
  obtain ⟨hs, cc, fs⟩ := boxes1 w 57 [ptr q, .slice ca cl cp]
  go_enter Tryz.func109, Tryz.ntmps109
  obtain ⟨s0, s1⟩ := hs.cell2
  obtain ⟨c0, c1, c2⟩ := HCE.out _ cc
  go_wp2_with fail
  clear s0 s1 c0 c1 c2
  generalize w.alloc (.cells #[ptr q, .slice ca cl cp] 57) = w3 at *
  generalize w.heap.size = s at *
  refine (L4.rof_word _ HRI.out).mono ?_
  rintro e w4 ⟨rfl, c4⟩
  replace hs := hs.chg c4 id
  replace cc := cc.trans c4
  clear c4
  have hh := Blk.new w4 103 [.int .i64 C, .int .i64 A, .int .i64 F, .bool m, .bool f, .bool d]
  replace hs := hs.alloc (.cells [.int .i64 C, .int .i64 A, .int .i64 F, .bool m, .bool f, .bool d].toArray 103)
  replace cc := cc.alloc (.cells [.int .i64 C, .int .i64 A, .int .i64 F, .bool m, .bool f, .bool d].toArray 103)
  obtain ⟨s0, s1⟩ := hs.cell2
  obtain ⟨b0, b1, b2, b3, b4, b5⟩ := hh.cell6
  obtain ⟨c0, c1, c2⟩ := HCE.out _ cc
  go_wp2_with fail
  clear s0 s1 b0 b1 b2 b3 b4 b5 c0 c1 c2
  generalize w4.alloc (.cells #[.int .i64 C, .int .i64 A, .int .i64 F, .bool m, .bool f, .bool d] 103) = w5 at *
  generalize w4.heap.size = hb at *
  refine (HSH.out _ cc).mono ?_
  rintro e w6 ⟨rfl, c6⟩
  replace hs := hs.chg c6 id
  replace cc := cc.trans c6
  clear c6 hh
  obtain ⟨s0, s1⟩ := hs.cell2
  go_wp2_with fail
  refine (HTH.out _ cc).mono ?_
  rintro e w7 ⟨rfl, rfl⟩
  go_wp2
  refine bodyPost_ret (v := .tuple #[.int .i64 (S : Int), .bool true, .int .i64 0]) (by simp [results, Tryz.results109, go_sem]) rfl ?_
  exact ⟨rfl, cc⟩
set_option maxHeartbeats 2000000 in
theorem rshape_any (h : Rs w q z ca cl cp xs cs) (ho : ObAt xs cs a o) :
    Calls Tryz.prog 84 #[rsV q ca cl cp, .int .i64 a] w fun e w' => e = .returned (.tuple #[.int .i64 (o.rs.length : Int), .int .i64 (o.ds.length : Int), .int .i64 0]) ∧ Grow w w' := by
  have HSZ := hide (fun W (c : Grow w W) => rsize_any (h.grow c) ho)
  have ha1 := ho.a1
  have hl := ho.len
  obtain ⟨K, rfl⟩ := Int.eq_ofNat_of_zero_le (show 0 ≤ a by omega)
  obtain ⟨b1, b2, b3, b4, b5, b6⟩ := ho.ok.bd h.rt
  obtain ⟨R, hR⟩ : ∃ R, o.rs.length = R := ⟨_, rfl⟩
  obtain ⟨D, hD⟩ : ∃ D, o.ds.length = D := ⟨_, rfl⟩
  obtain ⟨n, hn⟩ : ∃ n, xs.length = n := ⟨_, rfl⟩
  have hn4 := h.n
  rw [hn] at hl hn4
  rw [hR, hD]
  have hkn : K + o.sz ≤ n := by simpa using hl
  have HRI := hide ho.ok.ri
  have HCE := hide (fun W (c : Grow w W) => (h.grow c).cells ho)
  have HSH := hide (fun W (c : Grow w W) => show Calls Tryz.prog 61 #[.slice ca cl cp, .int .i64 o.C, .int .i64 o.l] W fun e w' => e = .returned (.tuple #[.int .i64 (R : Int), .int .i64 (D : Int), .int .i64 0]) ∧ Grow W w' from by
    have := L5.rshape_any (h.grow c).cls h.rt o.l o.C
    rw [ho.ok.r, ho.ok.d, ho.ok.x, hR, hD] at this
    exact this)
  rw [hn] at HCE
  obtain ⟨A, F, m, f, d, hh⟩ : ∃ A F m f d, o.A = A ∧ o.F = F ∧ o.m = m ∧ o.f = f ∧ o.d = d := ⟨_, _, _, _, _, rfl, rfl, rfl, rfl, rfl⟩
  obtain ⟨C, hC⟩ : ∃ C, o.C = C := ⟨_, rfl⟩
  obtain ⟨l, hll⟩ : ∃ l, o.l = l := ⟨_, rfl⟩
  rw [hh.1, hh.2.1, hh.2.2.1, hh.2.2.2.1, hh.2.2.2.2, hC, hll] at HCE
  rw [hh.1, hh.2.1, hh.2.2.2.1, hh.2.2.2.2, hC] at HRI
  rw [hC, hll] at HSH
  obtain ⟨M, hM⟩ : ∃ M, K + 1 = M := ⟨_, rfl⟩
  rw [hM] at HCE
  have w1 : IntKind.i64.wrap ((K : Int) + 1) = (M : Int) := (IntWalk.i64_in _ (by omega)).trans (by omega)
  have k1 : K < n := by omega
  have k2 : M < n := by omega
  obtain ⟨S, hS⟩ : ∃ S, o.sz = S := ⟨_, rfl⟩
  rw [hS] at HSZ
  clear h ho ha1 hl b1 b2 b3 b4 b5 b6 hR hD hn hn4 hkn hh hC hll hS hM
  obtain ⟨hs, cc, fs⟩ := boxes1 w 57 [ptr q, .slice ca cl cp]
  go_enter Tryz.func84, Tryz.ntmps84
  obtain ⟨s0, s1⟩ := hs.cell2
  go_wp2_with fail
  clear s0 s1
  generalize w.alloc (.cells #[ptr q, .slice ca cl cp] 57) = w3 at *
  generalize w.heap.size = s at *
  refine (HSZ.out _ cc).mono ?_
  rintro e w4 ⟨rfl, c4⟩
  replace hs := hs.chg c4 id
  replace cc := cc.trans c4
  clear c4
  obtain ⟨s0, s1⟩ := hs.cell2
  obtain ⟨c0, c1, c2⟩ := HCE.out _ cc
  go_wp2_with fail
  clear s0 s1 c0 c1 c2
  refine (L4.rof_word _ HRI.out).mono ?_
  rintro e w5 ⟨rfl, c5⟩
  replace hs := hs.chg c5 id
  replace cc := cc.trans c5
  clear c5
  have hh := Blk.new w5 103 [.int .i64 C, .int .i64 A, .int .i64 F, .bool m, .bool f, .bool d]
  replace hs := hs.alloc (.cells [.int .i64 C, .int .i64 A, .int .i64 F, .bool m, .bool f, .bool d].toArray 103)
  replace cc := cc.alloc (.cells [.int .i64 C, .int .i64 A, .int .i64 F, .bool m, .bool f, .bool d].toArray 103)
  go_wp2_with fail
  generalize w5.alloc (.cells #[.int .i64 C, .int .i64 A, .int .i64 F, .bool m, .bool f, .bool d] 103) = w6 at *
  generalize w5.heap.size = hb at *
  obtain ⟨s0, s1⟩ := hs.cell2
  obtain ⟨b0, -⟩ := hh.cell6
  obtain ⟨c0, c1, c2⟩ := HCE.out _ cc
  have HC := hide cc
  have HSH2 := hide (fun W (c : Grow w6 W) => HSH.out W (HC.out.trans c))
  refine wp_region_grow (by kernel_rfl) (by kernel_rfl) ?_
  repeat (
    with_reducible refine wpQuiet_step ?_
    intro K hK
    first
      | ((with_reducible refine quiet_offT rfl ?_ (hK _ ?_)); focus (refine ⟨_, rfl, ?_⟩; with_reducible rfl))
      | ((with_reducible refine quiet_offF rfl ?_ (hK _ ?_)); focus (refine ⟨_, rfl, ?_⟩; with_reducible rfl))
      | ((with_reducible refine quiet_offN rfl ?_ (hK _ ?_)); focus (exact rfl))
      | ((first | with_reducible refine quiet_free rfl ?_ | ((with_reducible refine quiet_on rfl ?_ ?_); focus (refine ⟨_, rfl, ?_⟩; with_reducible rfl)))
         apply Exists.intro
         refine ⟨fun Wq hW => ?_, hK _ ?_⟩
         focus (have q0 := Grow.cell hW s0; have q1 := Grow.cell hW s1; have q2 := Grow.cell hW b0; have q3 := Grow.cell hW c0; have q4 := Grow.cell hW c2; go_simp; first | done | with_reducible rfl | (go_at_call 61; (first | with_reducible exact grown_call hW (HSH2.out _ hW) | with_reducible exact grown_same hW (HSH2.out _ hW)))))
    clear hK K
    simp only [Act.put, List.setIfInBounds_toArray, List.set_cons_zero, List.set_cons_succ])
  with_reducible refine wpQuiet_nil ?_
  intro w7 c7
  replace cc := cc.trans c7
  clear c7 s0 s1 b0 c0 c1 c2 hs hh HC
  go_wp2
  refine bodyPost_ret (v := .tuple #[.int .i64 (R : Int), .int .i64 (D : Int), .int .i64 0]) (by simp [results, Tryz.results84, go_sem]) rfl ?_
  exact ⟨rfl, cc⟩
set_option maxHeartbeats 2000000 in
theorem rhead_any (h : Rs w q z ca cl cp xs cs) (ho : ObAt xs cs a o) :
    Calls Tryz.prog 85 #[rsV q ca cl cp, .int .i64 a] w fun e w' => e = .returned (.tuple #[hdV o.C o.A o.F o.m o.f o.d, .int .i64 0]) ∧ Grow w w' := by
  have HSZ := hide (fun W (c : Grow w W) => rshape_any (h.grow c) ho)
  have ha1 := ho.a1
  have hl := ho.len
  obtain ⟨K, rfl⟩ := Int.eq_ofNat_of_zero_le (show 0 ≤ a by omega)
  obtain ⟨n, hn⟩ : ∃ n, xs.length = n := ⟨_, rfl⟩
  have hs2 := sz_pos o
  rw [hn] at hl
  have hkn : K + o.sz ≤ n := by simpa using hl
  have HRI := hide ho.ok.ri
  have HCE := hide (fun W (c : Grow w W) => (h.grow c).cells ho)
  rw [hn] at HCE
  obtain ⟨A, F, m, f, d, hh⟩ : ∃ A F m f d, o.A = A ∧ o.F = F ∧ o.m = m ∧ o.f = f ∧ o.d = d := ⟨_, _, _, _, _, rfl, rfl, rfl, rfl, rfl⟩
  obtain ⟨C, hC⟩ : ∃ C, o.C = C := ⟨_, rfl⟩
  rw [hh.1, hh.2.1, hh.2.2.1, hh.2.2.2.1, hh.2.2.2.2, hC] at HCE
  rw [hh.1, hh.2.1, hh.2.2.2.1, hh.2.2.2.2, hC] at HRI
  rw [hh.1, hh.2.1, hh.2.2.1, hh.2.2.2.1, hh.2.2.2.2, hC]
  have k1 : K < n := by omega
  obtain ⟨R, hR⟩ : ∃ R, o.rs.length = R := ⟨_, rfl⟩
  obtain ⟨D, hD⟩ : ∃ D, o.ds.length = D := ⟨_, rfl⟩
  rw [hR, hD] at HSZ
  clear h ho ha1 hl hn hs2 hkn hh hC hR hD
  obtain ⟨hs, hr, cc, fs, fr, n_sr⟩ := boxes2 w 57 [ptr q, .slice ca cl cp] 103 [.int .i64 0, .int .i64 0, .int .i64 0, .bool false, .bool false, .bool false]
  go_enter Tryz.func85, Tryz.ntmps85
  obtain ⟨s0, s1⟩ := hs.cell2
  go_wp2_with fail
  clear s0 s1
  generalize (w.alloc (.cells #[ptr q, .slice ca cl cp] 57)).alloc (.cells #[.int .i64 0, .int .i64 0, .int .i64 0, .bool false, .bool false, .bool false] 103) = w3 at *
  generalize w.heap.size + 1 = r at *
  generalize w.heap.size = s at *
  refine (HSZ.out _ cc).mono ?_
  rintro e w4 ⟨rfl, c4⟩
  replace hs := hs.chg c4 id
  replace hr := hr.chg c4 id
  replace cc := cc.trans c4
  clear c4
  obtain ⟨s0, s1⟩ := hs.cell2
  obtain ⟨c0, c1, -⟩ := HCE.out _ cc
  go_wp2_with fail
  clear s0 s1 c0 c1
  refine (L4.rof_word _ HRI.out).mono ?_
  rintro e w5 ⟨rfl, c5⟩
  replace hr := hr.chg c5 id
  replace cc := cc.trans c5
  clear c5 hs
  have hh := Blk.new w5 103 [.int .i64 C, .int .i64 A, .int .i64 F, .bool m, .bool f, .bool d]
  replace hr := hr.alloc (.cells [.int .i64 C, .int .i64 A, .int .i64 F, .bool m, .bool f, .bool d].toArray 103)
  replace cc := cc.alloc (.cells [.int .i64 C, .int .i64 A, .int .i64 F, .bool m, .bool f, .bool d].toArray 103)
  obtain ⟨b0, b1, b2, b3, b4, b5⟩ := hh.cell6
  obtain ⟨f0, f1, f2, f3, f4, f5⟩ := hr.frozen6
  obtain ⟨r0, r1, r2, r3, r4, r5⟩ := hr.cell6
  have HR2 := hide (show Blk (((((((w5.alloc (.cells #[.int .i64 C, .int .i64 A, .int .i64 F, .bool m, .bool f, .bool d] 103)).setCell ⟨r, 0, none⟩ (.int .i64 C)).setCell ⟨r, 1, none⟩ (.int .i64 A)).setCell ⟨r, 2, none⟩ (.int .i64 F)).setCell ⟨r, 3, none⟩ (.bool m)).setCell ⟨r, 4, none⟩ (.bool f)).setCell ⟨r, 5, none⟩ (.bool d)) r 103 [.int .i64 C, .int .i64 A, .int .i64 F, .bool m, .bool f, .bool d] from hr.put6 (.int .i64 C) (.int .i64 A) (.int .i64 F) (.bool m) (.bool f) (.bool d))
  have HN2 := hide ((((((fr.put cc 0 (.int .i64 C)) |> (fr.put · 1 (.int .i64 A))) |> (fr.put · 2 (.int .i64 F))) |> (fr.put · 3 (.bool m))) |> (fr.put · 4 (.bool f))) |> (fr.put · 5 (.bool d)))
  clear hr cc
  go_wp2_with fail
  clear b0 b1 b2 b3 b4 b5 f0 f1 f2 f3 f4 f5 r0 r1 r2 r3 r4 r5 hh
  generalize (((((((w5.alloc (.cells #[.int .i64 C, .int .i64 A, .int .i64 F, .bool m, .bool f, .bool d] 103)).setCell ⟨r, 0, none⟩ (.int .i64 C)).setCell ⟨r, 1, none⟩ (.int .i64 A)).setCell ⟨r, 2, none⟩ (.int .i64 F)).setCell ⟨r, 3, none⟩ (.bool m)).setCell ⟨r, 4, none⟩ (.bool f)).setCell ⟨r, 5, none⟩ (.bool d)) = w6 at *
  obtain ⟨r0, r1, r2, r3, r4, r5⟩ := HR2.out.cell6
  refine bodyPost_ret (v := .tuple #[hdV C A F m f d, .int .i64 0]) (by simp [results, Tryz.results85, go_sem, r0, r1, r2, r3, r4, r5]) rfl ?_
  exact ⟨rfl, HN2.out⟩
end
end Go.Proofs.YtogfjclmohpjkaaGreatDoor.L15

/- For every head, class, age and forward HeadParts answers true: another class, age, forward or flag is another word. Conditions: none. -/
import Derived.Test.YtaaimofkfcmdkaaBack
import Derived.LoopTactic
import Derived.BigRegion
import Derived.StillTailTactics
import Derived.ShutString
namespace Go.Proofs.Ytaaimofkfcmdkaa.headParts
open Go.ChangeShapes Go.WideShapes Go.ChangeAt Go.RowKit
set_option linter.unusedVariables false

def rows4 (C A F a b c : Int) (m f d : Bool) : List Value := [.int .i64 a, .int .i64 A, .int .i64 F, .bool m, .bool f, .bool d, .int .i64 C, .int .i64 b, .int .i64 F, .bool m, .bool f, .bool d, .int .i64 C, .int .i64 A, .int .i64 c, .bool m, .bool f, .bool d, .int .i64 C, .int .i64 A, .int .i64 F, .bool !m, .bool f, .bool d]
theorem row_at (C A F a b c : Int) (m f d : Bool) (k : Nat) (hk : k < 4) : ∃ (C' A' F' : Int) (m' : Bool), (rows4 C A F a b c m f d)[k * 6]? = some (.int .i64 C') ∧ (rows4 C A F a b c m f d)[k * 6 + 1]? = some (.int .i64 A') ∧ (rows4 C A F a b c m f d)[k * 6 + 2]? = some (.int .i64 F') ∧
    (rows4 C A F a b c m f d)[k * 6 + 3]? = some (.bool m') ∧ (rows4 C A F a b c m f d)[k * 6 + 4]? = some (.bool f) ∧ (rows4 C A F a b c m f d)[k * 6 + 5]? = some (.bool d) := by
  match k, hk with
  | 0, _ => exact ⟨_, _, _, _, rfl, rfl, rfl, rfl, rfl, rfl⟩
  | 1, _ => exact ⟨_, _, _, _, rfl, rfl, rfl, rfl, rfl, rfl⟩
  | 2, _ => exact ⟨_, _, _, _, rfl, rfl, rfl, rfl, rfl, rfl⟩
  | 3, _ => exact ⟨_, _, _, _, rfl, rfl, rfl, rfl, rfl, rfl⟩
set_option maxHeartbeats 2000000 in
set_option maxRecDepth 100000 in
theorem walk_no (C A F a b c : Int) (m f d : Bool) (w : World) (hr : riB C A F f d = false) :
    Calls Try.prog 7 #[hdV C A F m f d, .int .i64 a, .int .i64 b, .int .i64 c] w fun e w' => e = .returned (.bool true) ∧ Below w.heap.size w w' := by
  have hp := Blk.new w 23 [.int .i64 C, .int .i64 A, .int .i64 F, .bool m, .bool f, .bool d]
  have cp := Grow.box w (.cells [.int .i64 C, .int .i64 A, .int .i64 F, .bool m, .bool f, .bool d].toArray 23)
  have HR := hide hr
  clear hr
  go_enter Try.func7, Try.ntmps7
  go_wp2_with fail
  generalize w.alloc (.cells #[.int .i64 C, .int .i64 A, .int .i64 F, .bool m, .bool f, .bool d] 23) = wp at *
  obtain ⟨p, hP⟩ : ∃ p, p = w.heap.size := ⟨_, rfl⟩
  rw [← hP] at hp ⊢
  clear hP
  refine (awake_any _).mono ?_
  rintro e wa ⟨rfl, c_wa⟩
  replace hp := hp.chg c_wa id
  replace cp := cp.step c_wa (fun _ _ h => h.elim)
  clear c_wa 
  obtain ⟨p0, p1, p2, p3, p4, p5⟩ := hp.cell6
  go_wp2_with fail
  clear p0 p1 p2 p3 p4 p5
  refine (rright_is _ HR.out).mono ?_
  rintro e w1 ⟨rfl, c_w1⟩
  replace hp := hp.chg c_w1 id
  replace cp := cp.step c_w1 (fun _ _ h => h.elim)
  clear c_w1 
  go_wp2_with fail
  refine (awake_any _).mono ?_
  rintro e w2 ⟨rfl, c_w2⟩
  replace hp := hp.chg c_w2 id
  replace cp := cp.step c_w2 (fun _ _ h => h.elim)
  clear c_w2 
  go_wp2
  go_ret
  exact ⟨rfl, cp.below (fun _ _ h => h) (Nat.le_refl _)⟩
set_option maxHeartbeats 2000000 in
set_option maxRecDepth 100000 in
theorem walk_yes (C A F a b c : Int) (m f d : Bool) (w : World) (hr : riB C A F f d = true) :
    Calls Try.prog 7 #[hdV C A F m f d, .int .i64 a, .int .i64 b, .int .i64 c] w fun e w' => e = .returned (.bool true) ∧ Below w.heap.size w w' := by
  have hp := Blk.new w 23 [.int .i64 C, .int .i64 A, .int .i64 F, .bool m, .bool f, .bool d]
  have cp := Grow.box w (.cells [.int .i64 C, .int .i64 A, .int .i64 F, .bool m, .bool f, .bool d].toArray 23)
  have HR := hide hr
  clear hr
  go_enter Try.func7, Try.ntmps7
  go_wp2_with fail
  generalize w.alloc (.cells #[.int .i64 C, .int .i64 A, .int .i64 F, .bool m, .bool f, .bool d] 23) = wp at *
  obtain ⟨p, hP⟩ : ∃ p, p = w.heap.size := ⟨_, rfl⟩
  rw [← hP] at hp ⊢
  clear hP
  refine (awake_any _).mono ?_
  rintro e wa ⟨rfl, c_wa⟩
  replace hp := hp.chg c_wa id
  replace cp := cp.step c_wa (fun _ _ h => h.elim)
  clear c_wa 
  obtain ⟨p0, p1, p2, p3, p4, p5⟩ := hp.cell6
  go_wp2_with fail
  clear p0 p1 p2 p3 p4 p5
  refine (rright_is _ HR.out).mono ?_
  rintro e w1 ⟨rfl, c_w1⟩
  replace hp := hp.chg c_w1 id
  replace cp := cp.step c_w1 (fun _ _ h => h.elim)
  clear c_w1 
  obtain ⟨p0, p1, p2, p3, p4, p5⟩ := hp.cell6
  have hx := Blk.new w1 25 [.int .i64 C, .int .i64 A, .int .i64 F, .bool m, .bool f, .bool d]
  replace hp := hp.alloc (.cells [.int .i64 C, .int .i64 A, .int .i64 F, .bool m, .bool f, .bool d].toArray 25)
  replace cp := cp.alloc (.cells [.int .i64 C, .int .i64 A, .int .i64 F, .bool m, .bool f, .bool d].toArray 25)
  go_wp2_with fail
  clear p0 p1 p2 p3 p4 p5
  generalize w1.alloc (.cells #[.int .i64 C, .int .i64 A, .int .i64 F, .bool m, .bool f, .bool d] 25) = wx at *
  generalize w1.heap.size = x at *
  refine (word_yes _ HR.out).mono ?_
  rintro e w2 ⟨rfl, c_w2⟩
  replace hp := hp.chg c_w2 id
  replace hx := hx.chg c_w2 id
  replace cp := cp.step c_w2 (fun _ _ h => h.elim)
  clear c_w2 
  obtain ⟨x0, x1, x2, x3, x4, x5⟩ := hx.cell6
  have hne : ¬ p = w2.heap.size := by have := hp.lt; omega
  have fl : Fresh w w2.heap.size := cp.size
  have hxl : ¬ x = w2.heap.size := by have := hx.lt; omega
  have hl := Blk.new w2 25 [.int .i64 C, .int .i64 A, .int .i64 F, .bool m, .bool f, .bool d, .int .i64 C, .int .i64 A, .int .i64 F, .bool m, .bool f, .bool d, .int .i64 C, .int .i64 A, .int .i64 F, .bool m, .bool f, .bool d, .int .i64 C, .int .i64 A, .int .i64 F, .bool m, .bool f, .bool d]
  replace hp := hp.alloc (.cells [.int .i64 C, .int .i64 A, .int .i64 F, .bool m, .bool f, .bool d, .int .i64 C, .int .i64 A, .int .i64 F, .bool m, .bool f, .bool d, .int .i64 C, .int .i64 A, .int .i64 F, .bool m, .bool f, .bool d, .int .i64 C, .int .i64 A, .int .i64 F, .bool m, .bool f, .bool d].toArray 25)
  replace hx := hx.alloc (.cells [.int .i64 C, .int .i64 A, .int .i64 F, .bool m, .bool f, .bool d, .int .i64 C, .int .i64 A, .int .i64 F, .bool m, .bool f, .bool d, .int .i64 C, .int .i64 A, .int .i64 F, .bool m, .bool f, .bool d, .int .i64 C, .int .i64 A, .int .i64 F, .bool m, .bool f, .bool d].toArray 25)
  replace cp := cp.alloc (.cells [.int .i64 C, .int .i64 A, .int .i64 F, .bool m, .bool f, .bool d, .int .i64 C, .int .i64 A, .int .i64 F, .bool m, .bool f, .bool d, .int .i64 C, .int .i64 A, .int .i64 F, .bool m, .bool f, .bool d, .int .i64 C, .int .i64 A, .int .i64 F, .bool m, .bool f, .bool d].toArray 25)
  go_wp2_with fail
  clear x0 x1 x2 x3 x4 x5
  generalize w2.alloc (.cells #[.int .i64 C, .int .i64 A, .int .i64 F, .bool m, .bool f, .bool d, .int .i64 C, .int .i64 A, .int .i64 F, .bool m, .bool f, .bool d, .int .i64 C, .int .i64 A, .int .i64 F, .bool m, .bool f, .bool d, .int .i64 C, .int .i64 A, .int .i64 F, .bool m, .bool f, .bool d] 25) = wl at *
  generalize w2.heap.size = l at *
  have p3 : wl.drew.cell? ⟨p, 3, none⟩ = some (.bool m) := hp.cell 3
  have f0 : wl.drew.frozen? ⟨l, 0, none⟩ = false := hl.frozen 0
  have l0 : wl.drew.cell? ⟨l, 0, none⟩ = some (.int .i64 C) := hl.cell 0
  have hl1 := hl.set_ 0 (.int .i64 a)
  have f1 : (wl.setCell ⟨l, 0, none⟩ (.int .i64 a)).drew.frozen? ⟨l, 7, none⟩ = false := hl1.frozen 7
  have l1 : (wl.setCell ⟨l, 0, none⟩ (.int .i64 a)).drew.cell? ⟨l, 7, none⟩ = some (.int .i64 A) := hl1.cell 7
  have hl2 := hl1.set_ 7 (.int .i64 b)
  have f2 : ((wl.setCell ⟨l, 0, none⟩ (.int .i64 a)).setCell ⟨l, 7, none⟩ (.int .i64 b)).drew.frozen? ⟨l, 14, none⟩ = false := hl2.frozen 14
  have l2 : ((wl.setCell ⟨l, 0, none⟩ (.int .i64 a)).setCell ⟨l, 7, none⟩ (.int .i64 b)).drew.cell? ⟨l, 14, none⟩ = some (.int .i64 F) := hl2.cell 14
  have hl3 := hl2.set_ 14 (.int .i64 c)
  have f3 : (((wl.setCell ⟨l, 0, none⟩ (.int .i64 a)).setCell ⟨l, 7, none⟩ (.int .i64 b)).setCell ⟨l, 14, none⟩ (.int .i64 c)).drew.frozen? ⟨l, 21, none⟩ = false := hl3.frozen 21
  have l3 : (((wl.setCell ⟨l, 0, none⟩ (.int .i64 a)).setCell ⟨l, 7, none⟩ (.int .i64 b)).setCell ⟨l, 14, none⟩ (.int .i64 c)).drew.cell? ⟨l, 21, none⟩ = some (.bool m) := hl3.cell 21
  replace hl := hl3.set_ 21 (.bool !m)
  clear hl1 hl2 hl3
  have HP := hide hp
  have HL := hide hl
  have HX := hide hx
  clear hp hl hx
  have p30 : (wl.setCell ⟨l, 0, none⟩ (.int .i64 a)).drew.cell? ⟨p, 3, none⟩ = some (.bool m) := (HP.out.far (p := ⟨l, 0, none⟩) hne (.int .i64 a)).cell 3
  have p31 : ((wl.setCell ⟨l, 0, none⟩ (.int .i64 a)).setCell ⟨l, 7, none⟩ (.int .i64 b)).drew.cell? ⟨p, 3, none⟩ = some (.bool m) := ((HP.out.far (p := ⟨l, 0, none⟩) hne (.int .i64 a)).far (p := ⟨l, 7, none⟩) hne (.int .i64 b)).cell 3
  have p32 : (((wl.setCell ⟨l, 0, none⟩ (.int .i64 a)).setCell ⟨l, 7, none⟩ (.int .i64 b)).setCell ⟨l, 14, none⟩ (.int .i64 c)).drew.cell? ⟨p, 3, none⟩ = some (.bool m) := (((HP.out.far (p := ⟨l, 0, none⟩) hne (.int .i64 a)).far (p := ⟨l, 7, none⟩) hne (.int .i64 b)).far (p := ⟨l, 14, none⟩) hne (.int .i64 c)).cell 3
  have p33 : ((((wl.setCell ⟨l, 0, none⟩ (.int .i64 a)).setCell ⟨l, 7, none⟩ (.int .i64 b)).setCell ⟨l, 14, none⟩ (.int .i64 c)).setCell ⟨l, 21, none⟩ (.bool !m)).drew.cell? ⟨p, 3, none⟩ = some (.bool m) := ((((HP.out.far (p := ⟨l, 0, none⟩) hne (.int .i64 a)).far (p := ⟨l, 7, none⟩) hne (.int .i64 b)).far (p := ⟨l, 14, none⟩) hne (.int .i64 c)).far (p := ⟨l, 21, none⟩) hne (.bool !m)).cell 3
  go_region_held3 (fun w' => w'.cell? ⟨p, 3, none⟩ = some (.bool m)) (with_reducible assumption) (fail)
  have hl : Blk ((((wl.setCell ⟨l, 0, none⟩ (.int .i64 a)).setCell ⟨l, 7, none⟩ (.int .i64 b)).setCell ⟨l, 14, none⟩ (.int .i64 c)).setCell ⟨l, 21, none⟩ (.bool !m)).drew l 25 (rows4 C A F a b c m f d) := HL.out
  have hx : Blk ((((wl.setCell ⟨l, 0, none⟩ (.int .i64 a)).setCell ⟨l, 7, none⟩ (.int .i64 b)).setCell ⟨l, 14, none⟩ (.int .i64 c)).setCell ⟨l, 21, none⟩ (.bool !m)).drew x 25 [.int .i64 C, .int .i64 A, .int .i64 F, .bool m, .bool f, .bool d] := ((((HX.out.far (p := ⟨l, 0, none⟩) hxl (.int .i64 a)).far (p := ⟨l, 7, none⟩) hxl (.int .i64 b)).far (p := ⟨l, 14, none⟩) hxl (.int .i64 c)).far (p := ⟨l, 21, none⟩) hxl (.bool !m))
  have cs : Grow w ((((wl.setCell ⟨l, 0, none⟩ (.int .i64 a)).setCell ⟨l, 7, none⟩ (.int .i64 b)).setCell ⟨l, 14, none⟩ (.int .i64 c)).setCell ⟨l, 21, none⟩ (.bool !m)).drew := (fl.put (fl.put (fl.put (fl.put cp 0 (.int .i64 a)) 7 (.int .i64 b)) 14 (.int .i64 c)) 21 (.bool !m)).drew
  clear p3 p30 p31 p32 p33 f0 f1 f2 f3 l0 l1 l2 l3 HP HL HX cp hne hxl fl
  generalize ((((wl.setCell ⟨l, 0, none⟩ (.int .i64 a)).setCell ⟨l, 7, none⟩ (.int .i64 b)).setCell ⟨l, 14, none⟩ (.int .i64 c)).setCell ⟨l, 21, none⟩ (.bool !m)).drew = ws at *
  go_wp2_with fail
  go_loopw [55] (fun i wr => ∃ k : Nat, k ≤ 4 ∧ i = .int .i64 k ∧ Blk wr l 25 (rows4 C A F a b c m f d) ∧ Blk wr x 25 [.int .i64 C, .int .i64 A, .int .i64 F, .bool m, .bool f, .bool d] ∧ Grow w wr) (fun i _ => 4 - (intOf i).toNat)
  case atStart => exact ⟨0, Nat.zero_le _, rfl, hl, hx, cs⟩
  case round =>
    clear hl hx cs
    obtain ⟨k, hk, rfl, hl, hx, cp⟩ := hrel
    by_cases hlt : k < 4
    · have hlt' : (k : Int) < 4 := by omega
      obtain ⟨C', A', F', m', r0, r1, r2, r3, r4, r5⟩ := row_at C A F a b c m f d k hlt
      have R0 := hide r0
      have R1 := hide r1
      have R2 := hide r2
      have R3 := hide r3
      have R4 := hide r4
      have R5 := hide r5
      clear r0 r1 r2 r3 r4 r5
      cases hn : riB C' A' F' f d
      · have HN := hide hn
        clear hn
        have x0 := (hl.cell (k * 6)).trans R0.out
        have x1 := (hl.cell (k * 6 + 1)).trans R1.out
        have x2 := (hl.cell (k * 6 + 2)).trans R2.out
        have x3 := (hl.cell (k * 6 + 3)).trans R3.out
        have x4 := (hl.cell (k * 6 + 4)).trans R4.out
        have x5 := (hl.cell (k * 6 + 5)).trans R5.out
        go_wp2_with fail
        clear x0 x1 x2 x3 x4 x5
        refine (word_no _ HN.out).mono ?_
        rintro e w3 ⟨rfl, c_w3⟩
        replace hl := hl.chg c_w3 id
        replace hx := hx.chg c_w3 id
        replace cp := cp.step c_w3 (fun _ _ h => h.elim)
        clear c_w3 
        have x0 := (hl.cell (k * 6)).trans R0.out
        have x1 := (hl.cell (k * 6 + 1)).trans R1.out
        have x2 := (hl.cell (k * 6 + 2)).trans R2.out
        have x3 := (hl.cell (k * 6 + 3)).trans R3.out
        have x4 := (hl.cell (k * 6 + 4)).trans R4.out
        have x5 := (hl.cell (k * 6 + 5)).trans R5.out
        obtain ⟨y0, y1, y2, y3, y4, y5⟩ := hx.cell6
        go_wp2_with fail
        have HL := hide hl
        have HX := hide hx
        clear hl hx
        refine wp_region_grow (by kernel_rfl) (by kernel_rfl) ?_
        repeat (
          with_reducible refine wpQuiet_step ?_
          intro K hK
          first
            | ((with_reducible refine quiet_offT rfl ?_ (hK _ ?_)); focus (refine ⟨_, rfl, ?_⟩; with_reducible rfl))
            | ((with_reducible refine quiet_offF rfl ?_ (hK _ ?_)); focus (refine ⟨_, rfl, ?_⟩; with_reducible rfl))
            | ((with_reducible refine quiet_offN rfl ?_ (hK _ ?_)); focus (exact rfl))
            | ((first | with_reducible refine quiet_free rfl ?_ | ((with_reducible refine quiet_on rfl ?_ ?_); focus (refine ⟨_, rfl, ?_⟩; with_reducible rfl)))
               apply Exists.intro
               refine ⟨fun W hW => ?_, hK _ ?_⟩
               focus (have q0 := Grow.cell hW x0; have q1 := Grow.cell hW x1; have q2 := Grow.cell hW x2; have q3 := Grow.cell hW x3; have q4 := Grow.cell hW x4; have q5 := Grow.cell hW x5; have q6 := Grow.cell hW y0; have q7 := Grow.cell hW y1; have q8 := Grow.cell hW y2; have q9 := Grow.cell hW y3; have q10 := Grow.cell hW y4; have q11 := Grow.cell hW y5; go_simp; first | done | with_reducible rfl | (go_at_call 12; (first | with_reducible exact grown_call hW (right_is _ HN.out) | with_reducible exact grown_same hW (right_is _ HN.out)))))
          clear hK K
          simp only [Act.put, List.setIfInBounds_toArray, List.set_cons_zero, List.set_cons_succ])
        with_reducible refine wpQuiet_nil ?_
        intro w4 c4
        have hl := HL.out.chg c4 id
        have hx := HX.out.chg c4 id
        replace cp := cp.trans c4
        clear x0 x1 x2 x3 x4 x5 y0 y1 y2 y3 y4 y5 c4 HL HX
        have HL := hide hl
        have HX := hide hx
        clear hl hx
        go_wp2
        go_roundw
        case rel => exact ⟨k + 1, by omega, by go_num, HL.out, HX.out, cp⟩
        case measure => simp [intOf]; omega
      · by_cases hq : C' = C ∧ A' = A ∧ F' = F ∧ m' = m ∧ f = f ∧ d = d
        · obtain ⟨rfl, rfl, rfl, rfl, _, _⟩ := hq
          have HN := hide hn
          clear hn
          have x0 := (hl.cell (k * 6)).trans R0.out
          have x1 := (hl.cell (k * 6 + 1)).trans R1.out
          have x2 := (hl.cell (k * 6 + 2)).trans R2.out
          have x3 := (hl.cell (k * 6 + 3)).trans R3.out
          have x4 := (hl.cell (k * 6 + 4)).trans R4.out
          have x5 := (hl.cell (k * 6 + 5)).trans R5.out
          go_wp2_with fail
          clear x0 x1 x2 x3 x4 x5
          refine (word_yes _ HN.out).mono ?_
          rintro e w3 ⟨rfl, c_w3⟩
          replace hl := hl.chg c_w3 id
          replace hx := hx.chg c_w3 id
          replace cp := cp.step c_w3 (fun _ _ h => h.elim)
          clear c_w3 
          have x0 := (hl.cell (k * 6)).trans R0.out
          have x1 := (hl.cell (k * 6 + 1)).trans R1.out
          have x2 := (hl.cell (k * 6 + 2)).trans R2.out
          have x3 := (hl.cell (k * 6 + 3)).trans R3.out
          have x4 := (hl.cell (k * 6 + 4)).trans R4.out
          have x5 := (hl.cell (k * 6 + 5)).trans R5.out
          obtain ⟨y0, y1, y2, y3, y4, y5⟩ := hx.cell6
          go_wp2_with fail
          have HL := hide hl
          have HX := hide hx
          clear hl hx
          refine wp_region_grow (by kernel_rfl) (by kernel_rfl) ?_
          repeat (
            with_reducible refine wpQuiet_step ?_
            intro K hK
            first
              | ((with_reducible refine quiet_offT rfl ?_ (hK _ ?_)); focus (refine ⟨_, rfl, ?_⟩; with_reducible rfl))
              | ((with_reducible refine quiet_offF rfl ?_ (hK _ ?_)); focus (refine ⟨_, rfl, ?_⟩; with_reducible rfl))
              | ((with_reducible refine quiet_offN rfl ?_ (hK _ ?_)); focus (exact rfl))
              | ((first | with_reducible refine quiet_free rfl ?_ | ((with_reducible refine quiet_on rfl ?_ ?_); focus (refine ⟨_, rfl, ?_⟩; with_reducible rfl)))
                 apply Exists.intro
                 refine ⟨fun W hW => ?_, hK _ ?_⟩
                 focus (have q0 := Grow.cell hW x0; have q1 := Grow.cell hW x1; have q2 := Grow.cell hW x2; have q3 := Grow.cell hW x3; have q4 := Grow.cell hW x4; have q5 := Grow.cell hW x5; have q6 := Grow.cell hW y0; have q7 := Grow.cell hW y1; have q8 := Grow.cell hW y2; have q9 := Grow.cell hW y3; have q10 := Grow.cell hW y4; have q11 := Grow.cell hW y5; go_simp; first | done | with_reducible rfl | (go_at_call 12; (first | with_reducible exact grown_call hW (right_is _ HN.out) | with_reducible exact grown_same hW (right_is _ HN.out)))))
            clear hK K
            simp only [Act.put, List.setIfInBounds_toArray, List.set_cons_zero, List.set_cons_succ])
          with_reducible refine wpQuiet_nil ?_
          intro w4 c4
          have hl := HL.out.chg c4 id
          have hx := HX.out.chg c4 id
          replace cp := cp.trans c4
          clear x0 x1 x2 x3 x4 x5 y0 y1 y2 y3 y4 y5 c4 HL HX
          have HL := hide hl
          have HX := hide hx
          clear hl hx
          go_wp2
          go_roundw
          case rel => exact ⟨k + 1, by omega, by go_num, HL.out, HX.out, cp⟩
          case measure => simp [intOf]; omega
        · have hw : (wd C' A' F' m' f d == wd C A F m f d) = false := by
            simp only [beq_eq_false_iff_ne]
            exact fun h => hq (wd_inj hn HR.out h)
          have kH : ∀ W : World, (Op.equalIn 10000 25 (.agg #[.int .i64 C', .int .i64 A', .int .i64 F', .bool m', .bool f, .bool d]) (.agg #[.int .i64 C, .int .i64 A, .int .i64 F, .bool m, .bool f, .bool d])).run Try.prog W = .ok false W := fun W => by
            rw [sameH, decide_eq_false hq]
          clear hq
          have HN := hide hn
          clear hn
          have x0 := (hl.cell (k * 6)).trans R0.out
          have x1 := (hl.cell (k * 6 + 1)).trans R1.out
          have x2 := (hl.cell (k * 6 + 2)).trans R2.out
          have x3 := (hl.cell (k * 6 + 3)).trans R3.out
          have x4 := (hl.cell (k * 6 + 4)).trans R4.out
          have x5 := (hl.cell (k * 6 + 5)).trans R5.out
          go_wp2_with fail
          clear x0 x1 x2 x3 x4 x5
          refine (word_yes _ HN.out).mono ?_
          rintro e w3 ⟨rfl, c_w3⟩
          replace hl := hl.chg c_w3 id
          replace hx := hx.chg c_w3 id
          replace cp := cp.step c_w3 (fun _ _ h => h.elim)
          clear c_w3 
          have x0 := (hl.cell (k * 6)).trans R0.out
          have x1 := (hl.cell (k * 6 + 1)).trans R1.out
          have x2 := (hl.cell (k * 6 + 2)).trans R2.out
          have x3 := (hl.cell (k * 6 + 3)).trans R3.out
          have x4 := (hl.cell (k * 6 + 4)).trans R4.out
          have x5 := (hl.cell (k * 6 + 5)).trans R5.out
          obtain ⟨y0, y1, y2, y3, y4, y5⟩ := hx.cell6
          go_wp2_with fail
          have HL := hide hl
          have HX := hide hx
          clear hl hx
          refine wp_region_grow (by kernel_rfl) (by kernel_rfl) ?_
          repeat (
            with_reducible refine wpQuiet_step ?_
            intro K hK
            first
              | ((with_reducible refine quiet_offT rfl ?_ (hK _ ?_)); focus (refine ⟨_, rfl, ?_⟩; with_reducible rfl))
              | ((with_reducible refine quiet_offF rfl ?_ (hK _ ?_)); focus (refine ⟨_, rfl, ?_⟩; with_reducible rfl))
              | ((with_reducible refine quiet_offN rfl ?_ (hK _ ?_)); focus (exact rfl))
              | ((first | with_reducible refine quiet_free rfl ?_ | ((with_reducible refine quiet_on rfl ?_ ?_); focus (refine ⟨_, rfl, ?_⟩; with_reducible rfl)))
                 apply Exists.intro
                 refine ⟨fun W hW => ?_, hK _ ?_⟩
                 focus (have q0 := Grow.cell hW x0; have q1 := Grow.cell hW x1; have q2 := Grow.cell hW x2; have q3 := Grow.cell hW x3; have q4 := Grow.cell hW x4; have q5 := Grow.cell hW x5; have q6 := Grow.cell hW y0; have q7 := Grow.cell hW y1; have q8 := Grow.cell hW y2; have q9 := Grow.cell hW y3; have q10 := Grow.cell hW y4; have q11 := Grow.cell hW y5; go_simp; first | done | with_reducible rfl | (go_at_call 12; (first | with_reducible exact grown_call hW (right_is _ HN.out) | with_reducible exact grown_same hW (right_is _ HN.out)))))
            clear hK K
            simp only [Act.put, List.setIfInBounds_toArray, List.set_cons_zero, List.set_cons_succ])
          with_reducible refine wpQuiet_nil ?_
          intro w4 c4
          have hl := HL.out.chg c4 id
          have hx := HX.out.chg c4 id
          replace cp := cp.trans c4
          clear x0 x1 x2 x3 x4 x5 y0 y1 y2 y3 y4 y5 c4 HL HX
          have HL := hide hl
          have HX := hide hx
          clear hl hx
          go_wp2
          go_roundw
          case rel => exact ⟨k + 1, by omega, by go_num, HL.out, HX.out, cp⟩
          case measure => simp [intOf]; omega
    · obtain rfl : k = 4 := by omega
      clear hlt
      go_wp2
      go_ret
      exact ⟨rfl, cp.below (fun _ _ h => h) (Nat.le_refl _)⟩
theorem walk (cs : List Value) (a b c : Int) (w : World) (w0 : fits [some .i64, some .i64, some .i64, none, none, none] cs) (w1 : (Lit.int .i64 a).wf = true) (w2 : (Lit.int .i64 b).wf = true) (w3 : (Lit.int .i64 c).wf = true) :
    Calls Try.prog 7 #[.agg cs.toArray, .int .i64 a, .int .i64 b, .int .i64 c] w fun e w' => e = .returned (.bool true) ∧ Below w.heap.size w w' := by
  obtain ⟨C, A, F, m, f, d, rfl, _, _, _⟩ := fits_head w0
  cases hr : riB C A F f d
  · exact walk_no C A F a b c m f d w hr
  · exact walk_yes C A F a b c m f d w hr

theorem own : ownKnob Try.prog.godebug = none := by kernel_rfl
theorem laidOut : laidOutB Try.prog = true := by kernel_rfl

set_option maxRecDepth 100000 in
theorem lifted (os : Os) (started : os.Started) (H : Type) (enc : TypeId × Value → H) :
    ReturnsInHanded {} Try.checked os 7 .any (Rows.headPartsSpec.pre6 enc Try.prog Try.f7 Rows.headPartsRow.domain false) (Rows.headPartsSpec.post enc Try.prog Try.f7 false true false false) := by
  refine returnsInHanded_of_change (C := Try.checked) own started (by kernel_rfl) Try.func7
    (ChangeSpec.witness6 (enc := enc) (C := Try.checked) false ⟨#[], #[.agg #[.int .i64 0, .int .i64 0, .int .i64 0, .bool false, .bool false, .bool false], .int .i64 0, .int .i64 0, .int .i64 0], []⟩ 8 (by kernel_rfl) (by kernel_rfl) (by kernel_rfl) (by kernel_rfl)) ?_
  intro W base args ds gs before hval0 hW hcnd _
  have hval : ∀ (j : Nat) t v, Try.f7.params[j]? = some t → args[j]? = some v → Value.okWide Try.prog W .any base t v := hval0
  have hW' := hW
  obtain ⟨p, q, hA0, hV, rfl, hfz, hnd⟩ := hW
  have hA : DataW.TrodAll enc Try.prog W 0 (fun _ => true) true Try.f7.params.toList args.toList ds p := hA0
  rw [Try.params7] at hA hval
  obtain ⟨v0, vs0, d0, ds0, p0, q0, hargs, rfl, rfl, h0, r0⟩ := trodAll_cons hA
  obtain ⟨v1, vs1, d1, ds1, p1, q1, rfl, rfl, rfl, h1, r1⟩ := trodAll_cons r0
  obtain ⟨v2, vs2, d2, ds2, p2, q2, rfl, rfl, rfl, h2, r2⟩ := trodAll_cons r1
  obtain ⟨v3, vs3, d3, ds3, p3, q3, rfl, rfl, rfl, h3, r3⟩ := trodAll_cons r2
  obtain ⟨rfl, rfl, rfl⟩ := trodAll_nil r3
  obtain rfl : args = #[v0, v1, v2, v3] := by cases args; simp_all
  obtain ⟨rfl, rfl⟩ := trodVars_none hV
  have k0 := h0
  have lt0 : ∀ x ∈ p0, x.block < W.heap.size := by obtain ⟨m, hm⟩ := k0; exact DataW.trod_lt m _ _ _ hm
  obtain ⟨cs0, rfl, w0⟩ := open_rec [some .i64, some .i64, some .i64, none, none, none] Try.underlying23 (by kernel_rfl) (by kernel_rfl) (by kernel_rfl) (hval 0 23 v0 rfl rfl) h0
  obtain ⟨a1, rfl, rfl, rfl, w1⟩ := open_int Try.underlying3 (hval 1 3 v1 rfl rfl) h1
  obtain ⟨a2, rfl, rfl, rfl, w2⟩ := open_int Try.underlying3 (hval 2 3 v2 rfl rfl) h2
  obtain ⟨a3, rfl, rfl, rfl, w3⟩ := open_int Try.underlying3 (hval 3 3 v3 rfl rfl) h3
  clear hA0 hval0
  refine (walk cs0 a1 a2 a3 W w0 w1 w2 w3).mono fun e W' ⟨he, bel⟩ => ?_
  subst he
  exact ⟨_, rfl, _, _, _, [], _, [], hW', trodAll_mk1 (shut_bool Try.underlying4 _), (trodAll_cons_mk (Below.trod laidOut (by kernel_rfl) (of_decide_eq_true (by kernel_rfl)) k0 bel lt0) (trodAll_cons_mk (shut_int Try.underlying3 w1) (trodAll_cons_mk (shut_int Try.underlying3 w2) (trodAll_cons_mk (shut_int Try.underlying3 w3) trodAll_mk0)))), rfl, bel.frame _, fun h => by cases h⟩

theorem over : Rows.headPartsRow.holds Try.pinned (OpenSpec.ofChange Rows.headPartsSpec) :=
  OpenClaim.holds_of_wide 7 Try.f7 rfl rfl rfl rfl rfl rfl rfl ⟨rfl, rfl, rfl, rfl, rfl⟩ rfl rfl rfl rfl rfl (by kernel_rfl) Try.func7 (by kernel_rfl)
    (of_decide_eq_true (by kernel_rfl)) (by unfold Func.isWrapper; first | (rw [if_pos (by decide +kernel)]; kernel_rfl) | (rw [if_neg (by decide +kernel)]; exact ⟨rfl, rfl⟩))
    (fun os started H enc _ => lifted os started H enc)

/-- The statement. -/
theorem proved : Rows.HeadPartsSaid := over
#print axioms proved
end Go.Proofs.Ytaaimofkfcmdkaa.headParts


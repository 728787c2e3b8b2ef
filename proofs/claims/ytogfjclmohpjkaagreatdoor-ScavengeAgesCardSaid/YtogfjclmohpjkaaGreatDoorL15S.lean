/- What right answers: whether a run can begin with these spaces; it only makes memory. Conditions: none. -/
import Derived.Test.YtogfjclmohpjkaaGreatDoorL15D
namespace Go.Proofs.YtogfjclmohpjkaaGreatDoor.L15
open Go.ChangeShapes Go.WideShapes Go.ChangeAt Go.RowKit Go.Shelf
open Go.Proofs.YtogfjclmohpjkaaGreatDoor.L2 (spV riB orZ)
set_option linter.unusedVariables false
set_option maxRecDepth 100000
abbrev Sp.v (s : Sp) : Value := spV s.F s.T s.E
/-- Have two spaces an address in common? -/
def meB (s o : Sp) : Bool := decide (max s.F o.F < min s.E o.E)
theorem eg_meets : ∀ args w, (callFunc 98 args).run Tryz.prog w = .ok (.enter 98 args) w := enters_of Tryz.func98 (by kernel_rfl) rfl
section
variable {w w' : World} {ga n c fid : Nat} {sps : List Sp} {p : Sp → Bool} {lb : Array Value} {s o : Sp}
theorem max_is (x y z : Int) (h : max x y = z) (ts : Array TypeId) (t : TypeId) (W : World) : (Builtin.max_ ts t #[.int .i64 x, .int .i64 y]).run Tryz.prog W = .ok (.int .i64 z) W := by
  rw [run_max_int2]
  congr 2
  split <;> omega
theorem min_is (x y z : Int) (h : min x y = z) (ts : Array TypeId) (t : TypeId) (W : World) : (Builtin.min_ ts t #[.int .i64 x, .int .i64 y]).run Tryz.prog W = .ok (.int .i64 z) W := by
  rw [run_min_int2]
  congr 2
  split <;> omega
set_option maxHeartbeats 1000000 in
theorem meets_any {q : Nat} (h : Blk w q 34 s.cells) (o : Sp) : Calls Tryz.prog 98 #[o.v, .pointer (some ⟨q, 0, none⟩)] w fun e w' => e = .returned (.bool (meB s o)) ∧ Grow w w' := by
  obtain ⟨F, T, E⟩ := s
  obtain ⟨F', T', E'⟩ := o
  obtain ⟨x, hx⟩ : ∃ x, max F F' = x := ⟨_, rfl⟩
  obtain ⟨y, hy⟩ : ∃ y, min E E' = y := ⟨_, rfl⟩
  have HE := hide (show meB ⟨F, T, E⟩ ⟨F', T', E'⟩ = decide (x < y) by unfold meB; rw [hx, hy])
  have hmx := max_is F F' x hx
  have hmn := min_is E E' y hy
  clear hx hy
  replace h := h.alloc (.cells [.int .i64 F', .int .i64 T', .int .i64 E'].toArray 34)
  obtain ⟨y0, y1, y2⟩ := h.cell3
  clear h
  go_enter Tryz.func98, Tryz.ntmps98
  go_wp2
  go_ret
  exact ⟨ret_bool HE.out.symm, Grow.box _ _⟩
set_option maxHeartbeats 1000000 in
theorem spx_any (eg : ∀ args w, (callFunc fid args).run Tryz.prog w = .ok (.enter fid args) w) (hb : Blk w ga 34 (spCs sps)) (hn : n ≤ sps.length) (hs : sps.length ≤ 1000)
    (hp : ∀ W s, s ∈ sps → Grow w W → Calls Tryz.prog fid (#[s.v] ++ lb) W fun e w' => e = .returned (.bool (p s)) ∧ Grow W w') :
    Calls Tryz.prog 118 #[.slice (some ⟨ga, 0, none⟩) n c, .func (.func fid) #[] lb] w fun e w' => ∃ r : Int, e = .returned (.int .i64 r) ∧ decide (r ≥ 0) = (sps.take n).any p ∧ Grow w w' := by
  have HB := hide hb
  have HP := hide hp
  have HL := hide (And.intro hn hs)
  clear hb hp hn hs
  go_enter Tryz.func118, Tryz.ntmps118
  go_wp2_with fail
  go_loopw [8] (fun v wr => ∃ j : Nat, j ≤ n ∧ v = .int .i64 j ∧ (sps.take j).any p = false ∧ Grow w wr) (fun v _ => n - (Go.RowKit.intOf v).toNat)
  case atStart => exact ⟨0, Nat.zero_le _, rfl, by simp, Chg.refl _ _⟩
  case round =>
    obtain ⟨j, hj, rfl, hno, gg⟩ := hrel
    rcases Nat.eq_or_lt_of_le hj with hje | hjn
    · subst hje
      have q1 : decide ((j : Int) < j) = false := by simp
      have HG := hide (And.intro hno gg)
      clear gg hj hno
      go_wp2
      go_ret
      exact ⟨-1, rfl, by rw [HG.out.1]; decide, HG.out.2⟩
    · have q1 : decide ((j : Int) < n) = true := decide_eq_true (by omega)
      have q2 : j < n := hjn
      have hjl : j < sps.length := by have := HL.out; omega
      obtain ⟨sp, hsp⟩ : ∃ sp, sps[j]? = some sp := ⟨_, List.getElem?_eq_getElem hjl⟩
      have hm : sp ∈ sps := List.mem_of_getElem? hsp
      obtain ⟨x0, x1, x2⟩ := spCs_get sps j sp hsp
      have hBr := HB.out.chg gg id
      have k0 : wr.cell? ⟨ga, j * 3, none⟩ = some (.int .i64 sp.F) := (hBr.cell _).trans x0
      have k1 : wr.cell? ⟨ga, j * 3 + 1, none⟩ = some (.int .i64 sp.T) := (hBr.cell _).trans x1
      have k2 : wr.cell? ⟨ga, j * 3 + 2, none⟩ = some (.int .i64 sp.E) := (hBr.cell _).trans x2
      have htk : (sps.take (j + 1)).any p = p sp := by
        rw [List.take_add_one, hsp, List.any_append, hno]
        simp
      have hw : IntKind.i64.wrap ((j : Int) + 1) = ((j + 1 : Nat) : Int) := (IntWalk.i64_in _ (by have := HL.out; omega)).trans (by omega)
      have HC := hide (fun W c => HP.out W sp hm (gg.trans c))
      have HG := hide gg
      have HH := hide (show p sp = true → (sps.take n).any p = true from fun h => by
        rw [List.any_eq_true]
        exact ⟨sp, List.mem_of_getElem? (by rw [List.getElem?_take, if_pos hjn]; exact hsp), h⟩)
      obtain ⟨F, T, E⟩ := sp
      dsimp only at k0 k1 k2
      clear hj gg x0 x1 x2 hBr hsp hm hno
      have HT := hide htk
      have HJ := hide q2
      clear htk
      obtain ⟨b, hb⟩ : ∃ b, p ⟨F, T, E⟩ = b := ⟨_, rfl⟩
      rw [hb] at HC HT HH
      have HC1 := hide (HC.out wr (Chg.refl _ _))
      clear hb HC
      cases b with
      | true =>
        go_wp2_with fail
        refine HC1.out.mono ?_
        rintro e w2 ⟨rfl, c2⟩
        go_wp2
        go_ret
        exact ⟨j, rfl, by rw [HH.out (by first | exact rfl | trivial)]; exact decide_eq_true (by omega), HG.out.trans c2⟩
      | false =>
        go_wp2_with fail
        refine HC1.out.mono ?_
        rintro e w2 ⟨rfl, c2⟩
        have HG2 := hide (HG.out.trans c2)
        clear c2 k0 k1 k2
        go_wp2
        go_roundw
        case rel => exact ⟨j + 1, HJ.out, rfl, HT.out, HG2.out⟩
        case measure => have := HJ.out; simp [Go.RowKit.intOf]; omega
theorem spc_any (eg : ∀ args w, (callFunc fid args).run Tryz.prog w = .ok (.enter fid args) w) (hb : Blk w ga 34 (spCs sps)) (hn : n ≤ sps.length) (hs : sps.length ≤ 1000)
    (hp : ∀ W s, s ∈ sps → Grow w W → Calls Tryz.prog fid (#[s.v] ++ lb) W fun e w' => e = .returned (.bool (p s)) ∧ Grow W w') :
    Calls Tryz.prog 99 #[.slice (some ⟨ga, 0, none⟩) n c, .func (.func fid) #[] lb] w fun e w' => e = .returned (.bool ((sps.take n).any p)) ∧ Grow w w' := by
  have HI := hide (spx_any (c := c) eg hb hn hs hp)
  generalize (sps.take n).any p = bb at *
  clear eg hb hn hs hp
  go_enter Tryz.func99, Tryz.ntmps99
  go_wp2_with fail
  refine HI.out.mono ?_
  rintro e w' ⟨r, rfl, hb, c'⟩
  have HB := hide hb
  clear hb
  go_wp2
  go_ret
  exact ⟨ret_bool HB.out, c'⟩
end
def Yg.sps (y : Yg) : List Sp := [⟨y.OF, y.OT, y.OE⟩, ⟨y.EF, y.ET, y.EE⟩, ⟨y.FF, y.FT, y.FE⟩, ⟨y.TF, y.TT, y.TE⟩]
/-- A space can be there, and meets none of these. -/
def finB (n : Int) (l : List Sp) (s : Sp) : Bool := riB s.F s.T s.E && (decide (s.F ≠ 0) && (decide (s.E ≤ n) && !(l.any (meB s))))
def finAt (n : Int) (l : List Sp) (j : Nat) : Bool := finB n (l.take j) (l.getD j ⟨0, 0, 0⟩)
def Yg.tl (y : Yg) : Bool := decide (y.TT - y.TF = 0) && (decide (y.TE - y.TT = y.FE - y.FF) && (decide (0 ≤ y.th) && decide (y.th ≤ 7)))
def Yg.rgB (y : Yg) (n : Int) : Bool := finAt n y.sps 0 && (finAt n y.sps 1 && (finAt n y.sps 2 && (finAt n y.sps 3 && y.tl)))
section
variable {w w' : World} {y : Yg} {n : Int}
set_option maxHeartbeats 2000000 in
theorem right_any (y : Yg) (n : Int) (w : World) : Calls Tryz.prog 72 #[y.v, .int .i64 n] w fun e w' => e = .returned (.bool (y.rgB n)) ∧ Grow w w' := by
  have HL4 : Hid (y.sps.length = 4) := hide rfl
  have HRG := hide (show y.rgB n = (finAt n y.sps 0 && (finAt n y.sps 1 && (finAt n y.sps 2 && (finAt n y.sps 3 && y.tl)))) from rfl)
  have HTL := hide (show y.tl = (decide (y.TT - y.TF = 0) && (decide (y.TE - y.TT = y.FE - y.FF) && (decide (0 ≤ y.th) && decide (y.th ≤ 7)))) from rfl)
  have H3 := hide (show finAt n y.sps 3 = true → riB y.TF y.TT y.TE = true from fun h => by
    simp only [finAt, finB, Bool.and_eq_true] at h
    exact h.1)
  have H2 := hide (show finAt n y.sps 2 = true → riB y.FF y.FT y.FE = true from fun h => by
    simp only [finAt, finB, Bool.and_eq_true] at h
    exact h.1)
  have HSL := hide (show spCs y.sps = [.int .i64 y.OF, .int .i64 y.OT, .int .i64 y.OE, .int .i64 y.EF, .int .i64 y.ET, .int .i64 y.EE, .int .i64 y.FF, .int .i64 y.FT, .int .i64 y.FE, .int .i64 y.TF, .int .i64 y.TT, .int .i64 y.TE] from rfl)
  have HRF := hide (show ∀ j, j < 4 → finAt n y.sps j = false → y.rgB n = false from fun j hj hf => by
    unfold Yg.rgB
    rcases (show j = 0 ∨ j = 1 ∨ j = 2 ∨ j = 3 by omega) with rfl | rfl | rfl | rfl <;> rw [hf] <;> simp)
  have HRT := hide (show (∀ j, j < 4 → finAt n y.sps j = true) → y.rgB n = y.tl from fun h => by
    unfold Yg.rgB
    rw [h 0 (by omega), h 1 (by omega), h 2 (by omega), h 3 (by omega)]
    rfl)
  clear HRG
  obtain ⟨hy, hb, cc, -, -, -⟩ := boxes2 w 36 y.cells 34 (spCs y.sps)
  generalize y.rgB n = RG at *
  generalize y.sps = sps at *
  generalize y.tl = TL at *
  obtain ⟨OF, OT, OE, EF, ET, EE, FF, FT, FE, TF, TT, TE, th⟩ := y
  dsimp only [Yg.cells] at HTL H3 H2 HSL hy hb cc
  rw [HSL.out] at hy hb cc
  have HY := hide hy
  have HB := hide hb
  have HC := hide cc
  obtain ⟨y0, y1, y2, y3, y4, y5, y6, y7, y8, y9, y10, y11, y12⟩ : YC (w.alloc (.cells [.int .i64 OF, .int .i64 OT, .int .i64 OE, .int .i64 EF, .int .i64 ET, .int .i64 EE, .int .i64 FF, .int .i64 FT, .int .i64 FE, .int .i64 TF, .int .i64 TT, .int .i64 TE, .int .i64 th].toArray 36)) w.heap.size ⟨OF, OT, OE, EF, ET, EE, FF, FT, FE, TF, TT, TE, th⟩ := (Blk.new w 36 _).yc (y := ⟨OF, OT, OE, EF, ET, EE, FF, FT, FE, TF, TT, TE, th⟩)
  dsimp only at y0 y1 y2 y3 y4 y5 y6 y7 y8 y9 y10 y11 y12
  clear hy hb cc
  go_enter Tryz.func72, Tryz.ntmps72
  go_wp2_with fail
  clear y0 y1 y2 y3 y4 y5 y6 y7 y8 y9 y10 y11 y12
  generalize (w.alloc (.cells #[.int .i64 OF, .int .i64 OT, .int .i64 OE, .int .i64 EF, .int .i64 ET, .int .i64 EE, .int .i64 FF, .int .i64 FT, .int .i64 FE, .int .i64 TF, .int .i64 TT, .int .i64 TE, .int .i64 th] 36)).alloc (.cells #[.int .i64 OF, .int .i64 OT, .int .i64 OE, .int .i64 EF, .int .i64 ET, .int .i64 EE, .int .i64 FF, .int .i64 FT, .int .i64 FE, .int .i64 TF, .int .i64 TT, .int .i64 TE] 34) = w3 at *
  generalize w.heap.size + 1 = ga at *
  generalize w.heap.size = b at *
  go_loopw [20] (fun v wr => ∃ k : Nat, k ≤ 4 ∧ v = .int .i64 k ∧ (∀ j, j < k → finAt n sps j = true) ∧ Grow w3 wr) (fun v _ => 4 - (Go.RowKit.intOf v).toNat)
  case atStart => exact ⟨0, by omega, rfl, fun j hj => absurd hj (by omega), Chg.refl _ _⟩
  case round =>
    obtain ⟨k, hk, rfl, hok, gg⟩ := hrel
    rcases Nat.eq_or_lt_of_le hk with hke | hlt
    · subst hke
      have h2 := hok 2 (by omega)
      have h3 := hok 3 (by omega)
      have HX := hide (HRT.out hok)
      have R3 := hide (H3.out h3)
      have b2 := L2.ri_true (H2.out h2)
      obtain ⟨-, -, -, -, -, -, y6, -, y8, y9, y10, y11, y12⟩ : YC wr b ⟨OF, OT, OE, EF, ET, EE, FF, FT, FE, TF, TT, TE, th⟩ := (HY.out.chg gg id).yc (y := ⟨OF, OT, OE, EF, ET, EE, FF, FT, FE, TF, TT, TE, th⟩)
      dsimp only at y6 y8 y9 y10 y11 y12
      obtain ⟨U, hU⟩ : ∃ U, TT - TF = U := ⟨_, rfl⟩
      obtain ⟨M, hM⟩ : ∃ M, TE - TT = M := ⟨_, rfl⟩
      obtain ⟨D, hD⟩ : ∃ D, FE - FF = D := ⟨_, rfl⟩
      rw [hU, hM, hD] at HTL
      have hwD : IntKind.i64.wrap (FE - FF) = D := (IntWalk.i64_in _ (by omega)).trans hD
      have HU := hide hU
      have HMM := hide hM
      have HG := hide gg
      clear h2 h3 b2 hok gg hU hM hD hk
      by_cases z1 : U = 0
      · have p1 : (U == 0) = true := by simpa using z1
        by_cases z2 : M = D
        · have p2 : (M == D) = true := by simpa using z2
          by_cases z3 : 0 ≤ th
          · have p3 : decide (th ≥ 0) = true := decide_eq_true z3
            by_cases z4 : th ≤ 7
            · have p4 : decide (th ≤ 7) = true := decide_eq_true z4
              have HE := hide (show RG = true by rw [HX.out, HTL.out]; simp [z1, z2, z3, z4])
              clear z1 z2 z3 z4
              go_wp2_with fail
              refine wp_region_grow (by kernel_rfl) (by kernel_rfl) ?_
              repeat (
                with_reducible refine wpQuiet_step ?_
                intro K hK
                first
                  | ((with_reducible refine quiet_offT rfl ?_ (hK _ ?_)); focus (refine ⟨_, rfl, ?_⟩; with_reducible rfl))
                  | ((with_reducible refine quiet_offF rfl ?_ (hK _ ?_)); focus (refine ⟨_, rfl, ?_⟩; with_reducible rfl))
                  | ((with_reducible refine quiet_offN rfl ?_ (hK _ ?_)); focus (exact rfl))
                  | ((first | with_reducible refine quiet_free rfl ?_ | ((with_reducible refine quiet_on rfl ?_ ?_); focus (refine ⟨_, rfl, ?_⟩; with_reducible rfl)))
                     apply Exists.intro
                     refine ⟨fun Wq hW => ?_, hK _ ?_⟩
                     focus (have q0 := Grow.cell hW y6; have q1 := Grow.cell hW y8; have q2 := Grow.cell hW y9; have q3 := Grow.cell hW y10; have q4 := Grow.cell hW y11; have q5 := Grow.cell hW y12; go_simp; first | done | with_reducible rfl | (go_at_call 20; (first | with_reducible exact grown_call hW (L2.used_is TF TT TE _ R3.out HU.out) | with_reducible exact grown_same hW (L2.used_is TF TT TE _ R3.out HU.out))) | (go_at_call 21; (first | with_reducible exact grown_call hW (L2.room_is TF TT TE _ R3.out HMM.out) | with_reducible exact grown_same hW (L2.room_is TF TT TE _ R3.out HMM.out)))))
                clear hK K
                simp only [Act.put, List.setIfInBounds_toArray, List.set_cons_zero, List.set_cons_succ])
              with_reducible refine wpQuiet_nil ?_
              intro w5 c5
              go_wp2
              go_ret
              exact ⟨ret_bool HE.out.symm, HC.out.trans (HG.out.trans c5)⟩
            · have p4 : decide (th ≤ 7) = false := decide_eq_false z4
              have HE := hide (show RG = false by rw [HX.out, HTL.out]; simp [z4])
              clear z1 z2 z3 z4
              go_wp2_with fail
              refine wp_region_grow (by kernel_rfl) (by kernel_rfl) ?_
              repeat (
                with_reducible refine wpQuiet_step ?_
                intro K hK
                first
                  | ((with_reducible refine quiet_offT rfl ?_ (hK _ ?_)); focus (refine ⟨_, rfl, ?_⟩; with_reducible rfl))
                  | ((with_reducible refine quiet_offF rfl ?_ (hK _ ?_)); focus (refine ⟨_, rfl, ?_⟩; with_reducible rfl))
                  | ((with_reducible refine quiet_offN rfl ?_ (hK _ ?_)); focus (exact rfl))
                  | ((first | with_reducible refine quiet_free rfl ?_ | ((with_reducible refine quiet_on rfl ?_ ?_); focus (refine ⟨_, rfl, ?_⟩; with_reducible rfl)))
                     apply Exists.intro
                     refine ⟨fun Wq hW => ?_, hK _ ?_⟩
                     focus (have q0 := Grow.cell hW y6; have q1 := Grow.cell hW y8; have q2 := Grow.cell hW y9; have q3 := Grow.cell hW y10; have q4 := Grow.cell hW y11; have q5 := Grow.cell hW y12; go_simp; first | done | with_reducible rfl | (go_at_call 20; (first | with_reducible exact grown_call hW (L2.used_is TF TT TE _ R3.out HU.out) | with_reducible exact grown_same hW (L2.used_is TF TT TE _ R3.out HU.out))) | (go_at_call 21; (first | with_reducible exact grown_call hW (L2.room_is TF TT TE _ R3.out HMM.out) | with_reducible exact grown_same hW (L2.room_is TF TT TE _ R3.out HMM.out)))))
                clear hK K
                simp only [Act.put, List.setIfInBounds_toArray, List.set_cons_zero, List.set_cons_succ])
              with_reducible refine wpQuiet_nil ?_
              intro w5 c5
              go_wp2
              go_ret
              exact ⟨ret_bool HE.out.symm, HC.out.trans (HG.out.trans c5)⟩
          · have p3 : decide (th ≥ 0) = false := decide_eq_false z3
            have HE := hide (show RG = false by rw [HX.out, HTL.out]; simp [z3])
            clear z1 z2 z3
            go_wp2_with fail
            refine wp_region_grow (by kernel_rfl) (by kernel_rfl) ?_
            repeat (
              with_reducible refine wpQuiet_step ?_
              intro K hK
              first
                | ((with_reducible refine quiet_offT rfl ?_ (hK _ ?_)); focus (refine ⟨_, rfl, ?_⟩; with_reducible rfl))
                | ((with_reducible refine quiet_offF rfl ?_ (hK _ ?_)); focus (refine ⟨_, rfl, ?_⟩; with_reducible rfl))
                | ((with_reducible refine quiet_offN rfl ?_ (hK _ ?_)); focus (exact rfl))
                | ((first | with_reducible refine quiet_free rfl ?_ | ((with_reducible refine quiet_on rfl ?_ ?_); focus (refine ⟨_, rfl, ?_⟩; with_reducible rfl)))
                   apply Exists.intro
                   refine ⟨fun Wq hW => ?_, hK _ ?_⟩
                   focus (have q0 := Grow.cell hW y6; have q1 := Grow.cell hW y8; have q2 := Grow.cell hW y9; have q3 := Grow.cell hW y10; have q4 := Grow.cell hW y11; have q5 := Grow.cell hW y12; go_simp; first | done | with_reducible rfl | (go_at_call 20; (first | with_reducible exact grown_call hW (L2.used_is TF TT TE _ R3.out HU.out) | with_reducible exact grown_same hW (L2.used_is TF TT TE _ R3.out HU.out))) | (go_at_call 21; (first | with_reducible exact grown_call hW (L2.room_is TF TT TE _ R3.out HMM.out) | with_reducible exact grown_same hW (L2.room_is TF TT TE _ R3.out HMM.out)))))
              clear hK K
              simp only [Act.put, List.setIfInBounds_toArray, List.set_cons_zero, List.set_cons_succ])
            with_reducible refine wpQuiet_nil ?_
            intro w5 c5
            go_wp2
            go_ret
            exact ⟨ret_bool HE.out.symm, HC.out.trans (HG.out.trans c5)⟩
        · have p2 : (M == D) = false := by simpa using z2
          have HE := hide (show RG = false by rw [HX.out, HTL.out]; simp [z2])
          clear z1 z2
          go_wp2_with fail
          refine wp_region_grow (by kernel_rfl) (by kernel_rfl) ?_
          repeat (
            with_reducible refine wpQuiet_step ?_
            intro K hK
            first
              | ((with_reducible refine quiet_offT rfl ?_ (hK _ ?_)); focus (refine ⟨_, rfl, ?_⟩; with_reducible rfl))
              | ((with_reducible refine quiet_offF rfl ?_ (hK _ ?_)); focus (refine ⟨_, rfl, ?_⟩; with_reducible rfl))
              | ((with_reducible refine quiet_offN rfl ?_ (hK _ ?_)); focus (exact rfl))
              | ((first | with_reducible refine quiet_free rfl ?_ | ((with_reducible refine quiet_on rfl ?_ ?_); focus (refine ⟨_, rfl, ?_⟩; with_reducible rfl)))
                 apply Exists.intro
                 refine ⟨fun Wq hW => ?_, hK _ ?_⟩
                 focus (have q0 := Grow.cell hW y6; have q1 := Grow.cell hW y8; have q2 := Grow.cell hW y9; have q3 := Grow.cell hW y10; have q4 := Grow.cell hW y11; have q5 := Grow.cell hW y12; go_simp; first | done | with_reducible rfl | (go_at_call 20; (first | with_reducible exact grown_call hW (L2.used_is TF TT TE _ R3.out HU.out) | with_reducible exact grown_same hW (L2.used_is TF TT TE _ R3.out HU.out))) | (go_at_call 21; (first | with_reducible exact grown_call hW (L2.room_is TF TT TE _ R3.out HMM.out) | with_reducible exact grown_same hW (L2.room_is TF TT TE _ R3.out HMM.out)))))
            clear hK K
            simp only [Act.put, List.setIfInBounds_toArray, List.set_cons_zero, List.set_cons_succ])
          with_reducible refine wpQuiet_nil ?_
          intro w5 c5
          go_wp2
          go_ret
          exact ⟨ret_bool HE.out.symm, HC.out.trans (HG.out.trans c5)⟩
      · have p1 : (U == 0) = false := by simpa using z1
        have HE := hide (show RG = false by rw [HX.out, HTL.out]; simp [z1])
        clear z1
        go_wp2_with fail
        refine wp_region_grow (by kernel_rfl) (by kernel_rfl) ?_
        repeat (
          with_reducible refine wpQuiet_step ?_
          intro K hK
          first
            | ((with_reducible refine quiet_offT rfl ?_ (hK _ ?_)); focus (refine ⟨_, rfl, ?_⟩; with_reducible rfl))
            | ((with_reducible refine quiet_offF rfl ?_ (hK _ ?_)); focus (refine ⟨_, rfl, ?_⟩; with_reducible rfl))
            | ((with_reducible refine quiet_offN rfl ?_ (hK _ ?_)); focus (exact rfl))
            | ((first | with_reducible refine quiet_free rfl ?_ | ((with_reducible refine quiet_on rfl ?_ ?_); focus (refine ⟨_, rfl, ?_⟩; with_reducible rfl)))
               apply Exists.intro
               refine ⟨fun Wq hW => ?_, hK _ ?_⟩
               focus (have q0 := Grow.cell hW y6; have q1 := Grow.cell hW y8; have q2 := Grow.cell hW y9; have q3 := Grow.cell hW y10; have q4 := Grow.cell hW y11; have q5 := Grow.cell hW y12; go_simp; first | done | with_reducible rfl | (go_at_call 20; (first | with_reducible exact grown_call hW (L2.used_is TF TT TE _ R3.out HU.out) | with_reducible exact grown_same hW (L2.used_is TF TT TE _ R3.out HU.out))) | (go_at_call 21; (first | with_reducible exact grown_call hW (L2.room_is TF TT TE _ R3.out HMM.out) | with_reducible exact grown_same hW (L2.room_is TF TT TE _ R3.out HMM.out)))))
          clear hK K
          simp only [Act.put, List.setIfInBounds_toArray, List.set_cons_zero, List.set_cons_succ])
        with_reducible refine wpQuiet_nil ?_
        intro w5 c5
        go_wp2
        go_ret
        exact ⟨ret_bool HE.out.symm, HC.out.trans (HG.out.trans c5)⟩
    · have q1 : decide ((k : Int) < 4) = true := decide_eq_true (by omega)
      have q2 : k < 4 := hlt
      have q3 : k ≤ 4 := by omega
      obtain ⟨sp, hsp⟩ : ∃ sp, sps[k]? = some sp := ⟨_, List.getElem?_eq_getElem (by rw [HL4.out]; omega)⟩
      obtain ⟨x0, x1, x2⟩ := spCs_get sps k sp hsp
      rw [HSL.out] at x0 x1 x2
      have hBr := HB.out.chg gg id
      have k0 : wr.cell? ⟨ga, k * 3, none⟩ = some (.int .i64 sp.F) := (hBr.cell _).trans x0
      have k1 : wr.cell? ⟨ga, k * 3 + 1, none⟩ = some (.int .i64 sp.T) := (hBr.cell _).trans x1
      have k2 : wr.cell? ⟨ga, k * 3 + 2, none⟩ = some (.int .i64 sp.E) := (hBr.cell _).trans x2
      have hfa : finAt n sps k = (riB sp.F sp.T sp.E && (decide (sp.F ≠ 0) && (decide (sp.E ≤ n) && !((sps.take k).any (meB sp))))) := by
        unfold finAt finB
        rw [List.getD_eq_getElem?_getD, hsp]
        rfl
      have HFA := hide hfa
      have HOK := hide hok
      have hs := Blk.new wr 34 sp.cells
      have HBR := hide (show ∀ W, Grow (wr.alloc (.cells sp.cells.toArray 34)) W → Blk W ga 34 (spCs sps) from fun W c => by rw [HSL.out]; exact hBr.chg ((Grow.box wr _).trans c) id)
      replace gg := gg.alloc (.cells sp.cells.toArray 34)
      have HM := hide (show ∀ W (hs : Blk W wr.heap.size 34 sp.cells), ∀ W' s, s ∈ sps → Grow W W' → Calls Tryz.prog 98 (#[s.v] ++ #[.pointer (some ⟨wr.heap.size, 0, none⟩)]) W' fun e w' => e = .returned (.bool (meB sp s)) ∧ Grow W' w' from fun W hs W' s _ c => meets_any (hs.chg c id) s)
      obtain ⟨F, T, E⟩ := sp
      dsimp only [Sp.cells] at k0 k1 k2 hs HBR gg HM HFA
      clear hsp x0 x1 x2 hBr hfa hok
      obtain ⟨s0, s1, s2⟩ := hs.cell3
      have HG := hide gg
      have HS := hide hs
      have hw1 : IntKind.i64.wrap ((k : Int) + 1) = ((k + 1 : Nat) : Int) := (IntWalk.i64_in _ (by omega)).trans (by omega)
      clear gg hs
      cases hr : riB F T E with
      | false =>
        have HX := hide (HRF.out k q2 (by rw [HFA.out, hr]; rfl))
        go_wp2_with fail
        refine (L2.right_is F T E _ hr).mono ?_
        rintro e w5 ⟨rfl, c5⟩
        go_wp2
        go_ret
        exact ⟨ret_bool HX.out.symm, HC.out.trans (HG.out.trans c5)⟩
      | true =>
        have HR := hide hr
        by_cases hF : F = 0
        · have qF : (F == 0) = true := by simpa using hF
          have HX := hide (HRF.out k q2 (by rw [HFA.out, hr]; simp [hF]))
          clear hr hF
          go_wp2_with fail
          refine (L2.right_is F T E _ HR.out).mono ?_
          rintro e w5 ⟨rfl, c5⟩
          have HG5 := hide (HG.out.trans c5)
          have HG6 := hide c5
          replace s0 := Grow.cell c5 s0
          replace s1 := Grow.cell c5 s1
          replace s2 := Grow.cell c5 s2
          replace k0 := Grow.cell ((Grow.box wr (.cells [.int .i64 F, .int .i64 T, .int .i64 E].toArray 34)).trans c5) k0
          clear c5
          go_wp2
          go_ret
          exact ⟨ret_bool HX.out.symm, HC.out.trans HG5.out⟩
        · have qF : (F == 0) = false := by simpa using hF
          by_cases hE : E ≤ n
          · have qE : decide (E > n) = false := decide_eq_false (by omega)
            have hmv := HM.out _ HS.out
            obtain ⟨bb, hbb⟩ : ∃ bb, (sps.take k).any (meB ⟨F, T, E⟩) = bb := ⟨_, rfl⟩
            have HCN := hide (fun W (c : Grow (wr.alloc (.cells [.int .i64 F, .int .i64 T, .int .i64 E].toArray 34)) W) => spc_any (c := 4) (n := k) (p := meB ⟨F, T, E⟩) (lb := #[.pointer (some ⟨wr.heap.size, 0, none⟩)]) eg_meets (HBR.out W c) (by rw [HL4.out]; omega) (by rw [HL4.out]; omega) (fun W' s hs c' => HM.out W (HS.out.chg c id) W' s hs c'))
            rw [hbb] at HCN
            have hfv : finAt n sps k = !bb := by rw [HFA.out, hr, hbb]; simp [hF, hE]
            cases bb with
            | true =>
              have HX := hide (HRF.out k q2 hfv)
              clear hr hF hE hmv hbb hfv
              go_wp2_with fail
              refine (L2.right_is F T E _ HR.out).mono ?_
              rintro e w5 ⟨rfl, c5⟩
              have HG5 := hide (HG.out.trans c5)
              have HG6 := hide c5
              replace s0 := Grow.cell c5 s0
              replace s1 := Grow.cell c5 s1
              replace s2 := Grow.cell c5 s2
              replace k0 := Grow.cell ((Grow.box wr (.cells [.int .i64 F, .int .i64 T, .int .i64 E].toArray 34)).trans c5) k0
              clear c5
              go_wp2_with fail
              refine (HCN.out _ HG6.out).mono ?_
              rintro e w6 ⟨rfl, c6⟩
              go_wp2
              go_ret
              exact ⟨ret_bool HX.out.symm, HC.out.trans (HG5.out.trans c6)⟩
            | false =>
              have HX := hide (show ∀ j, j < k + 1 → finAt n sps j = true from fun j hj => by
                rcases Nat.lt_or_ge j k with h | h
                · exact HOK.out j h
                · obtain rfl : j = k := by omega
                  exact hfv)
              clear hr hF hE hmv hbb hfv
              go_wp2_with fail
              refine (L2.right_is F T E _ HR.out).mono ?_
              rintro e w5 ⟨rfl, c5⟩
              have HG5 := hide (HG.out.trans c5)
              have HG6 := hide c5
              replace s0 := Grow.cell c5 s0
              replace s1 := Grow.cell c5 s1
              replace s2 := Grow.cell c5 s2
              replace k0 := Grow.cell ((Grow.box wr (.cells [.int .i64 F, .int .i64 T, .int .i64 E].toArray 34)).trans c5) k0
              clear c5
              go_wp2_with fail
              refine (HCN.out _ HG6.out).mono ?_
              rintro e w6 ⟨rfl, c6⟩
              have HG7 := hide (HG5.out.trans c6)
              clear c6 k0 k1 k2 s0 s1 s2
              go_wp2
              go_roundw
              case rel => exact ⟨k + 1, by omega, rfl, HX.out, HG7.out⟩
              case measure => simp [Go.RowKit.intOf]; omega
          · have qE : decide (E > n) = true := decide_eq_true (by omega)
            have HX := hide (HRF.out k q2 (by rw [HFA.out, hr]; simp [hE]))
            clear hr hF hE
            go_wp2_with fail
            refine (L2.right_is F T E _ HR.out).mono ?_
            rintro e w5 ⟨rfl, c5⟩
            have HG5 := hide (HG.out.trans c5)
            have HG6 := hide c5
            replace s0 := Grow.cell c5 s0
            replace s1 := Grow.cell c5 s1
            replace s2 := Grow.cell c5 s2
            replace k0 := Grow.cell ((Grow.box wr (.cells [.int .i64 F, .int .i64 T, .int .i64 E].toArray 34)).trans c5) k0
            clear c5
            go_wp2
            go_ret
            exact ⟨ret_bool HX.out.symm, HC.out.trans HG5.out⟩
end
end Go.Proofs.YtogfjclmohpjkaaGreatDoor.L15

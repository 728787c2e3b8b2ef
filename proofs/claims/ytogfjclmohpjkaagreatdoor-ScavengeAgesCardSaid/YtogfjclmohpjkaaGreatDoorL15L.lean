/- A life in memory: what its methods old, leads, olds and store answer. Conditions: its store is one, the address an object's. -/
import Derived.Test.YtogfjclmohpjkaaGreatDoorL15R
namespace Go.Proofs.YtogfjclmohpjkaaGreatDoor.L15
open Go.ChangeShapes Go.WideShapes Go.ChangeAt Go.RowKit
open Go.Proofs.YtogfjclmohpjkaaGreatDoor.L1 (Sl Ar ptr exB)
open Go.Proofs.YtogfjclmohpjkaaGreatDoor.L4 (hdV riB wd)
open Go.Proofs.YtogfjclmohpjkaaGreatDoor.L5 (Cl clV rtB Tb clAt shX shR shD)
open Go.Proofs.YtogfjclmohpjkaaGreatDoor.L6 (Th th0 stV St fdT fdX obT obX slX slP slV gw Wk)
set_option linter.unusedVariables false
set_option maxRecDepth 100000
/-- The cells of a life. -/
abbrev lfCs (b : Nat) (tp : Option Addr) (y : Yg) (av rv : Value) (pc : Nat) (cv : Value) : List Value :=
  [.pointer (some ⟨b, 0, none⟩), .pointer tp, .pointer (some ⟨b, 0, none⟩), .pointer tp, .int .i64 y.OF, .int .i64 y.OT, .int .i64 y.OE, .int .i64 y.EF, .int .i64 y.ET, .int .i64 y.EE, .int .i64 y.FF, .int .i64 y.FT, .int .i64 y.FE, .int .i64 y.TF, .int .i64 y.TT, .int .i64 y.TE, .int .i64 y.th, av, rv, ptr pc, cv]
def oldB (r : Int) : Bool := decide (1 ≤ r) && decide (r < 401)
def lldB (o : Ob) : Bool := o.rs.any fun r => decide (r ≠ 0) && !oldB r
section
variable {w w' W : World} {tp : Option Addr} {g b p pc n : Nat} {xs : List Int} {cs : List Cl} {a : Int} {o : Ob} {y : Yg} {av rv cv : Value}
theorem lf_cells (h : Blk w p 40 (lfCs b tp y av rv pc cv)) : w.cell? ⟨p, 0, none⟩ = some (.pointer (some ⟨b, 0, none⟩)) ∧ w.cell? ⟨p, 1, none⟩ = some (.pointer tp) ∧ w.cell? ⟨p, 2, none⟩ = some (.pointer (some ⟨b, 0, none⟩)) ∧ w.cell? ⟨p, 3, none⟩ = some (.pointer tp) ∧ w.cell? ⟨p, 17, none⟩ = some av ∧ w.cell? ⟨p, 18, none⟩ = some rv ∧ w.cell? ⟨p, 19, none⟩ = some (ptr pc) ∧ w.cell? ⟨p, 20, none⟩ = some cv :=
  ⟨h.cell 0, h.cell 1, h.cell 2, h.cell 3, h.cell 17, h.cell 18, h.cell 19, h.cell 20⟩
theorem lold_any (pv : Value) (r : Int) : Calls Tryz.prog 34 #[pv, .int .i64 r] w fun e w' => e = .returned (.bool (oldB r)) ∧ w = w' := by
  by_cases h1 : 1 ≤ r
  · by_cases h2 : r < 401
    · have HB := hide (show oldB r = true by simp [oldB, h1, h2])
      have q1 : decide (r ≥ 1) = true := decide_eq_true h1
      have q2 : decide (r < 401) = true := decide_eq_true h2
      clear h1 h2
      go_enter Tryz.func34, Tryz.ntmps34
      go_wp2
      go_ret
      exact ⟨ret_bool HB.out.symm, rfl⟩
    · have HB := hide (show oldB r = false by simp [oldB, h2])
      have q1 : decide (r ≥ 1) = true := decide_eq_true h1
      have q2 : decide (r < 401) = false := decide_eq_false h2
      clear h1 h2
      go_enter Tryz.func34, Tryz.ntmps34
      go_wp2
      go_ret
      exact ⟨ret_bool HB.out.symm, rfl⟩
  · have HB := hide (show oldB r = false by simp [oldB, h1])
    have q1 : decide (r ≥ 1) = false := decide_eq_false h1
    clear h1
    go_enter Tryz.func34, Tryz.ntmps34
    go_wp2
    go_ret
    exact ⟨ret_bool HB.out.symm, rfl⟩
set_option maxHeartbeats 2000000 in
theorem lleads_any (h : St w (some ⟨b, 0, none⟩) tp g xs cs) (hl : Blk w p 40 (lfCs b tp y av rv pc cv)) (ho : ObAt xs cs a o) :
    Calls Tryz.prog 13 #[ptr p, .int .i64 a] w fun e w' => e = .returned (.bool (lldB o)) ∧ Grow w w' := by
  have hrt := h.rt
  obtain ⟨hT, hX⟩ := ho.ob hrt
  have h1 : a ≤ 9223372036854775807 := by have := ho.a64 h.n; omega
  obtain ⟨n, hn⟩ : ∃ n, o.rs.length = n := ⟨_, rfl⟩
  have hn30 : n ≤ 30 := by
    have := (ho.ok.bd hrt).2.1
    unfold Ob.sz at this
    omega
  have HR := hide (show (obT xs cs a).r = (n : Int) by rw [hT, ← hn]; rfl)
  have HD := hide (show (obT xs cs a).n = (o.ds.length : Int) by rw [hT]; rfl)
  have HX := hide hX
  have HS := hide (fun (k : Nat) (hk : k < n) => ho.slR hrt (k := k) (by omega))
  have HN := hide hn
  have H := hide h
  have HL := hide hl
  obtain ⟨bb, hbb⟩ : ∃ bb, lldB o = bb := ⟨_, rfl⟩
  have HB := hide hbb
  rw [hbb]
  obtain ⟨-, -, s0, s1, -⟩ := lf_cells hl
  clear h ho hT hX hrt hl hbb
  go_enter Tryz.func13, Tryz.ntmps13
  go_wp2_with fail
  clear s0 s1
  refine (L6.oshape_is H.out h1 HR.out HD.out HX.out).mono ?_
  rintro e w4 ⟨rfl, c4⟩
  go_wp2_with fail
  go_loopw [22] (fun v wr => ∃ k : Nat, k ≤ n ∧ v = .int .i64 k ∧ (o.rs.take k).any (fun r => decide (r ≠ 0) && !oldB r) = false ∧ Grow w wr) (fun v _ => n - (intOf v).toNat)
  case atStart => exact ⟨0, Nat.zero_le _, rfl, by simp, c4⟩
  case round =>
    clear c4
    obtain ⟨k, hk, rfl, hno, cc⟩ := hrel
    rcases Nat.eq_or_lt_of_le hk with hke | hlt
    · subst hke
      have hbf : bb = false := by
        rw [← HB.out]
        rw [← HN.out, List.take_length] at hno
        exact hno
      subst hbf
      have q1 : decide ((k : Int) < k) = false := by simp
      have HC := hide cc
      clear cc hk hno
      go_wp2
      go_ret
      exact ⟨rfl, HC.out⟩
    · have q1 : decide ((k : Int) < n) = true := decide_eq_true (by omega)
      have q2 : k < n := hlt
      have hkl : k < o.rs.length := by rw [HN.out]; exact hlt
      obtain ⟨-, -, s0, s1, -⟩ := lf_cells (HL.out.chg cc id)
      have hw : IntKind.i64.wrap ((k : Int) + 1) = ((k + 1 : Nat) : Int) := (IntWalk.i64_in _ (by omega)).trans (by omega)
      have htk : (o.rs.take (k + 1)).any (fun r => decide (r ≠ 0) && !oldB r) = (decide (o.rs.getD k 0 ≠ 0) && !oldB (o.rs.getD k 0)) := by
        rw [List.take_add_one, List.getElem?_eq_getElem hkl, List.any_append, hno, List.getD_eq_getElem?_getD, List.getElem?_eq_getElem hkl]
        simp
      have hyes : (decide (o.rs.getD k 0 ≠ 0) && !oldB (o.rs.getD k 0)) = true → bb = true := fun he => by
        rw [← HB.out]
        exact List.any_eq_true.2 ⟨_, getD_mem hkl, he⟩
      have HK := hide (HS.out k hlt)
      obtain ⟨u1, hu⟩ : ∃ u1, o.rs.getD k 0 = u1 := ⟨_, rfl⟩
      rw [hu] at HK htk hyes
      obtain ⟨b2, hb2⟩ : ∃ b2, oldB u1 = b2 := ⟨_, rfl⟩
      have HO := hide (fun W => show Calls Tryz.prog 34 #[ptr p, .int .i64 u1] W fun e w' => e = .returned (.bool b2) ∧ W = w' from hb2 ▸ lold_any (ptr p) u1)
      rw [hb2] at htk hyes
      have HC := hide cc
      have HT := hide htk
      have HY := hide hyes
      clear hno hkl htk hyes hb2 cc hk hu
      go_wp2_with fail
      clear s0 s1
      refine (L6.ref_is (H.out.grow HC.out) h1 HK.out.2.2 HK.out.1).mono ?_
      rintro e w6 ⟨rfl, c6⟩
      have HC6 := hide (HC.out.trans c6)
      clear c6
      by_cases hz : u1 = 0
      · subst hz
        go_wp2
        go_roundw
        case rel => exact ⟨k + 1, q2, rfl, by rw [HT.out]; rfl, HC6.out⟩
        case measure => simp [intOf]; omega
      · have q3 : (u1 != 0) = true := by simpa using hz
        cases b2 with
        | true =>
          have HT2 := hide (show (o.rs.take (k + 1)).any (fun r => decide (r ≠ 0) && !oldB r) = false by rw [HT.out]; simp)
          clear hz
          go_wp2_with fail
          refine (HO.out _).mono ?_
          rintro e w7 ⟨rfl, rfl⟩
          go_wp2
          go_roundw
          case rel => exact ⟨k + 1, q2, rfl, HT2.out, HC6.out⟩
          case measure => simp [intOf]; omega
        | false =>
          have HT2 := hide (show bb = true from HY.out (by simp [hz]))
          clear hz
          go_wp2_with fail
          refine (HO.out _).mono ?_
          rintro e w7 ⟨rfl, rfl⟩
          go_wp2
          go_ret
          exact ⟨ret_bool HT2.out.symm, HC6.out⟩
end
section
variable {w w' W : World} {tp : Option Addr} {g b p pc n : Nat} {xs L : List Int} {cs : List Cl} {t : Int} {y : Yg} {av rv cv : Value}
set_option maxHeartbeats 1000000 in
theorem lolds_any (h : St w (some ⟨b, 0, none⟩) tp g xs cs) (hl : Blk w p 40 (lfCs b tp y av rv pc cv)) (ht : t ≤ 9223372036854775807) (hw : Wk xs cs t 1 L 0) :
    Calls Tryz.prog 12 #[ptr p, .int .i64 t] w fun e w' => ∃ v, e = .returned v ∧ OL w' w.heap.size v L ∧ Grow w w' := by
  have HW := hide (L6.walk_ok h (by decide) ht hw)
  obtain ⟨-, -, s0, s1, -⟩ := lf_cells hl
  clear h hl ht hw
  go_enter Tryz.func12, Tryz.ntmps12
  go_wp2_with fail
  clear s0 s1
  refine HW.out.mono ?_
  rintro e w4 ⟨va, vc, rfl, hol, c4⟩
  have HF := hide (And.intro hol c4)
  clear hol c4
  go_wp2
  go_ret
  exact ⟨_, rfl, HF.out.1, HF.out.2⟩
end
end Go.Proofs.YtogfjclmohpjkaaGreatDoor.L15

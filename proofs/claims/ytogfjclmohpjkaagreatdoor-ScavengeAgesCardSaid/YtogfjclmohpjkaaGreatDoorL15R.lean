/- What refs, has and leads answer; they only make memory. Conditions: the address is an object's. -/
import Derived.Test.YtogfjclmohpjkaaGreatDoorL15I
import Derived.Test.YtogfjclmohpjkaaGreatDoorL15Ol
import Derived.StillTailTactics
namespace Go.Proofs.YtogfjclmohpjkaaGreatDoor.L15
open Go.ChangeShapes Go.WideShapes Go.ChangeAt Go.RowKit
open Go.Proofs.YtogfjclmohpjkaaGreatDoor.L1 (Sl Ar ptr exB)
open Go.Proofs.YtogfjclmohpjkaaGreatDoor.L4 (hdV riB wd)
open Go.Proofs.YtogfjclmohpjkaaGreatDoor.L5 (Cl clV rtB Tb clAt shX shR shD)
open Go.Proofs.YtogfjclmohpjkaaGreatDoor.L6 (Th th0 stV St fdT fdX obT obX slX slP slV gw)
set_option linter.unusedVariables false
set_option maxRecDepth 100000

theorem getD_set_at {xs : List Int} {k : Nat} (hk : k < xs.length) (u : Int) : (xs.set k u).getD k 0 = u := by
  simp [List.getD_eq_getElem?_getD, hk]
theorem getD_set_ne {xs : List Int} {k j : Nat} (h : j ≠ k) (u : Int) : (xs.set k u).getD j 0 = xs.getD j 0 := by
  rw [List.getD_eq_getElem?_getD, List.getD_eq_getElem?_getD, List.getElem?_set_ne (Ne.symm h)]
/-- The first so many of a list, zeros behind. -/
theorem take_all {xs ys : List Int} (hl : ys.length = xs.length) (h : ∀ j, j < xs.length → ys.getD j 0 = xs.getD j 0) : ys = xs := by
  apply List.ext_getElem hl
  intro i h1 h2
  have := h i h2
  simpa [List.getD_eq_getElem?_getD, h1, h2] using this
section
variable {w w' : World} {p tp : Option Addr} {g n : Nat} {xs : List Int} {cs : List Cl} {a : Int} {o : Ob} {y : Yg}
theorem ObAt.a64 (h : ObAt xs cs a o) (hn : xs.length ≤ 4096) : a ≤ 4096 := by
  have := h.len
  have := sz_pos o
  omega
set_option maxHeartbeats 1000000 in
theorem refs_any (h : St w p tp g xs cs) (ho : ObAt xs cs a o) :
    Calls Tryz.prog 106 #[stV p tp, .int .i64 a] w fun e w' => ∃ z, e = .returned (.slice (some ⟨z, 0, none⟩) o.rs.length o.rs.length) ∧ Blk w' z 3 (ints o.rs) ∧ w.heap.size ≤ z ∧ Grow w w' := by
  have hrt := h.rt
  obtain ⟨hT, hX⟩ := ho.ob hrt
  have h1 : a ≤ 9223372036854775807 := by have := ho.a64 h.n; omega
  obtain ⟨n, hn⟩ : ∃ n, o.rs.length = n := ⟨_, rfl⟩
  have hn30 : n ≤ 30 := by
    have := (ho.ok.bd hrt).2.1
    unfold Ob.sz at this
    omega
  have HR := hide (show (obT xs cs a).r = (n : Int) by rw [hT, ← hn]; rfl)
  have HD := hide (show (obT xs cs a).n = (o.ds.length : Int) by rw [hT]; rfl)
  have HX := hide hX
  have HS := hide (fun (k : Nat) (hk : k < n) => ho.slR hrt (k := k) (by omega))
  have HN := hide hn
  have H := hide h
  have hmk := fun W => mk_ints (n : Int) (by omega) (by omega) W
  simp only [Int.toNat_natCast] at hmk
  clear h ho hT hX hrt
  rw [hn]
  obtain ⟨hs, cc, fs⟩ := boxes1 w 32 [.pointer p, .pointer tp]
  go_enter Tryz.func106, Tryz.ntmps106
  go_wp2_with fail
  generalize w.alloc (.cells #[.pointer p, .pointer tp] 32) = w3 at *
  generalize w.heap.size = s at *
  obtain ⟨s0, s1⟩ := hs.cell2
  go_wp2_with fail
  clear s0 s1
  refine (L6.oshape_is (H.out.grow cc) h1 HR.out HD.out HX.out).mono ?_
  rintro e w4 ⟨rfl, c_w4⟩
  replace hs := hs.chg c_w4 id
  replace cc := cc.step c_w4 (fun _ _ h => h.elim)
  clear c_w4 
  have hz := Blk.new w4 3 (ints (zeros n))
  have HG := hide (show w.heap.size ≤ w4.heap.size from cc.size)
  have nsz : ¬ s = w4.heap.size := fun e => by have := hs.lt; omega
  replace hs := hs.alloc (.cells (ints (zeros n)).toArray 3)
  replace cc := cc.alloc (.cells (ints (zeros n)).toArray 3)
  obtain ⟨s0, s1⟩ := hs.cell2
  go_wp2_with fail
  generalize w4.alloc (.cells (ints (zeros n)).toArray 3) = w5 at *
  generalize w4.heap.size = z at *
  clear hmk s0 s1
  go_loopw [9, 21] (fun u v wr => ∃ (k : Nat) (ys : List Int), k ≤ n ∧ v = .int .i64 k ∧ Blk wr z 3 (ints ys) ∧ ys.length = n ∧ (∀ j, j < k → ys.getD j 0 = o.rs.getD j 0) ∧ Blk wr s 32 [.pointer p, .pointer tp] ∧ Grow w wr) (fun _ v _ => n - (intOf v).toNat)
  case atStart => exact ⟨0, zeros n, Nat.zero_le _, rfl, hz, zeros_length n, fun j hj => absurd hj (by omega), hs, cc⟩
  case round =>
    clear hz hs cc
    obtain ⟨k, ys, hk, rfl, hz, hl, heq, hs, cc⟩ := hrel
    rcases Nat.eq_or_lt_of_le hk with hke | hlt
    · subst hke
      have HE := hide (take_all (xs := o.rs) (ys := ys) (by rw [hl, HN.out]) (fun j hj => heq j (by rw [← HN.out]; exact hj)))
      have q1 : decide ((k : Int) < k) = false := by simp
      have HZ := hide hz
      clear hz hl heq hk
      go_wp2
      go_ret
      exact ⟨z, rfl, by rw [← HE.out]; exact HZ.out, HG.out, cc⟩
    · have q1 : decide ((k : Int) < n) = true := decide_eq_true (by omega)
      have q2 : k < n := hlt
      obtain ⟨s0, s1⟩ := hs.cell2
      have hw : IntKind.i64.wrap ((k : Int) + 1) = ((k + 1 : Nat) : Int) := (IntWalk.i64_in _ (by omega)).trans (by omega)
      have HK := hide (HS.out k hlt)
      obtain ⟨u1, hu⟩ : ∃ u1, o.rs.getD k 0 = u1 := ⟨_, rfl⟩
      have HU := hide hu
      rw [hu] at HK
      have HEQ := hide heq
      have HL := hide hl
      clear hl heq hu
      go_wp2_with fail
      clear s0 s1
      refine (L6.ref_is (H.out.grow cc) h1 HK.out.2.2 HK.out.1).mono ?_
      rintro e w6 ⟨rfl, c6⟩
      replace hs := hs.chg c6 id
      replace hz := hz.chg c6 id
      replace cc := cc.trans c6
      clear c6
      have hcz : w6.cell? ⟨z, k, none⟩ = some (.int .i64 (ys.getD k 0)) := by rw [hz.cell, ints_get _ _ (by rw [HL.out]; exact hlt)]
      have hfz := hz.frozen k
      have hz2 := hz.set_ k (.int .i64 u1)
      rw [ints_set] at hz2
      have hs2 := hs.far (p := ⟨z, k, none⟩) nsz (.int .i64 u1)
      have HC2 := hide (cc.setCell (p := ⟨z, k, none⟩) (fun h => absurd h (by have := HG.out; show ¬ z < _; omega)) (.int .i64 u1))
      have HZ2 := hide hz2
      have HS2 := hide hs2
      clear hz hs cc hz2 hs2
      go_wp2
      go_roundw
      case rel =>
        refine ⟨k + 1, ys.set k u1, hlt, rfl, HZ2.out, by rw [List.length_set]; exact HL.out, fun j hj => ?_, HS2.out, HC2.out⟩
        by_cases e : j = k
        · subst e; rw [getD_set_at (by rw [HL.out]; exact hlt), HU.out]
        · rw [getD_set_ne e]; exact HEQ.out j (by omega)
      case measure => simp [intOf]; omega
end
end Go.Proofs.YtogfjclmohpjkaaGreatDoor.L15

/- What the plain place answers; the plain store of a life. Conditions: a list that can be read; a life of 1000 words. -/
import Derived.Test.YtogfjclmohpjkaaGreatDoorL15Bs
namespace Go.Proofs.YtogfjclmohpjkaaGreatDoor.L15
open Go.ChangeShapes Go.WideShapes Go.ChangeAt Go.RowKit
open Go.Proofs.YtogfjclmohpjkaaGreatDoor.L1 (Sl Ar RAr ptr exB)
open Go.Proofs.YtogfjclmohpjkaaGreatDoor.L5 (Cl clV rtB Tb clAt shX shR shD IsCls)
open Go.Proofs.YtogfjclmohpjkaaGreatDoor.L6 (Th th0 stV St fdT fdX obT obX slX slP slV gw Wk)
set_option linter.unusedVariables false
set_option maxRecDepth 100000
section
variable {w w' W : World} {va : Option Addr} {n vc : Nat} {xs : List Int} {x : Int}
set_option maxHeartbeats 1000000 in
theorem rplace_any (h : L1.Rd w va n xs) (hn : n < 1000000) : Calls Tryz.prog 50 #[.slice va n vc, .int .i64 x] w fun e w' => e = .returned (.int .i64 (place xs x)) ∧ w = w' := by
  have HR := hide h
  have HN := hide hn
  obtain ⟨X, hX⟩ : ∃ X, place xs x = X := ⟨_, rfl⟩
  rw [hX]
  have HX := hide hX
  clear h hn hX
  go_enter Tryz.func50, Tryz.ntmps50
  go_wp2_with fail
  go_loopw [8] (fun v wr => ∃ k : Nat, k ≤ n ∧ v = .int .i64 k ∧ (∀ j, j < k → xs.getD j 0 ≠ x) ∧ w = wr) (fun v _ => n - (intOf v).toNat)
  case atStart => exact ⟨0, Nat.zero_le _, rfl, fun j hj => absurd hj (by omega), rfl⟩
  case round =>
    obtain ⟨k, hk, rfl, hno, rfl⟩ := hrel
    rcases Nat.eq_or_lt_of_le hk with hke | hlt
    · subst hke
      have HE := hide (show X = -1 by rw [← HX.out]; exact place_no fun j hj => hno j (by rw [← HR.out.1]; exact hj))
      have q1 : decide ((k : Int) < k) = false := by simp
      clear hno hk
      go_wp2
      go_ret
      exact ⟨ret_int HE.out.symm, rfl⟩
    · have q1 : decide ((k : Int) < n) = true := decide_eq_true (by omega)
      have q2 : k < n := hlt
      have hw : IntKind.i64.wrap ((k : Int) + 1) = ((k + 1 : Nat) : Int) := (IntWalk.i64_in _ (by have := HN.out; omega)).trans (by omega)
      obtain ⟨ad, hva, hcx⟩ := HR.out.at_ hlt
      obtain ⟨u, hu⟩ : ∃ u, xs.getD k 0 = u := ⟨_, rfl⟩
      rw [hu] at hcx
      have HNO := hide hno
      have HU := hide hu
      subst hva
      clear hno hk hu
      by_cases e : u = x
      · subst e
        have HE := hide (show X = (k : Int) by rw [← HX.out]; exact place_at (by rw [HR.out.1]; exact hlt) HU.out HNO.out)
        have q3 : (u == u) = true := by simp
        go_wp2
        go_ret
        exact ⟨ret_int HE.out.symm, rfl⟩
      · have q3 : (u == x) = false := by simpa using e
        have HE := hide (show ∀ j, j < k + 1 → xs.getD j 0 ≠ x from fun j hj => by
          rcases Nat.lt_or_ge j k with h | h
          · exact HNO.out j h
          · obtain rfl : j = k := by omega
            rw [HU.out]; exact e)
        clear e
        go_wp2
        go_roundw
        case rel => exact ⟨k + 1, q2, rfl, HE.out, trivial⟩
        case measure => simp [intOf]; omega
end
section
variable {w w' W : World} {tp ca : Option Addr} {g b p pc cl cp : Nat} {xs : List Int} {cs : List Cl} {y : Yg} {av rv : Value}
theorem words_new {a m : Nat} (h : St w (some ⟨b, 0, none⟩) tp g xs cs) (hk : a + m ≤ xs.length) :
    Calls Tryz.prog 25 #[.pointer (some ⟨b, 0, none⟩), .int .i64 (a : Int), .int .i64 (m : Int)] w fun e w' => ∃ z, e = .returned (.tuple #[.slice (some ⟨z, 0, none⟩) m m, .int .i64 0]) ∧ Blk w' z 3 (ints ((xs.drop a).take m)) ∧ Grow w w' ∧ w.heap.size ≤ z :=
  (L1.words_ok b g xs a m w h.open_ h.n hk).mono fun e w' ⟨he, hb, hc⟩ => ⟨_, he, hb, hc, Nat.le_refl _⟩
set_option maxHeartbeats 1000000 in
theorem lstore_any (h : St w (some ⟨b, 0, none⟩) tp g xs cs) (hl : Blk w p 40 (lfCs b tp y av rv pc (.slice ca cl cp))) (hn : xs.length = 1000) :
    Calls Tryz.prog 17 #[ptr p] w fun e w' => ∃ q z, e = .returned (rsV q ca cl cp) ∧ RAr w' q z xs ∧ Grow w w' ∧ w.heap.size ≤ q ∧ w.heap.size ≤ z := by
  have H := hide h
  have HN := hide hn
  have h0 := Blk.new w 57 [.pointer none, .slice none 0 0]
  have g0 := Grow.box w (.cells [.pointer none, .slice none 0 0].toArray 57)
  have f0 : Fresh w w.heap.size := Nat.le_refl _
  obtain ⟨l0, -, -, -, -, -, -, l20⟩ := lf_cells (hl.chg g0 id)
  have HL := hide (hl.chg g0 id)
  have HAW := hide (words_new (a := 0) (m := 1000) (h.grow g0) (by omega))
  clear h hn hl
  go_enter Tryz.func17, Tryz.ntmps17
  go_wp2_with fail
  generalize w.alloc (.cells #[.pointer none, .slice none 0 0] 57) = w1 at *
  generalize w.heap.size = r at *
  refine (HAW.out).mono ?_
  rintro e w4 ⟨z, rfl, hz, c4, hzr⟩
  have hzs : z < w4.heap.size := hz.lt
  have hrl : r < w1.heap.size := h0.lt
  have hrs := c4.size
  have HB := hide (show r < z ∧ z < w4.heap.size ∧ r < w4.heap.size from ⟨by omega, hzs, by omega⟩)
  rw [show ((xs.drop 0).take 1000) = xs by rw [List.drop_zero, List.take_of_length_le (by rw [HN.out]; exact Nat.le_refl _)]] at hz
  replace h0 := h0.chg c4 id
  have hlc := HL.out.chg c4 id
  replace g0 := g0.trans c4
  clear c4 l0 l20
  have hq := Blk.new w4 108 [.slice (some ⟨z, 0, none⟩) 1000 1000]
  replace h0 := h0.alloc (.cells [.slice (some ⟨z, 0, none⟩) 1000 1000].toArray 108)
  replace hlc := hlc.alloc (.cells [.slice (some ⟨z, 0, none⟩) 1000 1000].toArray 108)
  replace hz := hz.alloc (.cells [.slice (some ⟨z, 0, none⟩) 1000 1000].toArray 108)
  have g1 := g0.alloc (.cells [.slice (some ⟨z, 0, none⟩) 1000 1000].toArray 108)
  obtain ⟨-, -, -, -, -, -, -, l20⟩ := lf_cells hlc
  obtain ⟨r0, r1⟩ := h0.cell2
  obtain ⟨f0', f1'⟩ := h0.frozen2
  have HR2 := hide (h0.put2 (.pointer (some ⟨w4.heap.size, 0, none⟩)) (.slice ca cl cp))
  have HQ2 := hide (hq.far2 (q := r) (by have := HB.out; omega) (.pointer (some ⟨w4.heap.size, 0, none⟩)) (.slice ca cl cp))
  have HZ2 := hide (hz.far2 (q := r) (by have := HB.out; omega) (.pointer (some ⟨w4.heap.size, 0, none⟩)) (.slice ca cl cp))
  have HG2 := hide (f0.put2 g1 (.pointer (some ⟨w4.heap.size, 0, none⟩)) (.slice ca cl cp))
  clear hlc HL HAW hzs hrl hrs hzr h0 hq hz g1 g0
  go_wp2
  clear r0 r1 f0' f1' l20
  generalize ((w4.alloc (.cells #[.slice (some ⟨z, 0, none⟩) 1000 1000] 108)).setCell ⟨r, 0, none⟩ (.pointer (some ⟨w4.heap.size, 0, none⟩))).setCell ⟨r, 1, none⟩ (.slice ca cl cp) = w5 at *
  generalize w4.heap.size = q at *
  obtain ⟨r0, r1⟩ := HR2.out.cell2
  refine bodyPost_ret (v := rsV q ca cl cp) (by simp [results, Tryz.results17, go_sem, r0, r1]) rfl ?_
  have hf : w.heap.size ≤ r := f0
  have hb := HB.out
  exact ⟨q, z, rfl, ⟨by rw [HN.out]; exact HQ2.out, HZ2.out⟩, HG2.out, by omega, by omega⟩
end
end Go.Proofs.YtogfjclmohpjkaaGreatDoor.L15

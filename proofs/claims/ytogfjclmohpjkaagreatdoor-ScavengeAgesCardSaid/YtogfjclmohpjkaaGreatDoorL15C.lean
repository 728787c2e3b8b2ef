/- What slices.Sorted of a list's values and slices.BinarySearch answer; what closed answers. Conditions: at most 100000 numbers. -/
import Derived.Lib.SlKeysI
import Derived.Test.YtogfjclmohpjkaaGreatDoorL15V
namespace Go.Proofs.YtogfjclmohpjkaaGreatDoor.L15
open Go.ChangeShapes Go.WideShapes Go.ChangeAt Go.RowKit Go.Shelf Go.Sort
open Go.Proofs.YtogfjclmohpjkaaGreatDoor.L1 (Sl Ar ptr exB)
open Go.Proofs.YtogfjclmohpjkaaGreatDoor.L4 (hdV riB wd)
open Go.Proofs.YtogfjclmohpjkaaGreatDoor.L5 (Cl clV rtB Tb clAt shX shR shD)
open Go.Proofs.YtogfjclmohpjkaaGreatDoor.L6 (Th th0 stV St fdT fdX obT obX slX slP slV gw Wk)
set_option linter.unusedVariables false
set_option maxRecDepth 100000
/-- The same numbers, rising. -/
structure Srd (ss zs : List Int) : Prop where
  p : ss.Pairwise (· ≤ ·)
  m : ∀ x, x ∈ ss ↔ x ∈ zs
  n : ss.length = zs.length
theorem srd_sort (zs : List Int) : Srd (zs.mergeSort fun x y => decide (x ≤ y)) zs := by
  have hp := List.mergeSort_perm zs (fun x y => decide (x ≤ y))
  have h1 : (zs.mergeSort (fun x y => decide (x ≤ y))).Pairwise (fun x y => decide (x ≤ y) = true) := List.pairwise_mergeSort (fun a b c => by simp; omega) (fun a b => by simp; omega) zs
  exact ⟨h1.imp (by intro a b h; simpa using h), fun x => hp.mem_iff, hp.length_eq⟩
section
variable {w w' W : World} {a : Option Addr} {n m c b : Nat} {zs ss : List Int} {v : Value} {x : Int}
set_option maxHeartbeats 1000000 in
theorem sort_own (h : OL w b v zs) (hl : zs.length ≤ 1000000) : Calls Tryz.prog 120 #[v] w fun e w' => e = .returned (.tuple #[]) ∧ OL w' b v (zs.mergeSort fun x y => decide (x ≤ y)) ∧ (b ≤ w.heap.size → ∀ k, k < b → w'.heap[k]? = w.heap[k]?) ∧ w.grownBy w' v.ownBlock := by
  have hs := srd_sort zs
  rcases h.2 with ⟨rfl, hz⟩ | ⟨gb, cap, cur, rfl, hbase, hgb, r1, r2, r3, r4⟩
  · obtain rfl : zs = [] := List.eq_nil_of_length_eq_zero hz
    refine (AnyM.slices_Sort_int_none Tryz.sortV none 0 w).mono ?_
    rintro e w' ⟨rfl, rfl⟩
    exact ⟨rfl, by simpa using h, fun _ k _ => rfl, ⟨rfl, rfl, rfl, Nat.le_refl _, fun _ _ _ => rfl⟩⟩
  · have hH : Holds encZ w gb 0 zs.toArray := holds_of_block_i hgb (by rw [← Nat.mul_one zs.length]; exact r4)
    have hgl : gb < w.heap.size := (Array.getElem?_eq_some_iff.1 hgb).1
    refine (AnyM.slices_Sort_int Tryz.sortV gb 0 cap zs w hH hgl (by omega)).mono ?_
    rintro e w' ⟨rfl, nn, os, rfl⟩
    have ho : (grow (putRow encZ (Sort.ahead w nn) gb 0 (zs.mergeSort fun x y => decide (x ≤ y)).toArray) os).ownsRow b 3 1 (.slice (some ⟨gb, 0, none⟩) zs.length cap) zs.length ((zs.mergeSort fun x y => decide (x ≤ y)).map encZ) := ownsRow_sorted_i hs.n hbase hgb r1 r2 r3
    have hg := grownBy_sorted_i (w := w) (g := gb) (n := nn) (os := os) (zs.mergeSort fun x y => decide (x ≤ y)).toArray
    refine ⟨rfl, ?_, fun hb k hk => ?_, hg⟩
    · unfold OL
      rw [hs.n]
      exact ho
    · exact hg.block k (by omega) (fun e => by injection e with e; omega)
theorem eg_vals : ∀ args w, (callFunc 121 args).run Tryz.prog w = .ok (.enter 121 args) w := enters_of Tryz.func121 (by kernel_rfl) rfl
set_option maxHeartbeats 1000000 in
theorem sorted_any (hR : L1.Rd w a m zs) (hm : m ≤ 1000000) :
    Calls Tryz.prog 100 #[.func (.func 121) #[] #[.pointer (some ⟨w.heap.size, 0, none⟩)]] (w.alloc (.cells #[.slice a m c] 37)) fun e w' => ∃ v ss, e = .returned v ∧ OL w' w.heap.size v ss ∧ Srd ss zs ∧ Grow (w.alloc (.cells #[.slice a m c] 37)) w' := by
  obtain ⟨W, hW⟩ : ∃ W, W = w.alloc (.cells #[.slice a m c] 37) := ⟨_, rfl⟩
  have gW : Grow w W := by rw [hW]; exact Grow.box _ _
  have hsz : W.heap.size = w.heap.size + 1 := by rw [hW, World.size_alloc]
  have hcell : W.cell? ⟨w.heap.size, 0, none⟩ = some (.slice a m c) := by rw [hW]; exact (Blk.new w 37 [.slice a m c]).cell 0
  rw [← hW]
  have hlm := hR.1
  have HAP := hide (callsIn_wide.1 (app_in 121 #[.pointer (some ⟨w.heap.size, 0, none⟩)] W zs m (fun w1 c1 => vals_stops 4 (by omega) w.heap.size W.heap.size a m c zs hm w1 (by have := c1.size; omega) c1.size ((hR.grow gW).grow c1) (fun h0 x e => by subst e; exact Nat.lt_of_lt_of_le (hR.lt h0) gW.size) (c1.cell hcell)) hm eg_vals))
  have HZ := hide (show zs.length ≤ 1000000 by omega)
  have HSZ := hide hsz
  have HCO : Hid (Calls Tryz.prog 119 #[.func (.func 121) #[] #[.pointer (some ⟨w.heap.size, 0, none⟩)]] W fun e w' => ∃ v, e = .returned v ∧ OL w' W.heap.size v zs ∧ Grow W w') := by
    clear hR hm hW gW hsz hcell hlm
    refine hide ?_
    go_enter Tryz.func119, Tryz.ntmps119
    go_wp2_with fail
    refine HAP.out.mono ?_
    rintro e w2 ⟨v, rfl, hown, hb⟩
    go_wp2
    go_ret
    exact ⟨_, rfl, hown, below_grow hb⟩
  have HGW := hide gW.size
  clear hR hm hW gW hsz hcell hlm HAP
  go_enter Tryz.func100, Tryz.ntmps100
  go_wp2_with fail
  refine HCO.out.mono ?_
  rintro e w2 ⟨v, rfl, hown, hb⟩
  go_wp2_with fail
  refine (sort_own hown HZ.out).mono ?_
  rintro e w3 ⟨rfl, ho3, hk3, hg3⟩
  have HF := hide (show Grow W w3 from ⟨hg3.os.trans hb.os, hg3.tape.trans hb.tape, hg3.output.trans hb.output, Nat.le_trans hb.size hg3.size, fun k hk hn => (hg3.block k (Nat.lt_of_lt_of_le hk hb.size) (fun e => by
    have := (hown.lt k e.symm).1
    omega)).trans (hb.block k hk hn)⟩)
  have HO := hide (OL.lower ho3 (show w.heap.size ≤ W.heap.size by have := HSZ.out; omega))
  clear hown hb ho3 hk3 hg3
  go_wp2
  go_ret
  exact ⟨_, _, rfl, HO.out, srd_sort _, HF.out⟩
set_option maxHeartbeats 1000000 in
theorem bs_any (h : OL w b v ss) (hp : ss.Pairwise (· ≤ ·)) (hn : ss.length ≤ 1000000) (x : Int) :
    Calls Tryz.prog 103 #[v, .int .i64 x] w fun e w' => ∃ r : Int, e = .returned (.tuple #[.int .i64 r, .bool (ss.contains x)]) ∧ Grow w w' := by
  rcases h.2 with ⟨rfl, hz⟩ | ⟨gb, cap, cur, rfl, hbase, hgb, r1, r2, r3, r4⟩
  · obtain rfl : ss = [] := List.eq_nil_of_length_eq_zero hz
    clear h hp hz hn
    go_enter Tryz.func103, Tryz.ntmps103
    go_wp2
    go_loopw [7, 8] (fun a b wr => a = .int .i64 0 ∧ b = .int .i64 0 ∧ w = wr) (fun _ _ _ => 0)
    case atStart => exact ⟨rfl, rfl, rfl⟩
    case round =>
      obtain ⟨rfl, rfl, rfl⟩ := hrel
      go_wp2
      go_ret2
      exact ⟨0, rfl, Chg.refl _ _⟩
  · have hc := Any.slices_BinarySearch_int Tryz.seaV gb 0 ss.length cap ss x w (Nat.le_refl _) (by omega) (fun j hj => by rw [Nat.zero_add]; exact h.cell hj) (by rw [List.take_length]; exact hp)
    change Calls Tryz.prog 103 _ _ _ at hc
    refine hc.mono ?_
    rintro e w' ⟨rfl, q, rfl⟩
    rw [List.take_length]
    exact ⟨_, rfl, (Chg.refl _ _).drewN q⟩
/-- Is a number no 0, and not among some? -/
def sy (zs : List Int) (x : Int) : Bool := decide (x ≠ 0) && !zs.contains x
theorem srd_con (h : Srd ss zs) (x : Int) : ss.contains x = zs.contains x := by
  rw [Bool.eq_iff_iff, List.contains_iff_mem, List.contains_iff_mem, h.m]
set_option maxHeartbeats 1000000 in
theorem stray_any {q : Nat} (hq : w.cell? ⟨q, 0, none⟩ = some v) (h : OL w b v ss) (hs : Srd ss zs) (hn : ss.length ≤ 1000000) (x : Int) :
    Calls Tryz.prog 102 #[.int .i64 x, .pointer (some ⟨q, 0, none⟩)] w fun e w' => e = .returned (.bool (sy zs x)) ∧ Grow w w' := by
  have HB := hide (bs_any h hs.p hn x)
  have HS := hide (show sy zs x = (decide (x ≠ 0) && !(ss.contains x)) by rw [srd_con hs]; rfl)
  obtain ⟨va, vc, hva⟩ := own_len h
  subst hva
  clear h hs hn
  generalize ss.contains x = cc at *
  by_cases h0 : x = 0
  · have q0 : (x != 0) = false := by simpa using h0
    have HE := hide (show sy zs x = false by rw [HS.out]; simp [h0])
    clear h0
    go_enter Tryz.func102, Tryz.ntmps102
    go_wp2_with fail
    refine HB.out.mono ?_
    rintro e w2 ⟨r, rfl, c2⟩
    go_wp2
    go_ret
    exact ⟨ret_bool HE.out.symm, c2⟩
  · have q0 : (x != 0) = true := by simpa using h0
    have HE := hide (show sy zs x = !cc by rw [HS.out]; simp [h0])
    clear h0
    go_enter Tryz.func102, Tryz.ntmps102
    go_wp2_with fail
    refine HB.out.mono ?_
    rintro e w2 ⟨r, rfl, c2⟩
    go_wp2
    go_ret
    exact ⟨ret_bool HE.out.symm, c2⟩
end
end Go.Proofs.YtogfjclmohpjkaaGreatDoor.L15

/- What the calls of package gleaningref01 (the plain arena) do. Conditions: lists of at most 2^40 words. -/
import Derived.Test.YtgknndbahdjghaaL1Mem2
namespace Go.Proofs.Ytgknndbahdjghaa.L1
open Go.ChangeShapes Go.WideShapes Go.ChangeAt Go.RowKit
set_option linter.unusedVariables false

/-- The list '.slice a n _' reads as xs. -/
def Rd (w : World) (a : Option Addr) (n : Nat) (xs : List Int) : Prop :=
  xs.length = n ∧ (0 < n → ∃ x : Addr, a = some x ∧ ∀ i, i < n → w.cell? (x.add i) = some (.int .i64 (xs.getD i 0)))
theorem Rd.at_ {w : World} {a : Option Addr} {n : Nat} {xs : List Int} (h : Rd w a n xs) {i : Nat} (hi : i < n) : ∃ x : Addr, a = some x ∧ w.cell? (x.add i) = some (.int .i64 (xs.getD i 0)) := by
  obtain ⟨x, e, hx⟩ := h.2 (by omega)
  exact ⟨x, e, hx i hi⟩
theorem Rd.of_blk {w : World} {g : Nat} {xs : List Int} {n : Nat} (h : Blk w g 3 (ints xs)) (hn : xs.length = n) : Rd w (some ⟨g, 0, none⟩) n xs :=
  ⟨hn, fun _ => ⟨_, rfl, fun i hi => by rw [addr_add, Nat.zero_add, h.cell, ints_get _ _ (by omega)]⟩⟩
theorem Rd.of_cut {w : World} {g : Nat} {xs : List Int} {a m : Nat} (h : Blk w g 3 (ints xs)) (hn : a + m ≤ xs.length) : Rd w (some ⟨g, a, none⟩) m ((xs.drop a).take m) :=
  ⟨by simp; omega, fun _ => ⟨_, rfl, fun i hi => by
    rw [addr_add, h.cell, ints_get _ _ (by omega)]
    simp [List.getD_eq_getElem?_getD, hi]⟩⟩
theorem Rd.nothing {w : World} {a : Option Addr} : Rd w a 0 [] := ⟨rfl, fun h => absurd h (by omega)⟩

set_option maxHeartbeats 400000 in
theorem same_quiet (a b : Option Addr) (n c d : Nat) (xs : List Int) (w : World) (h1 : Rd w a n xs) (h2 : Rd w b n xs) (hn : n ≤ 1099511627776) :
    Calls Try.prog 16 #[.slice a n c, .slice b n d] w fun e w' => e = .returned (.bool true) ∧ ∃ m, w' = w.drewN m := by
  have H1 := hide h1
  have H2 := hide h2
  clear h1 h2
  go_enter Try.func16, Try.ntmps16
  go_wp2
  go_loopw [13] (fun i wr => ∃ k q : Nat, k ≤ n ∧ i = .int .i64 k ∧ wr = w.drewN q) (fun i _ => n - (intOf i).toNat)
  case atStart => exact ⟨0, 0, Nat.zero_le _, rfl, rfl⟩
  case round =>
    obtain ⟨k, q, hk, rfl, rfl⟩ := hrel
    by_cases hlt : k < n
    · obtain ⟨x, rfl, hx⟩ := H1.out.at_ hlt
      obtain ⟨y, rfl, hy⟩ := H2.out.at_ hlt
      generalize xs.getD k 0 = z at *
      have hi : (k : Int) < n := by omega
      go_wp2
      go_quiet (fail)
      go_wp2
      go_roundw
      case rel => exact ⟨k + 1, _, by omega, by go_num, rfl⟩
      case measure => simp [intOf]; omega
    · go_wp2
      go_ret
      exact ⟨rfl, _, rfl⟩

theorem same_yes (a b : Option Addr) (n c d : Nat) (xs : List Int) (w : World) (h1 : Rd w a n xs) (h2 : Rd w b n xs) (hn : n ≤ 1099511627776) :
    Calls Try.prog 16 #[.slice a n c, .slice b n d] w fun e w' => e = .returned (.bool true) ∧ Chg (fun _ => False) w w' :=
  (same_quiet a b n c d xs w h1 h2 hn).mono fun _ _ ⟨he, m, hm⟩ => ⟨he, by rw [hm]; exact (Chg.refl _ _).drewN _⟩
theorem Rd.drewN {w : World} {a : Option Addr} {n : Nat} {xs : List Int} (h : Rd w a n xs) (k : Nat) : Rd (w.drewN k) a n xs := h

/-- The plain arena in block q has the words xs, which lie in block f. -/
def RAr (w : World) (q f : Nat) (xs : List Int) : Prop :=
  Blk w q 82 [.slice (some ⟨f, 0, none⟩) xs.length xs.length] ∧ Blk w f 3 (ints xs)
theorem RAr.chg {S : Nat → Prop} {w w' : World} {p g : Nat} {xs : List Int} (h : RAr w p g xs) (k : Chg S w w') (hp : ¬ S p) (hg : ¬ S g) : RAr w' p g xs := ⟨h.1.chg k hp, h.2.chg k hg⟩
theorem RAr.ne {w : World} {p g : Nat} {xs : List Int} (h : RAr w p g xs) : p ≠ g := h.1.ne_ h.2 (by decide)
theorem RAr.stored {w : World} {p g : Nat} {xs : List Int} (h : RAr w p g xs) (k : Nat) (v : Int) : RAr (w.setCell ⟨g, k, none⟩ (.int .i64 v)) p g (xs.set k v) :=
  ⟨by rw [List.length_set]; exact h.1.far h.ne _, by rw [← ints_set]; exact h.2.set_ k _⟩
theorem RAr.drewN {w : World} {p g : Nat} {xs : List Int} (h : RAr w p g xs) (n : Nat) : RAr (w.drewN n) p g xs := h
theorem RAr.cell {w : World} {p g : Nat} {xs : List Int} (h : RAr w p g xs) : w.cell? ⟨p, 0, none⟩ = some (.slice (some ⟨g, 0, none⟩) xs.length xs.length) := h.1.cell 0
theorem rar_new (w : World) (n : Nat) : RAr ((w.alloc (.cells (ints (zeros n)).toArray 3)).alloc (.cells #[.slice (some ⟨w.heap.size, 0, none⟩) n n] 82)) (w.heap.size + 1) w.heap.size (zeros n) := by
  refine ⟨?_, (Blk.new w _ _).alloc _⟩
  have := Blk.new (w.alloc (.cells (ints (zeros n)).toArray 3)) 82 [.slice (some ⟨w.heap.size, 0, none⟩) n n]
  rw [zeros_length]
  simpa using this

set_option maxHeartbeats 400000 in
theorem rnew_any (n : Int) (w : World) : Calls Try.prog 29 #[.int .i64 n] w fun e w' => e = .returned (ptr (w.heap.size + 1)) ∧ RAr w' (w.heap.size + 1) w.heap.size (zeros (clamp n)) ∧ Chg (fun _ => False) w w' := by
  by_cases h0 : n < 0
  · have hc : clamp n = 0 := by unfold clamp; omega
    have HC := hide hc
    clear hc
    have hm := mk_ints 0 (by omega) (by omega)
    go_enter Try.func29, Try.ntmps29
    go_wp2
    go_ret
    exact ⟨rfl, by rw [HC.out]; exact rar_new w 0, chg_new w _ _⟩
  · by_cases h1 : n ≤ 4096
    · have hc : clamp n = n.toNat := by unfold clamp; omega
      have HC := hide hc
      clear hc
      have hm := mk_ints n (by omega) (by omega)
      by_cases h2 : n = 0
      · subst h2
        go_enter Try.func29, Try.ntmps29
        go_wp2
        go_ret
        exact ⟨rfl, by rw [HC.out]; exact rar_new w 0, chg_new w _ _⟩
      · have h3 : 0 < n := by omega
        go_enter Try.func29, Try.ntmps29
        go_wp2
        go_ret
        exact ⟨rfl, by rw [HC.out]; exact rar_new w _, chg_new w _ _⟩
    · have hc : clamp n = 4096 := by unfold clamp; omega
      have HC := hide hc
      clear hc
      have hm := mk_ints 4096 (by omega) (by omega)
      go_enter Try.func29, Try.ntmps29
      go_wp2
      go_ret
      exact ⟨rfl, by rw [HC.out]; exact rar_new w 4096, chg_new w _ _⟩

/-- The error's number; the words behind a Store, a Fill, a Move. -/
def er (b : Bool) : Int := if b then 0 else 2
def stL (xs : List Int) (i v : Int) : List Int := if exB xs.length i 1 then xs.set i.toNat v else xs
def fiL (xs : List Int) (i m v : Int) : List Int := if exB xs.length i m then fillTo xs i.toNat v m.toNat else xs
def mvL (xs : List Int) (i j m : Int) : List Int := if exB xs.length i m && exB xs.length j m then splice xs i.toNat ((xs.drop j.toNat).take m.toNat) else xs

end Go.Proofs.Ytgknndbahdjghaa.L1

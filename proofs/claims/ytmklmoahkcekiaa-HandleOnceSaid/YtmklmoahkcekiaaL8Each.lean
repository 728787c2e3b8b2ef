/- Tables of handles: what Each does to a table, by whatever function it is passed whose calls are known; of the nil table and of no function, too. Conditions: a slot was used at most 1000000 times. -/
import Derived.Test.YtmklmoahkcekiaaL8Awake
namespace Go.Proofs.Ytmklmoahkcekiaa.L8
open Go.ChangeShapes Go.WideShapes Go.ChangeAt Go.RowKit
set_option linter.unusedVariables false

/-- The taken slots below n, in order. -/
def ix (S : Nat → Sl) (n : Nat) : List Nat := (List.range n).filter fun i => (S i).t
theorem hs_ix (S : Nat → Sl) (n : Nat) : hs S n = (ix S n).map fun i => (hd S i : Int) := by
  induction n with
  | zero => rfl
  | succ n ih =>
    unfold hs ix
    rw [List.range_succ, List.filter_append]
    cases h : (S n).t <;> simp [h, ih, ix]
theorem ix_mem {S : Nat → Sl} {n i : Nat} : i ∈ ix S n ↔ i < n ∧ (S i).t = true := by simp [ix]
theorem ix_lt (S : Nat → Sl) (n : Nat) : (ix S n).Pairwise (· < ·) := List.Pairwise.filter _ List.pairwise_lt_range
theorem ix_length (S : Nat → Sl) (n : Nat) : (ix S n).length ≤ n := by
  have := List.length_filter_le (fun i => (S i).t) (List.range n)
  simpa [ix] using this
theorem hs_len (S : Nat → Sl) (n : Nat) : (hs S n).length = (ix S n).length := by rw [hs_ix, List.length_map]
/-- The k-th of them. -/
theorem ix_at {S : Nat → Sl} {n k : Nat} (h : k < (ix S n).length) : ∃ i, (ix S n)[k]? = some i ∧ i < n ∧ (S i).t = true ∧ (hs S n).getD k 0 = (hd S i : Int) ∧ (ix S n).take (k + 1) = (ix S n).take k ++ [i] ∧ i ∉ (ix S n).take k := by
  have hm := ix_mem.1 (List.getElem_mem h)
  refine ⟨(ix S n)[k], List.getElem?_eq_getElem h, hm.1, hm.2, ?_, (List.take_append_getElem h).symm, fun hx => ?_⟩
  · rw [hs_ix]
    simp [h]
  · obtain ⟨j, hj, e⟩ := List.getElem_of_mem hx
    rw [List.getElem_take] at e
    have hjk : j < k := by simp at hj; omega
    have := List.pairwise_iff_getElem.1 (ix_lt S n) j k (by omega) h hjk
    omega
/-- The table when the first k values have been changed. -/
def stt (g : Int → Int) (S : Nat → Sl) (k : Nat) : Nat → Sl := fun i => if i ∈ (ix S 64).take k then ⟨(S i).e, (S i).t, g (S i).v⟩ else S i
theorem stt_zero (g : Int → Int) (S : Nat → Sl) : stt g S 0 = S := by
  funext i
  simp [stt]
theorem stt_e (g : Int → Int) (S : Nat → Sl) (k i : Nat) : (stt g S k i).e = (S i).e := by unfold stt; split <;> rfl
theorem stt_t (g : Int → Int) (S : Nat → Sl) (k i : Nat) : (stt g S k i).t = (S i).t := by unfold stt; split <;> rfl
theorem stt_not {g : Int → Int} {S : Nat → Sl} {k i : Nat} (h : i ∉ (ix S 64).take k) : stt g S k i = S i := if_neg h
theorem stt_succ {g : Int → Int} {S : Nat → Sl} {k i : Nat} (h1 : (ix S 64).take (k + 1) = (ix S 64).take k ++ [i]) (h2 : i ∉ (ix S 64).take k) :
    stt g S (k + 1) = upd (stt g S k) i { stt g S k i with v := g (S i).v } := by
  funext j
  rw [stt_not h2]
  unfold upd stt
  rw [h1]
  by_cases hji : j = i
  · subst hji
    simp
  · simp [hji]
theorem stt_all (g : Int → Int) (S : Nat → Sl) {k : Nat} (hk : (ix S 64).length ≤ k) : stt g S k = fun i => if i < 64 ∧ (S i).t = true then ⟨(S i).e, (S i).t, g (S i).v⟩ else S i := by
  funext i
  unfold stt
  rw [List.take_of_length_le hk]
  simp only [ix_mem]
theorem stt_own {g : Int → Int} {S : Nat → Sl} {k i : Nat} {x : Int} (h : Of S i x) : Of (stt g S k) i x := by
  refine ⟨h.1, by rw [stt_t]; exact h.2.1, ?_⟩
  have := h.2.2
  unfold hd at this ⊢
  rw [stt_e]
  exact this
theorem stt_bd {g : Int → Int} {S : Nat → Sl} {k n : Nat} (h : Bd S n) : Bd (stt g S k) n := fun i hi => by rw [stt_e]; exact h i hi

theorem ix_stt (g : Int → Int) (S : Nat → Sl) (k n : Nat) : ix (stt g S k) n = ix S n := by
  unfold ix
  congr 1
  funext i
  rw [stt_t]
theorem stt_v {g : Int → Int} {S : Nat → Sl} {i : Nat} (hi : i < 64) (ht : (S i).t = true) : (stt g S (ix S 64).length i).v = g (S i).v := by
  rw [stt_all g S (Nat.le_refl _)]
  simp [hi, ht]
theorem fn_nil (w : World) : (binOp BinOp.eql 39 .nilFunc .nilFunc).run Try.prog w = .ok (.bool true) w := by kernel_rfl
theorem fn_some (fid : Nat) (caps : Array Value) (w : World) : (binOp BinOp.eql 39 (.func (.func fid) #[] caps) .nilFunc).run Try.prog w = .ok (.bool false) w := by kernel_rfl
theorem each_none (w : World) (pv : Value) : Calls Try.prog 17 #[pv, .nilFunc] w fun e w' => e = .returned (.tuple #[]) ∧ w = w' := by
  have qf := fn_nil
  go_enter Try.func17, Try.ntmps17
  go_wp2
  go_returns
  exact ⟨rfl, rfl⟩
theorem each_nil (w : World) (fid : Nat) (caps : Array Value) : Calls Try.prog 17 #[.pointer none, .func (.func fid) #[] caps] w fun e w' => e = .returned (.tuple #[]) ∧ Grow w w' := by
  have qf := fn_some fid caps
  go_enter Try.func17, Try.ntmps17
  go_wp2_with fail
  refine (all_none _).mono ?_
  rintro e w1 ⟨v, rfl, hown, c⟩
  obtain ⟨oa, ocap, rfl⟩ := own_len hown
  clear hown
  go_wp2
  go_loop [13] (fun k => k = .int .i64 0) (fun k => 0)
  case atStart => exact rfl
  case round =>
    obtain rfl := hrel
    go_wp2
    go_returns
    exact ⟨rfl, c⟩
end Go.Proofs.Ytmklmoahkcekiaa.L8

/- Sets of queues: what was ever put in, rising; Rename: the names that are asked for. Conditions: at most 1000000 things; the function that is passed only makes memory. -/
import Derived.Test.YtgaoodjlcjmomaaL12Shelf
import Derived.Test.YtgaoodjlcjmomaaL12All
namespace Go.Proofs.Ytgaoodjlcjmomaa.L12
open Go.ChangeShapes Go.WideShapes Go.ChangeAt Go.RowKit Go.Maps Go.Sort Go.Shelf
set_option linter.unusedVariables false

theorem sortsQ (m : Nat) : AnyZI.SortsIn Try.prog Try.sortedQ_ren Fence.wide m :=
  ⟨fun blk off cap ss W hH hblk hsz => callsIn_wide.2 (AnyM.slices_Sort_int Try.sortQ blk off cap ss W hH hblk hsz),
   fun p cap W => callsIn_wide.2 (AnyM.slices_Sort_int_none Try.sortQ p cap W)⟩
theorem Chg.of_b {w w' : World} (h : Below w.heap.size w w') : Grow w w' := Chg.of_below h fun _ hi hn => hn hi
section
variable {w w' W : World} {z p n m i : Nat} {S T : Nat → Prop} {v : Nat → Value} {Q : Nat → List Int} {E : List Int} {x q : Int} {mv : Value}
theorem mem_keys {f : Int → Option Unit} {D : DataW Unit} (h1 : w.ownsMap Try.prog 3 eU.R m (Maps.size D) D) (h2 : Says eU D f) : x ∈ intKeys D ↔ f x ≠ none := by
  have hx : x ∈ intKeys D ↔ has D (.int .i64 x) = true := by
    obtain ⟨es, hD, hpw, _⟩ := h1.entries keyI
    obtain ⟨es', hD', hko⟩ := h1.keysOf
    obtain rfl : es = es' := by rw [hD] at hD'; simpa using hD'
    subst hD
    have hkey : ∀ q ∈ es, ∃ y, q.1 = .int .i64 y := fun q hq => by
      obtain ⟨v, hv⟩ := hko q hq
      obtain ⟨y, _, hy, _⟩ := Maps.keyOf_i64 Try.underlying3 hv
      exact ⟨y, hy⟩
    rw [has_eq, List.any_eq_true]
    show (x ∈ es.map fun q => _root_.Go.intOf q.1) ↔ _
    rw [List.mem_map]
    constructor
    · rintro ⟨q, hq, e⟩
      obtain ⟨y, hy⟩ := hkey q hq
      refine ⟨q, hq, ?_⟩
      rw [hy] at e ⊢
      rw [strikes]
      simpa [_root_.Go.intOf] using e
    · rintro ⟨q, hq, e⟩
      obtain ⟨y, hy⟩ := hkey q hq
      refine ⟨q, hq, ?_⟩
      rw [hy] at e ⊢
      rw [strikes] at e
      simpa [_root_.Go.intOf] using e
  rw [hx]
  cases hf : f x with
  | none => rw [(h2 x).2 hf]; simp
  | some b => rw [((h2 x).1 b hf).1]; simp
theorem keys_any (mb : Option Nat) (w : World) : Calls Try.prog 32 #[.map mb] w fun e w' => e = .returned (.func (.func 37) #[] #[.pointer (some ⟨w.heap.size, 0, none⟩)]) ∧ w' = w.alloc (.cells #[.map mb] 27) :=
  (callsIn_wide (n := 6)).1 (AnyZI.keys_in Try.keysQ Fence.wide 6 trivial rfl mb w)
set_option maxRecDepth 100000 in
set_option maxHeartbeats 1000000 in
/-- slices.Sorted of the keys. -/
theorem sorted_any (h : Ev w mv E) (hb : E.length < 1000000) (mb : Option Nat) (hmb : mv = .map mb) :
    Calls Try.prog 31 #[.func (.func 37) #[] #[.pointer (some ⟨w.heap.size, 0, none⟩)]] (w.alloc (.cells #[.map mb] 27)) fun e w' => ∃ a c xs, e = .returned (.slice a xs.length c) ∧ QL w' (w.heap.size + 1) (.slice a xs.length c) xs ∧ Grow (w.alloc (.cells #[.map mb] 27)) w' ∧ (∀ x, x ∈ xs ↔ x ∈ E) ∧ xs.length < 1000000 := by
  have hsz : (w.alloc (.cells #[.map mb] 27)).heap.size = w.heap.size + 1 := by simp
  refine (callsIn_wide (n := 6)).1 ?_
  rcases h with ⟨rfl, rfl⟩ | ⟨m, n, rfl, ⟨D, ho, hk, hn⟩, hnE⟩
  · obtain rfl : mb = none := by injection hmb with e; exact e.symm
    have hseq : SeqGives Fence.wide 3 Try.prog 37 #[.pointer (some ⟨w.heap.size, 0, none⟩)] encZ (fun ss : List Int => ss = []) 0 (w.alloc (.cells #[.map none] 27)) :=
      AnyZI.keys_gives_nil (ρ := Try.keysQ_ren) { Try.keysQ with } Fence.wide 3 trivial rfl w.heap.size _ (by simp) (by simp)
    have cS := AnyZI.sorted_in Try.sortedQ Fence.wide 6 trivial trivial trivial trivial rfl (by omega) (sortsQ _) (enters_of Try.func36 (by kernel_rfl) rfl) 37 #[.pointer (some ⟨w.heap.size, 0, none⟩)] trivial (enters_of Try.func37 (by kernel_rfl) rfl) _ _ (by unfold maxLen; omega) (by omega) _ hseq
    refine cS.mono ?_
    rintro e w' ⟨v, ss, rfl, rfl, hrow, hnil, hbl⟩
    exact ⟨none, 0, [], by rw [hnil.2 rfl]; rfl, ql_nil _ _, Chg.of_b hbl, fun x => Iff.rfl, by simp⟩
  · obtain rfl : mb = some m := by injection hmb with e; exact e.symm
    have hbl := ho.lt
    have hseq : SeqGives Fence.wide 3 Try.prog 37 #[.pointer (some ⟨w.heap.size, 0, none⟩)] encZ (fun ss => ss.Perm (intKeys D)) (Maps.size D) (w.alloc (.cells #[.map (some m)] 27)) :=
      AnyZI.keys_gives (ρ := Try.keysQ_ren) { Try.keysQ with } Fence.wide _ trivial rfl (by omega) w.heap.size m (Maps.size D) D _ (by simp) (by simp) (by
        obtain ⟨es, clock, hb, Ft, hs, hD⟩ := ho
        exact ⟨es, clock, (Below.heap_alloc _ _ m hbl).trans hb, Ft, hs, hD⟩)
    have cS := AnyZI.sorted_in Try.sortedQ Fence.wide 6 trivial trivial trivial trivial rfl (by omega) (sortsQ _) (enters_of Try.func36 (by kernel_rfl) rfl) 37 #[.pointer (some ⟨w.heap.size, 0, none⟩)] trivial (enters_of Try.func37 (by kernel_rfl) rfl) _ _ (by unfold maxLen; omega) (by omega) _ hseq
    refine cS.mono ?_
    rintro e w' ⟨v, ss, rfl, hS, hrow, hnil, hbl⟩
    have hps := List.mergeSort_perm ss (fun x y => decide (x ≤ y))
    have hrow' : w'.ownsRow (w.heap.size + 1) 3 1 v (ss.mergeSort (fun x y => decide (x ≤ y))).length (ints (ss.mergeSort (fun x y => decide (x ≤ y)))) := by
      rw [hps.length_eq, ← hsz]
      exact hrow
    have hql := own_ql hrow'
    obtain ⟨a, c, e, -⟩ := hql.form
    refine ⟨a, c, _, by rw [e], by rw [← e]; exact hql, Chg.of_b hbl, fun x => ?_, ?_⟩
    · rw [hps.mem_iff, hS.mem_iff, mem_keys ho hk]
      by_cases e : x ∈ E <;> simp [e]
    · rw [hps.length_eq, hS.length_eq, keys_size]; omega
end
end Go.Proofs.Ytgaoodjlcjmomaa.L12

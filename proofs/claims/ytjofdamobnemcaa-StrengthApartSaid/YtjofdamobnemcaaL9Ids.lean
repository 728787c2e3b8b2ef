/- Graphs: Ids: the names, rising. Conditions: a graph has fewer than 1000000 nodes. -/
import Derived.Test.YtjofdamobnemcaaL9Shelf
import Derived.Test.YtjofdamobnemcaaL9Call
namespace Go.Proofs.Ytjofdamobnemcaa.L9
open Go.ChangeShapes Go.WideShapes Go.ChangeAt Go.RowKit Go.Maps Go.Sort Go.Shelf
open Go.Proofs.Ytjofdamobnemcaa.L5 (Cl clV rtB Tb clAt shX shR shD woV hoB IsCls newX isRf)
set_option linter.unusedVariables false

theorem sortsA (m : Nat) : AnyZI.SortsIn Try.prog Try.sortedA_ren Fence.wide m :=
  ⟨fun blk off cap ss W hH hblk hsz => callsIn_wide.2 (AnyM.slices_Sort_int Try.sortA blk off cap ss W hH hblk hsz),
   fun p cap W => callsIn_wide.2 (AnyM.slices_Sort_int_none Try.sortA p cap W)⟩
theorem Chg.of_b {w w' : World} (h : Below w.heap.size w w') : Grow w w' := Chg.of_below h fun _ hi hn => hn hi
section
variable {w : World} {z p m tb : Nat} {S : Nat → Prop} {f : Int → Option Nat} {ow : Nat → Int} {cs : List Cl} {L : List Nd}
theorem sort_of {ss ids : List Int} (h : ss.Perm ids) (hs : ids.Pairwise (· < ·)) : ss.mergeSort (fun x y => decide (x ≤ y)) = ids := by
  have h1 : (ss.mergeSort (fun x y => decide (x ≤ y))).Pairwise (fun x y => decide (x ≤ y) = true) := List.pairwise_mergeSort (fun a b c => by simp; omega) (fun a b => by simp; omega) ss
  refine List.Perm.eq_of_pairwise (le := fun x y => x ≤ y) (fun a b _ _ h1 h2 => by omega) (h1.imp (by intro a b h; simpa using h)) (hs.imp fun h => by omega) ((List.mergeSort_perm _ _).trans h)
set_option maxRecDepth 100000 in
set_option maxHeartbeats 1000000 in
theorem ids_any (h : Gr w z S p m tb f ow cs L) (hl : L.length < 1000000) :
    Calls Try.prog 69 #[ptr p] w fun e w' => ∃ v, e = .returned v ∧ w'.ownsRow w.heap.size 3 1 v L.length (ints (L.map Nd.id)) ∧ Grow w w' := by
  obtain ⟨D, ho, hk⟩ := h.map
  have hbl := ho.lt
  have hp := Mn.size_lt ⟨D, ho, hk⟩ h.f_iff (srt_nodup h.srt) ho hk
  have hsz : Maps.size D = L.length := by rw [← keys_size, ← hp.length_eq]; simp
  have HG := hide h
  refine (callsIn_wide (n := 6)).1 ?_
  have hseq : SeqGives Fence.wide 2 Try.prog 80 #[.pointer (some ⟨w.heap.size, 0, none⟩)] encZ (fun ss => ss.Perm (intKeys D)) (Maps.size D) (w.alloc (.cells #[.map (some m)] 76)) :=
    AnyZI.keys_gives (ρ := Try.keysA_ren) { Try.keysA with } Fence.wide _ trivial rfl (by omega) w.heap.size m (Maps.size D) D _ (by simp) (by simp) (by
      obtain ⟨es, clock, hb, Ft, hs, hD⟩ := ho
      exact ⟨es, clock, (Below.heap_alloc _ _ m hbl).trans hb, Ft, hs, hD⟩)
  have cK : ∀ mb W, CallsIn Fence.wide 5 Try.prog 78 #[.map mb] W fun e w' => e = .returned (.func (.func 80) #[] #[.pointer (some ⟨W.heap.size, 0, none⟩)]) ∧ w' = W.alloc (.cells #[.map mb] 76) := fun mb W => AnyZI.keys_in Try.keysA Fence.wide 5 trivial rfl mb W
  have cA : CallsIn Fence.wide 5 Try.prog 35 #[ptr p] w fun e w' => e = .returned (.map (some m)) ∧ w = w' := callsIn_wide.2 (all_g h)
  have cS := AnyZI.sorted_in Try.sortedA Fence.wide 5 trivial trivial trivial trivial rfl (by omega) (sortsA _) (enters_of Try.func37 (by kernel_rfl) rfl) 80 #[.pointer (some ⟨w.heap.size, 0, none⟩)] trivial (enters_of Try.func80 (by kernel_rfl) rfl) _ _ (by rw [hsz]; unfold maxLen; omega) (by rw [hsz]; omega) _ hseq
  clear h hseq ho hk
  change CallsIn _ _ Try.prog 21 _ _ _ at cS
  have hfK : Fence.wide.fn 78 := trivial
  have hfS : Fence.wide.fn 21 := trivial
  have hfA : Fence.wide.fn 35 := trivial
  refine callsIn_of_wp Try.func69 rfl trivial ?_ rfl
  simp only [Try.ntmps69, List.size_toArray, List.length_cons, List.length_nil, Nat.reduceAdd, Nat.reduceSub, Array.replicate_succ, Array.replicate_zero, List.push_toArray, List.append_toArray, List.nil_append, List.cons_append]
  gi_wp2_with (first
    | (gi_at_call 35; refine cA.mono ?_; rintro e w' ⟨rfl, rfl⟩)
    | (gi_at_call 78; refine (cK _ _).mono ?_; rintro e w' ⟨rfl, rfl⟩)
    | (gi_at_call 21; refine cS.mono ?_; rintro e w' ⟨v, ss, rfl, hS, hrow, hnil, hb⟩))
  go_ret
  have hpp := hS.trans hp.symm
  have hln : ss.length = L.length := by rw [hpp.length_eq]; simp
  have hsr := sort_of hpp (List.pairwise_map.2 HG.out.srt)
  rw [hsr, hln] at hrow
  exact ⟨v, rfl, ownsRow_base_a hrow (by simp), (Grow.box _ _).trans (Chg.of_b hb)⟩
end
end Go.Proofs.Ytjofdamobnemcaa.L9

/- Graphs: what a nil one answers. Conditions: fewer than 1000000 numbers are named to Keep. -/
import Derived.Test.YtcinielgigdhmaaL9Keep
import Derived.Test.YtcinielgigdhmaaL9Ids
import Derived.Test.YtcinielgigdhmaaL9Node
namespace Go.Proofs.Ytcinielgigdhmaa.L9
open Go.ChangeShapes Go.WideShapes Go.ChangeAt Go.RowKit Go.Maps Go.Sort Go.Shelf
open Go.Proofs.Ytcinielgigdhmaa.L5 (Cl clV rtB Tb clAt shX shR shD woV hoB IsCls newX isRf)
set_option linter.unusedVariables false
theorem nil_look (w : World) (i : Int) (hi : In64 i) : (Instr.lookup 74 (.map none) (.int .i64 i) false).run Try.prog w = .ok (.pointer none) w := by
  kernel_rfl
section
variable {w : World} {i : Int}
theorem nil_node (hi : In64 i) : Calls Try.prog 31 #[.pointer none, .int .i64 i] w fun e w' => e = .returned (.tuple #[.agg #[.int .i64 0, .int .i64 0, .slice none 0 0, .slice none 0 0, .bool false], .int .i64 7]) ∧ Grow w w' := by
  have g0 := Grow.box w (.cells noNd.toArray 45)
  have hl := fun w => nil_look w i hi
  go_enter Try.func31, Try.ntmps31
  go_wp2_with fail
  refine (all_nil _).mono ?_
  rintro e w' ⟨rfl, rfl⟩
  go_wp2
  go_returns
  exact ⟨rfl, g0⟩
theorem nil_aim (hi : In64 i) : Calls Try.prog 34 #[.pointer none, .int .i64 i] w fun e w' => e = .returned (.tuple #[.int .i64 0, .int .i64 0]) ∧ Grow w w' := by
  have hl := fun w => nil_look w i hi
  go_enter Try.func34, Try.ntmps34
  go_wp2_with fail
  refine (all_nil _).mono ?_
  rintro e w' ⟨rfl, rfl⟩
  go_wp2_with fail
  refine wp_region_grow (by kernel_rfl) (by kernel_rfl) ?_
  repeat (
    with_reducible refine wpQuiet_step ?_
    intro K hK
    first
      | ((with_reducible refine quiet_offT rfl ?_ (hK _ ?_)); focus (refine ⟨_, rfl, ?_⟩; with_reducible rfl))
      | ((with_reducible refine quiet_offF rfl ?_ (hK _ ?_)); focus (refine ⟨_, rfl, ?_⟩; with_reducible rfl))
      | ((with_reducible refine quiet_offN rfl ?_ (hK _ ?_)); focus (exact rfl))
      | ((first | with_reducible refine quiet_free rfl ?_ | ((with_reducible refine quiet_on rfl ?_ ?_); focus (refine ⟨_, rfl, ?_⟩; with_reducible rfl)))
         apply Exists.intro
         refine ⟨fun Wq hW => ?_, hK _ ?_⟩
         focus (go_simp; first | done | with_reducible rfl))
    clear hK K
    simp only [Act.put, List.setIfInBounds_toArray, List.set_cons_zero, List.set_cons_succ])
  with_reducible refine wpQuiet_nil ?_
  intro w5 c5
  go_wp2
  go_returns
  exact ⟨rfl, c5⟩
theorem nil_add (c l : Int) : Calls Try.prog 14 #[.pointer none, .int .i64 i, .int .i64 c, .int .i64 l] w fun e w' => e = .returned (.int .i64 4) ∧ w = w' := by
  go_enter Try.func14, Try.ntmps14
  go_wp2
  go_ret
  exact ⟨rfl, rfl⟩
theorem nil_setref (hi : In64 i) (k t : Int) : Calls Try.prog 16 #[.pointer none, .int .i64 i, .int .i64 k, .int .i64 t] w fun e w' => e = .returned (.int .i64 7) ∧ w = w' := by
  have hl := fun w => nil_look w i hi
  go_enter Try.func16, Try.ntmps16
  go_wp2_with fail
  refine (all_nil _).mono ?_
  rintro e w' ⟨rfl, rfl⟩
  go_wp2
  go_ret
  exact ⟨rfl, rfl⟩
theorem nil_setnum (hi : In64 i) (k t : Int) : Calls Try.prog 18 #[.pointer none, .int .i64 i, .int .i64 k, .int .i64 t] w fun e w' => e = .returned (.int .i64 7) ∧ w = w' := by
  have hl := fun w => nil_look w i hi
  go_enter Try.func18, Try.ntmps18
  go_wp2_with fail
  refine (all_nil _).mono ?_
  rintro e w' ⟨rfl, rfl⟩
  go_wp2
  go_ret
  exact ⟨rfl, rfl⟩
theorem nil_done (hi : In64 i) : Calls Try.prog 21 #[.pointer none, .int .i64 i] w fun e w' => e = .returned (.int .i64 7) ∧ w = w' := by
  have hl := fun w => nil_look w i hi
  go_enter Try.func21, Try.ntmps21
  go_wp2_with fail
  refine (all_nil _).mono ?_
  rintro e w' ⟨rfl, rfl⟩
  go_wp2
  go_ret
  exact ⟨rfl, rfl⟩
theorem nil_holds (hi : In64 i) : Calls Try.prog 35 #[.pointer none, .int .i64 i] w fun e w' => e = .returned (.slice none 0 0) ∧ w = w' := by
  have hl := fun w => nil_look w i hi
  go_enter Try.func35, Try.ntmps35
  go_wp2_with fail
  refine (all_nil _).mono ?_
  rintro e w' ⟨rfl, rfl⟩
  go_wp2
  go_ret
  exact ⟨rfl, rfl⟩
theorem nil_words (w : World) : Calls Try.prog 28 #[.pointer none] w fun e w' => e = .returned (.int .i64 0) ∧ Grow w w' := by
  have hrg := run_range_nilMap (P := Try.prog) w 74 3 79 Try.underlying74
  have hnx : ∀ ty, (Instr.next (.pointer (some ⟨w.heap.size, 0, none⟩)) false ty).run Try.prog (w.alloc (.mapIter none 0 #[] 0)) = _ := fun ty => run_next_nilMap w ty 0 0 #[]
  have hg := Grow.box w (.mapIter none 0 #[] 0)
  go_enter Try.func28, Try.ntmps28
  go_wp2_with fail
  refine (all_nil _).mono ?_
  rintro e w' ⟨rfl, rfl⟩
  go_wp2
  refine wp_loop_rounds 1 ?_
  rw [rounds_succ]
  go_wp2
  go_ret
  exact ⟨rfl, hg⟩
theorem nil_forget (w : World) : Calls Try.prog 44 #[.pointer none] w fun e w' => e = .returned (.tuple #[]) ∧ Grow w w' := by
  have hrg := run_range_nilMap (P := Try.prog) w 74 3 79 Try.underlying74
  have hnx : ∀ ty, (Instr.next (.pointer (some ⟨w.heap.size, 0, none⟩)) false ty).run Try.prog (w.alloc (.mapIter none 0 #[] 0)) = _ := fun ty => run_next_nilMap w ty 0 0 #[]
  have hg := Grow.box w (.mapIter none 0 #[] 0)
  go_enter Try.func44, Try.ntmps44
  go_wp2_with fail
  refine (all_nil _).mono ?_
  rintro e w' ⟨rfl, rfl⟩
  go_wp2
  refine wp_loop_rounds 1 ?_
  rw [rounds_succ]
  go_wp2
  go_end0
  exact ⟨rfl, hg⟩
set_option maxRecDepth 100000 in
set_option maxHeartbeats 1000000 in
theorem nil_ids (w : World) : Calls Try.prog 26 #[.pointer none] w fun e w' => e = .returned (.slice none 0 0) ∧ Grow w w' := by
  refine (callsIn_wide (n := 6)).1 ?_
  have hseq : SeqGives Fence.wide 2 Try.prog 58 #[.pointer (some ⟨w.heap.size, 0, none⟩)] encZ (fun ss : List Int => ss = []) 0 (w.alloc (.cells #[.map none] 74)) :=
    AnyZI.keys_gives_nil (ρ := Try.keysA_ren) { Try.keysA with } Fence.wide _ trivial rfl w.heap.size _ (by simp) (by simp)
  have cK : ∀ mb W, CallsIn Fence.wide 5 Try.prog 48 #[.map mb] W fun e w' => e = .returned (.func (.func 58) #[] #[.pointer (some ⟨W.heap.size, 0, none⟩)]) ∧ w' = W.alloc (.cells #[.map mb] 74) := fun mb W => AnyZI.keys_in Try.keysA Fence.wide 5 trivial rfl mb W
  have cA : CallsIn Fence.wide 5 Try.prog 43 #[.pointer none] w fun e w' => e = .returned (.map none) ∧ w = w' := callsIn_wide.2 (all_nil w)
  have cS := AnyZI.sorted_in Try.sortedA Fence.wide 5 trivial trivial trivial trivial rfl (by omega) (sortsA _) (enters_of Try.func57 (by kernel_rfl) rfl) 58 #[.pointer (some ⟨w.heap.size, 0, none⟩)] trivial (enters_of Try.func58 (by kernel_rfl) rfl) _ 0 (Nat.zero_le _) (by omega) _ hseq
  change CallsIn _ _ Try.prog 47 _ _ _ at cS
  have hfK : Fence.wide.fn 48 := trivial
  have hfS : Fence.wide.fn 47 := trivial
  have hfA : Fence.wide.fn 43 := trivial
  refine callsIn_of_wp Try.func26 rfl trivial ?_ rfl
  simp only [Try.ntmps26, List.size_toArray, List.length_cons, List.length_nil, Nat.reduceAdd, Nat.reduceSub, Array.replicate_succ, Array.replicate_zero, List.push_toArray, List.append_toArray, List.nil_append, List.cons_append]
  gi_wp2_with (first
    | (gi_at_call 43; refine cA.mono ?_; rintro e w' ⟨rfl, rfl⟩)
    | (gi_at_call 48; refine (cK _ _).mono ?_; rintro e w' ⟨rfl, rfl⟩)
    | (gi_at_call 47; refine cS.mono ?_; rintro e w' ⟨v, ss, rfl, rfl, hrow, hnil, hb⟩; obtain rfl : v = .slice none 0 0 := hnil.2 rfl))
  go_ret
  exact ⟨rfl, (Grow.box _ _).trans (Chg.of_b hb)⟩
set_option maxRecDepth 100000 in
set_option maxHeartbeats 1000000 in
theorem nil_keep {zs : List Int} {a : Option Addr} {len cap : Nat} (ha : IsRow .i64 w a len cap zs) (hlen : len < 1000000) :
    Calls Try.prog 22 #[.pointer none, .slice a len cap] w fun e w' => e = .returned (.int .i64 0) ∧ Grow w w' := by
  have HA := hide ha
  have HL := hide hlen
  have hmm := @run_makeMap Try.prog
  clear ha hlen
  go_enter Try.func22, Try.ntmps22
  go_wp2_with fail
  refine (all_nil _).mono ?_
  rintro e w' ⟨rfl, rfl⟩
  have HS0 := hide (Su.made w)
  have HB0 := hide (Grow.box w (.map #[] 0))
  go_wp2_with fail
  go_loopw [18] (fun c wr => ∃ k : Nat, k ≤ len ∧ c = .int .i64 k ∧ Su wr w.heap.size k (hasB (zs.take k)) ∧ Grow w wr) (fun c _ => len - (Go.RowKit.intOf c).toNat)
  case atStart => exact ⟨0, Nat.zero_le _, rfl, HS0.out, HB0.out⟩
  case round =>
    obtain ⟨k, hk, rfl, hS, hgw⟩ := hrel
    rcases Nat.eq_or_lt_of_le hk with rfl | hlt
    · have q1 : decide ((k : Int) < k) = false := by simp
      have hrg := run_range_nilMap (P := Try.prog) wr 74 3 79 Try.underlying74
      have hnx : ∀ ty, (Instr.next (.pointer (some ⟨wr.heap.size, 0, none⟩)) false ty).run Try.prog (wr.alloc (.mapIter none 0 #[] 0)) = _ := fun ty => run_next_nilMap wr ty 0 0 #[]
      have HGW := hide (hgw.alloc (.mapIter none 0 #[] 0))
      clear hS hgw HS0 HB0 hk
      go_wp2
      refine wp_loop_rounds 1 ?_
      rw [rounds_succ]
      go_wp2_with fail
      refine (nil_forget _).mono ?_
      rintro e w9 ⟨rfl, g9⟩
      go_wp2
      go_ret
      exact ⟨rfl, HGW.out.trans g9⟩
    · have q1 : decide ((k : Int) < len) = true := by simp; omega
      have hzl : zs.length = len := HA.out.1
      obtain ⟨ax, rfl, hc, hwf⟩ := HA.out.at_ hlt
      have xk := Grow.cell hgw hc
      obtain ⟨w2, hput, hS2, hc2⟩ := hS.put hwf (by have := HL.out; unfold maxLen; omega)
      have HST := hide (hasB_step zs k (by omega))
      have HK := hide hlt
      have hw : IntKind.i64.wrap ((k : Int) + 1) = ((k + 1 : Nat) : Int) := (IntWalk.i64_in _ (by have := HL.out; omega)).trans (by omega)
      have HR := hide (And.intro hS2 (show Grow w w2 from hgw.step hc2 fun i hi e => by omega))
      clear hS hgw hS2 hc2 hc hwf hzl HS0 HB0
      generalize zs.getD k 0 = q at *
      go_wp2
      go_roundw
      case rel => exact ⟨k + 1, HK.out, rfl, by rw [HST.out]; exact HR.out.1, HR.out.2⟩
      case measure => have := HK.out; simp [Go.RowKit.intOf]; omega
end
end Go.Proofs.Ytcinielgigdhmaa.L9

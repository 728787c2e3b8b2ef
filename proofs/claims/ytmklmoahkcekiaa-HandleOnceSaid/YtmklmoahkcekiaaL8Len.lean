/- Tables of handles: Len, and All by slices.Collect and AppendSeq. Conditions: a slot was used at most 1000000 times. -/
import Derived.Test.YtmklmoahkcekiaaL8Seq
namespace Go.Proofs.Ytmklmoahkcekiaa.L8
open Go.ChangeShapes Go.WideShapes Go.ChangeAt Go.RowKit Go.Shelf
set_option linter.unusedVariables false
attribute [local go_sem] Oper.semAt_some

set_option maxRecDepth 100000 in
set_option maxHeartbeats 2000000 in
theorem len_in (a : Option Addr) (w : World) (l : List Int) (N : Nat)
    (hs : ∀ w1 : World, Grow w w1 → w.heap.size + 1 < w1.heap.size → w1.cell? ⟨w.heap.size + 1, 0, none⟩ = some (.pointer a) →
      SeqStopsK Fence.wide 4 Try.prog 31 #[.pointer (some ⟨w.heap.size + 1, 0, none⟩)] (fun x : Int => #[Value.int .i64 x]) (Below w.heap.size) (fun ys => ys = l) (fun _ => True) N w1) (hN : N ≤ 64) :
    CallsIn Fence.wide 5 Try.prog 19 #[.pointer a] w fun e W' => e = .returned (.int .i64 (l.length : Int)) ∧ Below w.heap.size w W' := by
  have HS := hide hs
  clear hs
  have t1 : Fence.wide.fn 29 := trivial
  have h1 : 1 ≤ 5 := by omega
  refine callsIn_of_wp_marks Try.func19 rfl trivial ?_ rfl
  simp only [Try.ntmps19, List.size_toArray, List.length_cons, List.length_nil, Nat.reduceAdd, Nat.reduceSub, Array.replicate_succ, Array.replicate_zero, List.push_toArray, List.append_toArray, List.nil_append, List.cons_append]
  gi_wp2_with (gi_at_call 29; refine (callsIn_wide.2 (seq_in _ _)).mono ?_; rintro e w' ⟨rfl, rfl⟩)
  have bC := Boxed.new w 3 (.int .i64 0)
  have bN := Boxed.new (w.alloc (.cells #[.int .i64 0] 3)) 24 (.pointer a)
  rw [World.size_alloc] at bN
  have hB0 : Below w.heap.size w ((w.alloc (.cells #[.int .i64 0] 3)).alloc (.cells #[.pointer a] 24)) := ((Below.refl _ w).alloc (Nat.le_refl _) _).alloc (by simp) _
  refine wpIn_rangeFunc_ownG rfl h1 (gf := 31) (lb := #[.pointer (some ⟨w.heap.size + 1, 0, none⟩)]) rfl trivial (enters_of Try.func31 (by kernel_rfl) rfl)
    (HS.out _ ((Grow.box _ _).alloc _) (by simp) bN.cell) belowK_t (belowK_b (by simp; omega)) (Below.refl _ _) (fun _ => rfl)
    (fun pre W => Boxed W w.heap.size 3 (.int .i64 (pre.length : Int)) ∧ Below w.heap.size w W)
    (fun _ _ _ => False)
    (OwnFrom.and (Own.from (boxed_own _ _ _) _) (ownFrom_below (Nat.le_refl _) (by simp; omega)))
    (fun _ _ _ _ _ hs _ _ => hs)
    ⟨bC.alloc _, hB0⟩
    (fun x => { tmps := #[.pointer a, undef, .int .i64 0, .pointer (some ⟨w.heap.size, 0, none⟩), .pointer a, .func (.func 31) #[] #[.pointer (some ⟨w.heap.size + 1, 0, none⟩)], .int .i64 x, undef, undef, undef], defers := [] }) ?assign ?body ?done ?stop
  case assign =>
    intro l x W K hK
    gi_wp2
    simpa using hK
  case body =>
    rintro l pre x W ⟨hv, hB⟩ hlt
    have hc := hv.cell
    have hf := hv.frozen
    have hw : IntKind.i64.wrap ((pre.length : Int) + 1) = (((pre ++ [x]).length : Nat) : Int) := by rw [wrap_i64_id _ (by omega)]; simp
    have hv2 := hv.set (.int .i64 (((pre ++ [x]).length : Nat) : Int))
    have hK : KeepsOthers W (W.setCell ⟨w.heap.size, 0, none⟩ (.int .i64 (((pre ++ [x]).length : Nat) : Int))) := KeepsOthers.setCell _ _ _
    have hB2 : Below w.heap.size W (W.setCell ⟨w.heap.size, 0, none⟩ (.int .i64 (((pre ++ [x]).length : Nat) : Int))) := (Below.refl _ W).setCell (p := ⟨w.heap.size, 0, none⟩) (Nat.le_refl _) _
    obtain ⟨m, hm⟩ : ∃ m, (((pre ++ [x]).length : Nat) : Int) = m := ⟨_, rfl⟩
    rw [hm] at hw hv2 hK hB2
    gi_wp2
    exact ⟨hK.from _, hB2, by rw [hm]; exact hv2, hB.trans hB2⟩
  case done =>
    rintro D ys W hD rfl ⟨hv, hB⟩ hK
    have hc := hv.cell
    gi_wp2
    refine ⟨by simp, .inl ⟨_, _, rfl, run_takeDeferred hK, ?_⟩⟩
    exact ⟨_, results_tmp rfl _ _ _, rfl, hB.trans (belowK_b (w := w) (Nat.le_refl _) W D _ _ (by simp at hD; omega) hK rfl rfl)⟩
  case stop =>
    rintro D c pre W _ _ h _
    exact h.elim

theorem below_grow {w w' : World} (h : Below w.heap.size w w') : Grow w w' := Chg.of_below h fun i hi hn => absurd hi hn
theorem len_any {w : World} {p : Nat} {S : Nat → Sl} (h : Tb w p S) (hB : Bd S 1000000) : Calls Try.prog 19 #[ptr p] w fun e w' => e = .returned (.int .i64 ((hs S 64).length : Int)) ∧ Grow w w' :=
  (callsIn_wide.1 (len_in _ w (hs S 64) 64 (fun w1 c hs hc => seq_stops 4 (by omega) _ w.heap.size p S hB w1 hs (by omega) h.lt hc (h.grow c)) (by omega))).mono fun e w' ⟨he, hb⟩ => ⟨he, below_grow hb⟩
theorem len_nil (w : World) : Calls Try.prog 19 #[.pointer none] w fun e w' => e = .returned (.int .i64 0) ∧ Grow w w' :=
  (callsIn_wide.1 (len_in _ w [] 0 (fun w1 c hs hc => seq_stops_nil 4 (by omega) _ w.heap.size w1 hs hc) (by omega))).mono fun e w' ⟨he, hb⟩ => ⟨he, below_grow hb⟩

/-- AppendSeq to the nil list, of an iterator whose list is l. -/
theorem app_in (gf : Nat) (lb : Array Value) (w : World) (l : List Int) (N : Nat)
    (hs : ∀ w1 : World, Grow w w1 → SeqStopsK Fence.wide 4 Try.prog gf lb (fun x : Int => #[Value.int .i64 x]) (Below w.heap.size) (fun ys => ys = l) (fun _ => True) N w1) (hN : N ≤ 64) (eg : ∀ args w, (callFunc gf args).run Try.prog w = .ok (.enter gf args) w) :
    CallsIn Fence.wide 5 Try.prog 32 #[.slice none 0 0, .func (.func gf) #[] lb] w fun e W' => ∃ v, e = .returned v ∧ W'.ownsRow w.heap.size 3 1 v l.length (ints l) ∧ Below w.heap.size w W' := by
  have HS := hide hs
  clear hs
  have h1 : 1 ≤ 5 := by omega
  obtain ⟨i0, hi, hz0, hz1, hz2⟩ := info_parts Try.infoInt
  refine callsIn_of_wp_marks Try.func32 rfl trivial ?_ rfl
  simp only [Try.ntmps32, List.size_toArray, List.length_cons, List.length_nil, Nat.reduceAdd, Nat.reduceSub, Array.replicate_succ, Array.replicate_zero, List.push_toArray, List.append_toArray, List.nil_append, List.cons_append]
  gi_wp2
  have bO := Boxed.new w 37 (.slice none 0 0)
  have hB0 : Below w.heap.size w (w.alloc (.cells #[.slice none 0 0] 37)) := (Below.refl _ w).alloc (Nat.le_refl _) _
  refine wpIn_rangeFunc_ownG rfl h1 (gf := gf) (lb := lb) rfl trivial eg (HS.out _ (Grow.box _ _)) belowK_t (belowK_b (by simp)) (Below.refl _ _) (fun _ => rfl)
    (fun pre W => (∃ v, Boxed W w.heap.size 37 v ∧ W.ownsRow w.heap.size 3 1 v pre.length (ints pre) ∧ True) ∧ Below w.heap.size w W)
    (fun _ _ _ => False)
    (OwnFrom.and (Own.from (holdsRow_own w.heap.size w.heap.size 37 3 1 (fun pre => pre.length) (fun pre => ints pre) (fun pre v => True)) _) (ownFrom_below (Nat.le_refl _) (by simp)))
    (fun _ _ _ _ _ hs _ _ => hs)
    ⟨⟨_, bO, World.ownsRow_nil _ _ _ _, trivial⟩, hB0⟩
    (fun x => { tmps := #[.slice none 0 0, .func (.func gf) #[] lb, .pointer (some ⟨w.heap.size, 0, none⟩), undef, .slice none 0 0, .int .i64 x, .func (.func gf) #[] lb, .int .i64 x, undef, undef, undef, undef, undef], defers := [] }) ?assign ?body ?done ?stop
  case assign =>
    intro l x W K hK
    gi_wp2
    simpa using hK
  case body =>
    rintro l pre x W ⟨⟨v, hv, hrow, _⟩, hB⟩ hlt
    have hc := hv.cell
    gi_wp2_with (gi_at_builtin; refine wpListIn_append_own _ rfl _ _ 37 rfl w.heap.size 3 i0 (.int .i64 0) 1 8 Try.underlying37 hi hz0 hz1 hz2 rfl (by decide) _ _ _ rfl (hrow.alloc _) ⟨W.heap.size, 0, none⟩ 1 1 [.int .i64 x] rfl rfl (cell_one_new _ _ _) (by simp [Value.oneCell']) (by unfold maxLen; omega) (by omega) (by have := hB.size; simp; omega) ?_; intro v' w1 hown' hgrow _; obtain ⟨g', cap', rfl⟩ := ownsRow_succ hown'; obtain ⟨hv1, hv2, hr2, hk2, hb2⟩ := hv.appended (by decide) hrow hB.size (Nat.le_refl _) hown' hgrow; have hc1 := hv1.cell; have hf1 := hv1.frozen)
    exact ⟨hk2.from _, hb2, ⟨_, hv2, by simpa [ints] using hr2, trivial⟩, hB.trans hb2⟩
  case done =>
    rintro D ys W hD rfl ⟨⟨v, hv, hrow, _⟩, hB⟩ hK
    have hc := hv.cell
    gi_wp2
    refine ⟨by simp, .inl ⟨_, _, rfl, run_takeDeferred hK, ?_⟩⟩
    exact ⟨_, results_tmp rfl _ _ _, v, rfl, ownsRow_putObj hrow _ hK rfl, hB.trans (belowK_b (w := w) (Nat.le_refl _) W D _ _ (by simp at hD; omega) hK rfl rfl)⟩
  case stop =>
    rintro D c pre W _ _ h _
    exact h.elim

theorem own_base {w : World} {b b' : Nat} {e : TypeId} {s : Nat} {v : Value} {n : Nat} {xs : List Value} (h : w.ownsRow b e s v n xs) (hb : b' ≤ b) : w.ownsRow b' e s v n xs :=
  ⟨h.1, h.2.imp id fun ⟨g, cap, cur, e1, h1, r⟩ => ⟨g, cap, cur, e1, Nat.le_trans hb h1, r⟩⟩
theorem all_by (a : Option Addr) (w : World) (l : List Int) (N : Nat)
    (hs : ∀ w1 : World, Grow w w1 → w.heap.size < w1.heap.size → w1.cell? ⟨w.heap.size, 0, none⟩ = some (.pointer a) →
      SeqStopsK Fence.wide 4 Try.prog 31 #[.pointer (some ⟨w.heap.size, 0, none⟩)] (fun x : Int => #[Value.int .i64 x]) (Below (w.heap.size + 1)) (fun ys => ys = l) (fun _ => True) N w1) (hN : N ≤ 64) :
    Calls Try.prog 21 #[.pointer a] w fun e w' => ∃ v, e = .returned v ∧ w'.ownsRow w.heap.size 3 1 v l.length (ints l) ∧ Grow w w' := by
  have HS := hide hs
  have hcol : ∀ (W : World), W.heap.size = w.heap.size + 1 → Grow w W → W.cell? ⟨w.heap.size, 0, none⟩ = some (.pointer a) → Calls Try.prog 30 #[.func (.func 31) #[] #[.pointer (some ⟨w.heap.size, 0, none⟩)]] W fun e w' => ∃ v, e = .returned v ∧ w'.ownsRow w.heap.size 3 1 v l.length (ints l) ∧ Grow W w' := by
    intro W hsz hg hc
    have HAP := hide (callsIn_wide.1 (app_in 31 #[.pointer (some ⟨w.heap.size, 0, none⟩)] W l N (fun w1 c => by rw [hsz]; exact HS.out w1 (hg.trans c) (by have := c.size; omega) (c.cell hc)) hN (enters_of Try.func31 (by kernel_rfl) rfl)))
    clear hs hg hc
    have HSZ := hide hsz
    clear hsz HS
    go_enter Try.func30, Try.ntmps30
    go_wp2_with fail
    refine HAP.out.mono ?_
    rintro e w2 ⟨v, rfl, hown, hb⟩
    go_wp2
    go_ret
    exact ⟨_, rfl, own_base hown (by have := HSZ.out; omega), below_grow hb⟩
  have HC := hide hcol
  clear hs hcol HS
  go_enter Try.func21, Try.ntmps21
  go_wp2_with fail
  refine (seq_in w a).mono ?_
  rintro e w1 ⟨rfl, hw1⟩
  have hg : Grow w w1 := hw1 ▸ Grow.box _ _
  have hc : w1.cell? ⟨w.heap.size, 0, none⟩ = some (.pointer a) := hw1 ▸ (Boxed.new w _ _).cell
  have hz : w1.heap.size = w.heap.size + 1 := by rw [hw1]; simp
  clear hw1
  go_wp2_with fail
  refine (HC.out _ hz hg hc).mono ?_
  rintro e w2 ⟨v, rfl, hown, c2⟩
  go_wp2
  go_ret
  exact ⟨_, rfl, hown, hg.trans c2⟩
theorem all_is {w : World} {p : Nat} {S : Nat → Sl} (h : Tb w p S) (hB : Bd S 1000000) : Calls Try.prog 21 #[ptr p] w fun e w' => ∃ v, e = .returned v ∧ w'.ownsRow w.heap.size 3 1 v (hs S 64).length (ints (hs S 64)) ∧ Grow w w' :=
  all_by _ w (hs S 64) 64 (fun w1 c hs hc => seq_stops 4 (by omega) _ (w.heap.size + 1) p S hB w1 hs (by omega) (Nat.lt_succ_of_lt h.lt) hc (h.grow c)) (by omega)
theorem all_none (w : World) : Calls Try.prog 21 #[.pointer none] w fun e w' => ∃ v, e = .returned v ∧ w'.ownsRow w.heap.size 3 1 v 0 (ints []) ∧ Grow w w' :=
  all_by _ w [] 0 (fun w1 c hs hc => seq_stops_nil 4 (by omega) _ (w.heap.size + 1) w1 hs hc) (by omega)
end Go.Proofs.Ytmklmoahkcekiaa.L8

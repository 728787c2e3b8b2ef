/- Sets of queues: All: slices.Grow and slices.Concat of numbers. Conditions: at most 4000000 things. -/
import Derived.Test.YtgaoodjlcjmomaaL12Put
import Derived.Shelf.Spec.SlicesGrow
namespace Go.Proofs
open Go.Shelf
def Try.growQ_ren : Go.Shelf.Ren := ⟨fun | 4 => 38 | n => n, fun | 0 => 0 | 3 => 3 | 4 => 4 | 9 => 9 | 20 => 20 | 22 => 25 | 25 => 3 | n => n, fun | n => n⟩
theorem Try.growQ : Go.Proofs.Lays8.n4 Try.prog Try.growQ_ren := {
  mixed := by kernel_rfl
  f4 := ⟨Try.f38.name, by decide, Try.func38.trans (congrArg some (by kernel_rfl))⟩
  t0 := Try.underlying0
  a0 := Try.isAgg0
  z0 := Try.sizeOf0
  v0 := Try.zeroValue0
  t3 := Try.underlying3
  a3 := Try.isAgg3
  z3 := Try.sizeOf3
  v3 := Try.zeroValue3
  t4 := Try.underlying4
  a4 := Try.isAgg4
  z4 := Try.sizeOf4
  v4 := Try.zeroValue4
  t9 := Try.underlying9
  a9 := Try.isAgg9
  z9 := Try.sizeOf9
  v9 := Try.zeroValue9
  t20 := Try.underlying20
  a20 := Try.isAgg20
  z20 := Try.sizeOf20
  v20 := Try.zeroValue20
  t22 := Try.underlying25
  a22 := Try.isAgg25
  z22 := Try.sizeOf25
  v22 := Try.zeroValue25 }
end Go.Proofs
namespace Go.Proofs.Ytgaoodjlcjmomaa.L12
open Go.ChangeShapes Go.WideShapes Go.ChangeAt Go.RowKit
set_option linter.unusedVariables false
set_option maxRecDepth 100000 in
theorem grow_nil (n : Nat) (w : World) (hn : n ≤ 100000000) :
    Calls Try.prog 38 #[.slice none 0 0, .int .i64 n] w fun e w' => ∃ v, e = .returned v ∧ QL w' w.heap.size v [] ∧ Grow w w' := by
  rcases Nat.eq_zero_or_pos n with rfl | hp
  · exact (Any8.slices_Grow_room (L := Try.growQ) none 0 0 0 w (Nat.le_refl _) (by omega) (by omega) (by omega)).mono fun e w' ⟨h1, h2⟩ => ⟨_, h1, ql_nil _ _, by rw [h2]; exact Chg.refl _ _⟩
  · obtain ⟨i0, hi0, hz0, hz1, hz2⟩ := info_parts Try.infoInt
    have h := Any8.slices_Grow_grow (L := Try.growQ) i0 (.int .i64 0) hi0 hz0 (by rw [hz1]; decide) none 0 0 n [] w (Nat.le_refl _) (by omega) (by rw [hz2]; omega) (by omega) (by simp) (fun _ => rfl) (fun a h => by cases h)
    refine h.mono ?_
    rintro e w' ⟨rfl, rfl⟩
    have hge := grownCap_ge w (0 + n) 0 (Try.growQ_ren.t 25)
    have hle := grownCap_le_maxLen w (0 + n) 0 (Try.growQ_ren.t 25) (by unfold maxLen; omega)
    generalize grownCap w (0 + n) 0 (Try.growQ_ren.t 25) = C at *
    refine ⟨_, rfl, own_ql (xs := []) ⟨rfl, .inr ⟨w.heap.size, C, _, rfl, Nat.le_refl _, heap_alloc_new w.drew _, Nat.zero_le _, hle, ?_, by simp [ints]⟩⟩, (Chg.refl _ w).drew.alloc _⟩
    simp [Builtin.zeroCells, Value.cells]
    omega
section
variable {w W : World} {z p g n c0 k : Nat} {u : Value} {v : Nat → Value} {S : Nat → Prop} {Q : Nat → List Int} {E xs ys : List Int} {a : Option Addr} {av : Nat → Option Addr} {cv : Nat → Nat}
theorem Chg.grownQ {b c : World} (h : Grow w b) (ho : QL b w.heap.size u xs) (hg : b.grownBy c u.ownBlock) : Grow w c :=
  h.grown hg fun k hk e => by have := (ho.lt k e).1; omega
/-- append onto a list that this call made. -/
theorem app_more (cc : Grow w W) (h : QL W w.heap.size u xs) (hs : L1.Rd W a n ys) (hn : xs.length + n ≤ 100000000) :
    ∃ v' W', (Builtin.append_ #[25, 25] 25 #[u, .slice a n c0]).run Try.prog W = .ok v' W' ∧ QL W' w.heap.size v' (xs ++ ys) ∧ Grow w W' ∧ W.grownBy W' u.ownBlock := by
  obtain ⟨v', W', hr, ho, hg, _⟩ := h.app (c := c0) cc.size hs hn
  exact ⟨v', W', hr, ho, Chg.grownQ cc h hg, hg⟩
theorem cat_len (hb : ∀ i, i < 4 → (Q i).length < 1000000) : ∀ k, k ≤ 4 → (cat Q k).length ≤ k * 1000000
  | 0, _ => by simp [cat]
  | k + 1, h => by
    have h1 := cat_len hb k (by omega)
    have h2 := hb k (by omega)
    simp only [cat, List.length_append]
    omega
theorem Rd.chg {T : Nat → Prop} {w' : World} {xs : List Int} {n : Nat} (h : L1.Rd w a n xs) (c : Chg T w w') (hs : ∀ x, a = some x → ¬ T x.block) : L1.Rd w' a n xs := by
  refine ⟨h.1, fun hn => ?_⟩
  obtain ⟨x, e, hx⟩ := h.2 hn
  exact ⟨x, e, fun i hi => c.cell (hx i hi) (by rw [add_block]; exact hs x e)⟩
theorem Rd.grow {w' : World} {xs : List Int} {n : Nat} (h : L1.Rd w a n xs) (c : Grow w w') : L1.Rd w' a n xs := Rd.chg h c fun _ _ => id
/-- What Concat is given. -/
def Four (w : World) (g : Nat) (av : Nat → Option Addr) (cv : Nat → Nat) (Q : Nat → List Int) : Prop := ∀ k, k < 4 → w.cell? ⟨g, k, none⟩ = some (.slice (av k) (Q k).length (cv k)) ∧ L1.Rd w (av k) (Q k).length (Q k)
theorem Four.grow {w' : World} (h : Four w g av cv Q) (c : Grow w w') : Four w' g av cv Q := fun k hk => ⟨c.cell (h k hk).1, Rd.grow (h k hk).2 c⟩
set_option maxRecDepth 100000 in
set_option maxHeartbeats 1000000 in
theorem concat4 (h : Four w g av cv Q) (hb : ∀ i, i < 4 → (Q i).length < 1000000) :
    Calls Try.prog 34 #[.slice (some ⟨g, 0, none⟩) 4 4] w fun e w' => ∃ v, e = .returned v ∧ QL w' w.heap.size v (cat Q 4) ∧ Grow w w' := by
  have HB := hide h
  have HL := hide (fun k (hk : k ≤ 4) => cat_len hb k hk)
  have HQ := hide hb
  have HG := hide (fun W => grow_nil (cat Q 4).length W (by have := cat_len hb 4 (by omega); omega))
  clear h hb
  go_enter Try.func34, Try.ntmps34
  go_wp2_with fail
  go_loopw [3, 11] (fun s v wr => ∃ k : Nat, k ≤ 4 ∧ v = .int .i64 k ∧ s = .int .i64 (((cat Q k).length : Nat) : Int) ∧ w = wr) (fun _ v _ => 4 - (Go.RowKit.intOf v).toNat)
  case atStart => exact ⟨0, by omega, rfl, rfl, rfl⟩
  case round =>
    obtain ⟨k, hk, rfl, rfl, rfl⟩ := hrel
    rcases Nat.eq_or_lt_of_le hk with rfl | hlt
    · clear hk
      go_wp2_with fail
      refine (HG.out _).mono ?_
      rintro e w1 ⟨v0, rfl, ho, c1⟩
      have HO := hide ho
      have HC := hide c1
      clear ho c1 HG
      go_wp2_with fail
      go_loopw [6, 27] (fun s v wr => ∃ k : Nat, k ≤ 4 ∧ v = .int .i64 k ∧ QL wr w.heap.size s (cat Q k) ∧ Grow w wr) (fun _ v _ => 4 - (Go.RowKit.intOf v).toNat)
      case atStart => exact ⟨0, by omega, rfl, HO.out, HC.out⟩
      case round =>
        clear HO HC
        obtain ⟨k, hk, rfl, ho, cg⟩ := hrel
        rcases Nat.eq_or_lt_of_le hk with rfl | hlt
        · have HO := hide ho
          have HC := hide cg
          clear hk ho cg
          go_wp2
          go_ret
          exact ⟨_, rfl, HO.out, HC.out⟩
        · obtain ⟨k0, h0⟩ := HB.out.grow cg k hlt
          have q1 : (k : Int) < 4 := by omega
          have hw : IntKind.i64.wrap ((k : Int) + 1) = ((k + 1 : Nat) : Int) := (IntWalk.i64_in _ (by omega)).trans (by omega)
          obtain ⟨v', W', hr, ho', cg', -⟩ := app_more (c0 := cv k) cg ho h0 (by have := HL.out k hk; have := HQ.out k hlt; omega)
          have KA := hide hr
          have HO := hide ho'
          have HC := hide cg'
          have HK := hide hlt
          clear hk hlt hr ho' cg' ho cg h0
          generalize av k = ak at *
          generalize cv k = ck at *
          go_wp2_with (at_builtin; refine wpList_app rfl _ _ 25 rfl u6 (.slice ak (Q k).length ck) v' _ W' rfl rfl KA.out ?_)
          go_roundw
          case rel => exact ⟨k + 1, HK.out, rfl, HO.out, HC.out⟩
          case measure => have := HK.out; simp [Go.RowKit.intOf]; omega
    · obtain ⟨k0, h0⟩ := HB.out k hlt
      have q1 : (k : Int) < 4 := by omega
      have hw : IntKind.i64.wrap ((k : Int) + 1) = ((k + 1 : Nat) : Int) := (IntWalk.i64_in _ (by omega)).trans (by omega)
      have hb1 := HL.out k hk
      have hb2 := HQ.out k hlt
      have hw2 : IntKind.i64.wrap (((cat Q k).length : Int) + (Q k).length) = (((cat Q (k + 1)).length : Nat) : Int) := (IntWalk.i64_in _ (by omega)).trans (by simp [cat])
      have q2 : decide ((((cat Q (k + 1)).length : Nat) : Int) < 0) = false := by simp
      have HK := hide hlt
      clear hk hlt h0 hb1 hb2
      obtain ⟨N1, hN1⟩ : ∃ N1, (cat Q (k + 1)).length = N1 := ⟨_, rfl⟩
      rw [hN1] at hw2 q2
      have HN := hide hN1
      clear hN1
      generalize (cat Q k).length = N at *
      go_wp2
      go_roundw
      case rel => exact ⟨k + 1, HK.out, rfl, by rw [HN.out], by first | rfl | trivial⟩
      case measure => have := HK.out; simp [Go.RowKit.intOf]; omega
def avF (v : Nat → Value) (k : Nat) : Option Addr := match v k with
  | .slice a _ _ => a
  | _ => none
def cvF (v : Nat → Value) (k : Nat) : Nat := match v k with
  | .slice _ _ c => c
  | _ => 0
theorem Qs.four (h : Qs w z p S v Q E) : Four w p (avF v) (cvF v) Q := fun k hk => by
  obtain ⟨a, c, e, hr⟩ := (h.ls.ql k hk).form
  have hc := h.cell (show k < 5 by omega)
  have e1 : avF v k = a := by unfold avF; rw [e]
  have e2 : cvF v k = c := by unfold cvF; rw [e]
  rw [e1, e2, ← e]
  exact ⟨hc, hr⟩
set_option maxRecDepth 100000 in
/-- All. -/
theorem all_any (h : QS w z S p Q E) (hl : ∀ i, i < 4 → (Q i).length < 1000000) :
    Calls Try.prog 23 #[ptr p] w fun e w' => ∃ a c, e = .returned (.slice a (cat Q 4).length c) ∧ QL w' w.heap.size (.slice a (cat Q 4).length c) (cat Q 4) ∧ Grow w w' := by
  obtain ⟨v, h⟩ := h
  have HC := hide (concat4 h.four hl)
  clear h hl
  go_enter Try.func23, Try.ntmps23
  go_wp2_with fail
  refine HC.out.mono ?_
  rintro e w1 ⟨v, rfl, h1, h2⟩
  have H1 := hide h1
  have H2 := hide h2
  clear h1 h2 HC
  go_wp2
  go_ret
  obtain ⟨a, c, rfl, -⟩ := H1.out.form
  exact ⟨a, c, rfl, H1.out, H2.out⟩
theorem all_nil (w : World) :
    Calls Try.prog 23 #[.pointer none] w fun e w' => e = .returned (.slice none 0 0) ∧ w = w' := by
  go_enter Try.func23, Try.ntmps23
  go_wp2
  go_ret
  exact ⟨rfl, rfl⟩
end
end Go.Proofs.Ytgaoodjlcjmomaa.L12

/- The plain graph: Add. Conditions: fewer than 1000000 nodes and classes; the classes can be. -/
import Derived.Deep.RegionHeld3
import Derived.Test.YtjfpjnhlnoiekaaGreatL9C
import Derived.Test.YtjfpjnhlnoiekaaGreatL9B
namespace Go.Proofs.YtjfpjnhlnoiekaaGreat.L9
open Go.ChangeShapes Go.WideShapes Go.ChangeAt Go.RowKit
open Go.Proofs.YtjfpjnhlnoiekaaGreat.L5 (Cl clAt IsCls newX isRf rtB shX shR shD rshape_any)
set_option linter.unusedVariables false
section
variable {w w' : World} {z q : Nat} {T U : Nat → Prop} {cv v : Value} {r d : Int → Nat} {ow : Nat → Int} {L : List Nd} {x y : Nd} {k : Nat} {i c l : Int} {cs : List Cl} {a : Option Addr} {len cap : Nat}
set_option maxRecDepth 100000 in
set_option maxHeartbeats 1000000 in
theorem radd_no (h : RG w z T q (.slice a len cap) L) (hc : IsCls w a len cap cs) (ho : Lok cs L) (hall : cs.all Cl.rt = true) (hl : L.length < 1000000) {X : Int} (hX : adX cs L i c l = X) (h0 : X ≠ 0) :
    Calls Tryz.prog 21 #[ptr q, .int .i64 i, .int .i64 c, .int .i64 l] w fun e w' => e = .returned (.int .i64 X) ∧ Grow w w' := by
  have HSHA := hide (rshape_any hc hall l c)
  obtain ⟨R, hR⟩ : ∃ R, shR (clAt cs c) l = R := ⟨_, rfl⟩
  obtain ⟨D, hD⟩ : ∃ D, shD (clAt cs c) l = D := ⟨_, rfl⟩
  obtain ⟨Y, hY⟩ : ∃ Y, shX (clAt cs c) l = Y := ⟨_, rfl⟩
  have HSH := hide (⟨hR, hD, hY⟩ : shR (clAt cs c) l = R ∧ shD (clAt cs c) l = D ∧ shX (clAt cs c) l = Y)
  unfold adX at hX
  rw [hY] at hX
  have c0 : w.cell? ⟨q, 0, none⟩ = some (.slice a len cap) := by obtain ⟨v, r, d, ow, hf⟩ := h; exact hf.cell0
  clear hR hD hY
  by_cases hY0 : Y ≠ 0
  · rw [if_pos hY0] at hX
    subst hX
    have q1 : (Y != 0) = true := by simpa using hY0
    clear h hY0 h0
    go_enter Tryz.func21, Tryz.ntmps21
    go_wp2_with fail
    refine HSHA.out.mono ?_
    rintro e w1 ⟨rfl, g1⟩
    rw [HSH.out.1, HSH.out.2.1, HSH.out.2.2]
    go_wp2
    go_ret
    exact ⟨rfl, g1⟩
  · rw [if_neg hY0] at hX
    have hY1 : Y = 0 := Classical.not_not.1 hY0
    subst hY1
    by_cases hi1 : i < 1
    · rw [if_pos (.inl hi1)] at hX
      subst hX
      have q1 : decide (i < 1) = true := by simpa using hi1
      clear h hY0 h0 hi1
      go_enter Tryz.func21, Tryz.ntmps21
      go_wp2_with fail
      refine HSHA.out.mono ?_
      rintro e w1 ⟨rfl, g1⟩
      rw [HSH.out.1, HSH.out.2.1, HSH.out.2.2]
      go_wp2
      go_ret
      exact ⟨rfl, g1⟩
    · have q1 : decide (i < 1) = false := by simpa using hi1
      by_cases hn : nd L i = none
      · rw [if_neg (by rintro (h | h); exact hi1 h; exact h hn)] at hX
        exact absurd hX.symm h0
      · rw [if_pos (.inr hn)] at hX
        subst hX
        obtain ⟨x, hx⟩ := Option.ne_none_iff_exists'.1 hn
        obtain ⟨k, hk, -⟩ := nd_at hx
        obtain ⟨-, rfl⟩ := nd_some hx
        have HAT := hide (fun (W : World) (g : Grow w W) => at_yes (h.grow g) ho.1 hk hl)
        have q2 : decide ((k : Int) ≥ 0) = true := decide_eq_true (by omega)
        clear h hY0 h0 hi1 hn hx hk
        generalize x.id = i at *
        go_enter Tryz.func21, Tryz.ntmps21
        go_wp2_with fail
        refine HSHA.out.mono ?_
        rintro e w1 ⟨rfl, g1⟩
        rw [HSH.out.1, HSH.out.2.1, HSH.out.2.2]
        go_wp2_with fail
        refine (HAT.out _ g1).mono ?_
        rintro e w2 ⟨rfl, rfl⟩
        go_wp2
        go_ret
        exact ⟨rfl, g1⟩
set_option maxRecDepth 100000 in
set_option maxHeartbeats 40000000 in
theorem radd_yes (h : RG w z T q (.slice a len cap) L) (hc : IsCls w a len cap cs) (ho : Lok cs L) (hall : cs.all Cl.rt = true) (hl : L.length < 1000000) (hlen : len < 1000000) (hX : adX cs L i c l = 0) :
    Calls Tryz.prog 21 #[ptr q, .int .i64 i, .int .i64 c, .int .i64 l] w fun e w' => e = .returned (.int .i64 0) ∧ Chg T w w' ∧ ∃ T', RG w' z T' q (.slice a len cap) (ins L (newNd cs i c l)) ∧ ∀ k, T' k → T k ∨ w.heap.size ≤ k := by
  have HSHA := hide (rshape_any hc hall l c)
  have H := hide h
  have HCL := hide hc
  have HO := hide ho
  have hY : shX (clAt cs c) l = 0 := by
    unfold adX at hX
    by_cases e : shX (clAt cs c) l ≠ 0
    · rw [if_pos e] at hX; exact absurd hX e
    · exact Classical.not_not.1 e
  have hi1 : ¬ (i < 1 ∨ nd L i ≠ none) := by
    intro e
    unfold adX at hX
    rw [if_neg (by simp [hY]), if_pos e] at hX
    cases hX
  have q1 : decide (i < 1) = false := decide_eq_false (fun e => hi1 (.inl e))
  have hn : nd L i = none := Classical.not_not.1 (fun e => hi1 (.inr e))
  obtain ⟨k, hk⟩ : ∃ k, clAt cs c = some k := by
    cases hc : clAt cs c with
    | none => rw [hc] at hY; simp [shX] at hY
    | some k => exact ⟨k, rfl⟩
  obtain ⟨j, hcj, hjl, hjc⟩ := L5.clAt_some hk
  have hbd := L5.sh_bd (o := clAt cs c) (fun k hk => L5.clAt_rt hall hk) l
  obtain ⟨R, hR⟩ : ∃ R, shR (clAt cs c) l = R := ⟨_, rfl⟩
  obtain ⟨D, hD⟩ : ∃ D, shD (clAt cs c) l = D := ⟨_, rfl⟩
  have HSH := hide (⟨hR, hD, hY⟩ : shR (clAt cs c) l = R ∧ shD (clAt cs c) l = D ∧ shX (clAt cs c) l = 0)
  rw [hR, hD] at hbd
  have HB := hide hbd
  have hnew : newNd cs i c l = ⟨i, c, zeros R.toNat, zeros D.toNat, k.f⟩ := by unfold newNd; rw [hR, hD, hk]
  have HN := hide hnew
  have HAT := hide (fun (W : World) (g : Grow w W) => at_no (h.grow g) hn hl)
  have HNO := hide hn
  have HI1 := hide (show 1 ≤ i by have := of_decide_eq_false q1; omega)
  have HL := hide hl
  rw [hc.len] at hjl
  have HJ := hide (And.intro hjl (And.intro hcj (And.intro hjc hlen)))
  have mk1 := mk_ints R hbd.1 (by omega)
  have mk2 := mk_ints D hbd.2.2.1 (by omega)
  have q2 : decide ((-1 : Int) ≥ 0) = false := rfl
  have c0 : w.cell? ⟨q, 0, none⟩ = some (.slice a len cap) := by obtain ⟨v, r, d, ow, hf⟩ := h; exact hf.cell0
  obtain ⟨v, r, d, ow, hf⟩ := h
  have HF := hide hf
  obtain ⟨n, hnn⟩ : ∃ n, L.length = n := ⟨_, rfl⟩
  have c1 := hf.cell1
  have HNN := hide hnn
  obtain ⟨k0, k1, k2, k3⟩ := k
  dsimp only at hnew HN hjc HJ
  obtain ⟨cb, co, c', rfl, hc', hca, -⟩ := hc.at_ hjl
  have HCF := hide (show w.cell? ⟨cb, co + j * 4 + 3, none⟩ = some (.bool k3) by rw [hjc] at hc'; injection hc' with e; subst e; exact hca.2.2.2)
  have HC0 := hide c0
  have hv : v = .slice none 0 0 ∧ n = 0 ∨ ∃ g vc, v = .slice (some ⟨g, 0, none⟩) n vc ∧ n ≤ vc := by
    rcases hf.own.2 with ⟨h1, h2⟩ | ⟨g, vc, cur, h1, _, _, h2, _⟩
    · exact .inl ⟨h1, by omega⟩
    · exact .inr ⟨g, vc, by rw [h1, hnn], by omega⟩
  have HJL := hide hjl
  clear hR hD hY hX hi1 hbd hjc hcj hk hl hc ho hall hnew hn hf hnn hc' c' hjl hca
  rcases hv with ⟨rfl, rfl⟩ | ⟨g, vc, rfl, hvc⟩
  · have HNL := hide (show L = [] from List.eq_nil_of_length_eq_zero HNN.out)
    have HC1 := hide c1
    go_enter Tryz.func21, Tryz.ntmps21
    go_wp2_with fail
    refine HSHA.out.mono ?_
    rintro e w1 ⟨rfl, g1⟩
    rw [HSH.out.1, HSH.out.2.1, HSH.out.2.2]
    go_wp2_with fail
    refine (HAT.out _ g1).mono ?_
    rintro e w2 ⟨rfl, rfl⟩
    replace c0 := Grow.cell g1 c0
    replace c1 := Grow.cell g1 c1
    go_wp2_with fail
    go_loopw [13] (fun v wr => ∃ j : Nat, j ≤ 0 ∧ v = .int .i64 j ∧ (∀ m y, m < j → L[m]? = some y → y.id < i) ∧ w1 = wr) (fun v _ => 0 - (Go.RowKit.intOf v).toNat)
    case atStart => exact ⟨0, Nat.zero_le _, rfl, fun m y hm => absurd hm (by omega), rfl⟩
    case round =>
      obtain ⟨p, hp, rfl, hlo, rfl⟩ := hrel
      obtain rfl : p = 0 := by omega
      have hw : IntKind.i64.wrap (((0 : Nat) : Int) + 1) = ((0 + 1 : Nat) : Int) := rfl
      have HP := hide (show 0 ≤ 0 ∧ (∀ m y, m < 0 → L[m]? = some y → y.id < i) ∧ ∀ u, L[0]? = some u → i ≤ u.id from ⟨Nat.le_refl _, fun m y hm => absurd hm (by omega), fun u hu => by rw [HNL.out] at hu; cases hu⟩)
      clear hlo hp
      skip
      obtain ⟨o1, W1, hr1, ho1, cc1, -⟩ := app_more g1 (World.ownsRow_nil w1 w.heap.size 38 5) (show Src w1 (.slice none 0 0) 0 (rfC r d (L.take 0)) from .inl ⟨rfl, rfl, rfl⟩) (by have := HL.out; have := HNN.out; omega)
      rw [Nat.zero_add, List.nil_append] at ho1
      have KA := hide hr1
      have HO1 := hide ho1
      have HCC1 := hide cc1
      clear hr1 ho1
      go_wp2_with (at_builtin; refine wpList_app rfl _ _ 41 rfl (.slice none 0 0) (.slice none 0 0) o1 _ W1 rfl rfl KA.out ?_)
      clear KA hw
      replace c0 := Grow.cell cc1 HC0.out
      replace c1 := Grow.cell cc1 HC1.out
      have cf := Grow.cell cc1 HCF.out
      have hjl := HJ.out.1
      have hwc : IntKind.i64.wrap (c - 1) = (j : Int) := (IntWalk.i64_in _ (by have := HJ.out; omega)).trans (by have := HJ.out; omega)
      have q5 : decide ((j : Int) < (len : Int)) = true := decide_eq_true (by omega)
      have eR : (zeros R.toNat).length = R.toNat := zeros_length _
      have eD : (zeros D.toNat).length = D.toNat := zeros_length _
      have X1 := (((cc1.alloc (.cells (ints (zeros R.toNat)).toArray 3)).alloc (.cells (ints (zeros D.toNat)).toArray 3)).alloc (.cells #[.int .i64 i, .int .i64 c, .slice (some ⟨W1.heap.size, 0, none⟩) R.toNat R.toNat, .slice (some ⟨W1.heap.size + 1, 0, none⟩) D.toNat D.toNat, .bool k3] 38)).drew
      have Y1 := ((((Chg.refl _ W1 : Grow W1 W1).alloc (.cells (ints (zeros R.toNat)).toArray 3)).alloc (.cells (ints (zeros D.toNat)).toArray 3)).alloc (.cells #[.int .i64 i, .int .i64 c, .slice (some ⟨W1.heap.size, 0, none⟩) R.toNat R.toNat, .slice (some ⟨W1.heap.size + 1, 0, none⟩) D.toNat D.toNat, .bool k3] 38)).drew
      have B1 := Blk.new ((W1.alloc (.cells (ints (zeros R.toNat)).toArray 3)).alloc (.cells (ints (zeros D.toNat)).toArray 3)) 38 [.int .i64 i, .int .i64 c, .slice (some ⟨W1.heap.size, 0, none⟩) R.toNat R.toNat, .slice (some ⟨W1.heap.size + 1, 0, none⟩) D.toNat D.toNat, .bool k3]
      rw [show ((W1.alloc (.cells (ints (zeros R.toNat)).toArray 3)).alloc (.cells (ints (zeros D.toNat)).toArray 3)).heap.size = W1.heap.size + 1 + 1 by simp] at B1
      obtain ⟨o2, W2, hr2, ho2, cc2, hb2⟩ := app_more X1 (own_grow HO1.out Y1) (s := .slice (some ⟨W1.heap.size + 1 + 1, 0, none⟩) 1 1) (m := 1) (ys := [.int .i64 i, .int .i64 c, .slice (some ⟨W1.heap.size, 0, none⟩) R.toNat R.toNat, .slice (some ⟨W1.heap.size + 1, 0, none⟩) D.toNat D.toNat, .bool k3]) (.inr ⟨_, _, rfl, rfl, fun j u hj => by rw [addr_add, Nat.zero_add]; exact (B1.drew.cell j).trans hj, fun u hu => by simp at hu; rcases hu with rfl | rfl | rfl | rfl | rfl <;> rfl⟩) (by have := HL.out; have := HNN.out; have := HP.out.1; omega)
      have X2 := (((cc1.alloc (.cells (ints (zeros D.toNat)).toArray 3)).alloc (.cells (ints (zeros R.toNat)).toArray 3)).alloc (.cells #[.int .i64 i, .int .i64 c, .slice (some ⟨W1.heap.size + 1, 0, none⟩) R.toNat R.toNat, .slice (some ⟨W1.heap.size, 0, none⟩) D.toNat D.toNat, .bool k3] 38)).drew
      have Y2 := ((((Chg.refl _ W1 : Grow W1 W1).alloc (.cells (ints (zeros D.toNat)).toArray 3)).alloc (.cells (ints (zeros R.toNat)).toArray 3)).alloc (.cells #[.int .i64 i, .int .i64 c, .slice (some ⟨W1.heap.size + 1, 0, none⟩) R.toNat R.toNat, .slice (some ⟨W1.heap.size, 0, none⟩) D.toNat D.toNat, .bool k3] 38)).drew
      have B2 := Blk.new ((W1.alloc (.cells (ints (zeros D.toNat)).toArray 3)).alloc (.cells (ints (zeros R.toNat)).toArray 3)) 38 [.int .i64 i, .int .i64 c, .slice (some ⟨W1.heap.size + 1, 0, none⟩) R.toNat R.toNat, .slice (some ⟨W1.heap.size, 0, none⟩) D.toNat D.toNat, .bool k3]
      rw [show ((W1.alloc (.cells (ints (zeros D.toNat)).toArray 3)).alloc (.cells (ints (zeros R.toNat)).toArray 3)).heap.size = W1.heap.size + 1 + 1 by simp] at B2
      obtain ⟨o3, W3, hr3, ho3, cc3, hb3⟩ := app_more X2 (own_grow HO1.out Y2) (s := .slice (some ⟨W1.heap.size + 1 + 1, 0, none⟩) 1 1) (m := 1) (ys := [.int .i64 i, .int .i64 c, .slice (some ⟨W1.heap.size + 1, 0, none⟩) R.toNat R.toNat, .slice (some ⟨W1.heap.size, 0, none⟩) D.toNat D.toNat, .bool k3]) (.inr ⟨_, _, rfl, rfl, fun j u hj => by rw [addr_add, Nat.zero_add]; exact (B2.drew.cell j).trans hj, fun u hu => by simp at hu; rcases hu with rfl | rfl | rfl | rfl | rfl <;> rfl⟩) (by have := HL.out; have := HNN.out; have := HP.out.1; omega)
      have A1 := hb2 _ _ ((((Blk.new W1 3 (ints (zeros R.toNat))).alloc (.cells (ints (zeros D.toNat)).toArray 3)).alloc (.cells #[.int .i64 i, .int .i64 c, .slice (some ⟨W1.heap.size, 0, none⟩) R.toNat R.toNat, .slice (some ⟨W1.heap.size + 1, 0, none⟩) D.toNat D.toNat, .bool k3] 38)).drew)
      have A2 := hb3 _ _ ((((Blk.new W1 3 (ints (zeros D.toNat))).alloc (.cells (ints (zeros R.toNat)).toArray 3)).alloc (.cells #[.int .i64 i, .int .i64 c, .slice (some ⟨W1.heap.size + 1, 0, none⟩) R.toNat R.toNat, .slice (some ⟨W1.heap.size, 0, none⟩) D.toNat D.toNat, .bool k3] 38)).drew)
      have D1 := hb2 _ _ (((Blk.new (W1.alloc (.cells (ints (zeros R.toNat)).toArray 3)) 3 (ints (zeros D.toNat))).alloc (.cells #[.int .i64 i, .int .i64 c, .slice (some ⟨W1.heap.size, 0, none⟩) R.toNat R.toNat, .slice (some ⟨W1.heap.size + 1, 0, none⟩) D.toNat D.toNat, .bool k3] 38)).drew)
      have D2 := hb3 _ _ (((Blk.new (W1.alloc (.cells (ints (zeros D.toNat)).toArray 3)) 3 (ints (zeros R.toNat))).alloc (.cells #[.int .i64 i, .int .i64 c, .slice (some ⟨W1.heap.size + 1, 0, none⟩) R.toNat R.toNat, .slice (some ⟨W1.heap.size, 0, none⟩) D.toNat D.toNat, .bool k3] 38)).drew)
      rw [show (W1.alloc (.cells (ints (zeros R.toNat)).toArray 3)).heap.size = W1.heap.size + 1 by simp] at D1
      rw [show (W1.alloc (.cells (ints (zeros D.toNat)).toArray 3)).heap.size = W1.heap.size + 1 by simp] at D2
      have H1 := hide (And.intro cc2 (And.intro ho2 (And.intro A1 D1)))
      have H2 := hide (And.intro cc3 (And.intro ho3 (And.intro A2 D2)))
      have K1 := hide hr2
      have K2 := hide hr3
      have hk1 : W2.cell? ⟨q, 0, none⟩ = some (.slice (some ⟨cb, co, none⟩) len cap) ∧ W2.cell? ⟨cb, co + j * 4 + 3, none⟩ = some (.bool k3) := ⟨Grow.cell cc2 HC0.out, Grow.cell cc2 HCF.out⟩
      have hk2 : W3.cell? ⟨q, 0, none⟩ = some (.slice (some ⟨cb, co, none⟩) len cap) ∧ W3.cell? ⟨cb, co + j * 4 + 3, none⟩ = some (.bool k3) := ⟨Grow.cell cc3 HC0.out, Grow.cell cc3 HCF.out⟩
      clear hr2 ho2 cc2 hb2 hr3 ho3 cc3 hb3 A1 A2 D1 D2 X1 X2 Y1 Y2 B1 B2 eR eD
      go_wp2_with fail
      go_region_held3 (fun W => W.cell? ⟨q, 0, none⟩ = some (.slice (some ⟨cb, co, none⟩) len cap) ∧ W.cell? ⟨cb, co + j * 4 + 3, none⟩ = some (.bool k3)) (first | assumption | (refine ⟨Grow.cell ?_ c0, Grow.cell ?_ cf⟩ <;> (repeat (first | exact Chg.refl _ _ | refine Chg.drew ?_ | refine Chg.alloc ?_ _)))) (first | (refine step_app (by rfl) _ _ _ (by rfl) o1 (.slice (some ⟨W1.heap.size + 1 + 1, 0, none⟩) 1 1) o2 W2 (by rfl) (by rfl) K1.out ?_) | (refine step_app (by rfl) _ _ _ (by rfl) o1 (.slice (some ⟨W1.heap.size + 1 + 1, 0, none⟩) 1 1) o3 W3 (by rfl) (by rfl) K2.out ?_))
      · skip
        clear hk1 hk2 mk1 mk2 K1 K2 c0 c1 cf hwc q5 hjl cc1 q1
        have hs3 : Src W2 (.slice none 0 0) 0 (rfC r d (L.drop 0)) := (by rw [HNL.out]; exact .inl ⟨rfl, rfl, rfl⟩)
        obtain ⟨o4, W4, hr4, ho4, cc4, hb4⟩ := app_more H1.out.1 H1.out.2.1 hs3 (by have := HL.out; have := HNN.out; have := HP.out.1; omega)
        obtain ⟨a4, c4, rfl⟩ := own_len ho4
        have KA4 := hide hr4
        have e1 : ∀ rb db : Nat, ndC ⟨i, c, zeros R.toNat, zeros D.toNat, k3⟩ rb db = [.int .i64 i, .int .i64 c, .slice (some ⟨rb, 0, none⟩) R.toNat R.toNat, .slice (some ⟨db, 0, none⟩) D.toNat D.toNat, .bool k3] := fun rb db => by simp [ndC, zeros_length]
        rw [← e1] at ho4
        have ho5 := own_cast ho4 (show 0 + 1 + 0 = L.length + 1 by have := HNN.out; have := HP.out.1; omega)
        have hsz := HCC1.out.size
        have c1 := Grow.cell H1.out.1 HC1.out
        have hq1 := Grow.cell cc4 HC1.out
        have hqf : W4.frozen? ⟨q, 1, none⟩ = false := (HF.out.blk.chg cc4 id).frozen 1
        have HFIN := hide (HF.out.ins (x := ⟨i, c, zeros R.toNat, zeros D.toNat, k3⟩) HNO.out HO.out HI1.out cc4 (hb4 _ _ H1.out.2.2.1) (hb4 _ _ H1.out.2.2.2) (by omega) (by omega) (by omega) ho5 (ins_at HP.out.2.1 (fun y hy h => by have h' : y.id < i := h; have := HP.out.2.2 y hy; omega)))
        clear hr4 ho4 ho5 hb4 e1 hsz hs3
        go_wp2_with (at_builtin; refine wpList_app rfl _ _ 41 rfl o2 (.slice none 0 0) (.slice a4 (0 + 1 + 0) c4) _ W4 rfl rfl KA4.out ?_)
        go_ret
        rw [HN.out]
        exact ⟨rfl, HFIN.out⟩
      · skip
        clear hk1 hk2 mk1 mk2 K1 K2 c0 c1 cf hwc q5 hjl cc1 q1
        have hs3 : Src W3 (.slice none 0 0) 0 (rfC r d (L.drop 0)) := (by rw [HNL.out]; exact .inl ⟨rfl, rfl, rfl⟩)
        obtain ⟨o4, W4, hr4, ho4, cc4, hb4⟩ := app_more H2.out.1 H2.out.2.1 hs3 (by have := HL.out; have := HNN.out; have := HP.out.1; omega)
        obtain ⟨a4, c4, rfl⟩ := own_len ho4
        have KA4 := hide hr4
        have e1 : ∀ rb db : Nat, ndC ⟨i, c, zeros R.toNat, zeros D.toNat, k3⟩ rb db = [.int .i64 i, .int .i64 c, .slice (some ⟨rb, 0, none⟩) R.toNat R.toNat, .slice (some ⟨db, 0, none⟩) D.toNat D.toNat, .bool k3] := fun rb db => by simp [ndC, zeros_length]
        rw [← e1] at ho4
        have ho5 := own_cast ho4 (show 0 + 1 + 0 = L.length + 1 by have := HNN.out; have := HP.out.1; omega)
        have hsz := HCC1.out.size
        have c1 := Grow.cell H2.out.1 HC1.out
        have hq1 := Grow.cell cc4 HC1.out
        have hqf : W4.frozen? ⟨q, 1, none⟩ = false := (HF.out.blk.chg cc4 id).frozen 1
        have HFIN := hide (HF.out.ins (x := ⟨i, c, zeros R.toNat, zeros D.toNat, k3⟩) HNO.out HO.out HI1.out cc4 (hb4 _ _ H2.out.2.2.2) (hb4 _ _ H2.out.2.2.1) (by omega) (by omega) (by omega) ho5 (ins_at HP.out.2.1 (fun y hy h => by have h' : y.id < i := h; have := HP.out.2.2 y hy; omega)))
        clear hr4 ho4 ho5 hb4 e1 hsz hs3
        go_wp2_with (at_builtin; refine wpList_app rfl _ _ 41 rfl o3 (.slice none 0 0) (.slice a4 (0 + 1 + 0) c4) _ W4 rfl rfl KA4.out ?_)
        go_ret
        rw [HN.out]
        exact ⟨rfl, HFIN.out⟩
  · have HC1 := hide c1
    go_enter Tryz.func21, Tryz.ntmps21
    go_wp2_with fail
    refine HSHA.out.mono ?_
    rintro e w1 ⟨rfl, g1⟩
    rw [HSH.out.1, HSH.out.2.1, HSH.out.2.2]
    go_wp2_with fail
    refine (HAT.out _ g1).mono ?_
    rintro e w2 ⟨rfl, rfl⟩
    replace c0 := Grow.cell g1 c0
    replace c1 := Grow.cell g1 c1
    go_wp2_with fail
    go_loopw [13] (fun v wr => ∃ j : Nat, j ≤ n ∧ v = .int .i64 j ∧ (∀ m y, m < j → L[m]? = some y → y.id < i) ∧ w1 = wr) (fun v _ => n - (Go.RowKit.intOf v).toNat)
    case atStart => exact ⟨0, Nat.zero_le _, rfl, fun m y hm => absurd hm (by omega), rfl⟩
    case round =>
      obtain ⟨p, hp, rfl, hlo, rfl⟩ := hrel
      have hw : IntKind.i64.wrap ((p : Int) + 1) = ((p + 1 : Nat) : Int) := (IntWalk.i64_in _ (by have := HL.out; have := HNN.out; omega)).trans (by omega)
      rcases Nat.eq_or_lt_of_le hp with hpe | hlt
      · have hpe' : n = p := hpe.symm
        subst hpe'
        have q3 : decide ((n : Int) < (n : Int)) = false := by simp
        have HP := hide (show n ≤ n ∧ (∀ m y, m < n → L[m]? = some y → y.id < i) ∧ ∀ u, L[n]? = some u → i ≤ u.id from ⟨Nat.le_refl _, hlo, fun y hy => by rw [List.getElem?_eq_none (by rw [HNN.out]; exact Nat.le_refl _)] at hy; cases hy⟩)
        clear hpe hp hlo
        have hdn : rfC r d (L.drop n) = [] := by rw [List.drop_of_length_le (by rw [HNN.out]; exact Nat.le_refl _)]; rfl
        have HDN := hide hdn
        clear hdn
        rcases Nat.eq_or_lt_of_le hvc with hvn | hvn
        · subst hvn
          clear hvc
          skip
          obtain ⟨o1, W1, hr1, ho1, cc1, -⟩ := app_more g1 (World.ownsRow_nil w1 w.heap.size 38 5) ((HF.out.chg g1 fun _ _ => id).src_take (c' := n) (by rw [HNN.out]; exact HP.out.1)) (by have := HL.out; have := HNN.out; omega)
          rw [Nat.zero_add, List.nil_append] at ho1
          have KA := hide hr1
          have HO1 := hide ho1
          have HCC1 := hide cc1
          clear hr1 ho1
          go_wp2_with (at_builtin; refine wpList_app rfl _ _ 41 rfl (.slice none 0 0) (.slice (some ⟨g, 0, none⟩) n n) o1 _ W1 rfl rfl KA.out ?_)
          clear KA hw
          clear q3
          replace c0 := Grow.cell cc1 HC0.out
          replace c1 := Grow.cell cc1 HC1.out
          have cf := Grow.cell cc1 HCF.out
          have hjl := HJ.out.1
          have hwc : IntKind.i64.wrap (c - 1) = (j : Int) := (IntWalk.i64_in _ (by have := HJ.out; omega)).trans (by have := HJ.out; omega)
          have q5 : decide ((j : Int) < (len : Int)) = true := decide_eq_true (by omega)
          have eR : (zeros R.toNat).length = R.toNat := zeros_length _
          have eD : (zeros D.toNat).length = D.toNat := zeros_length _
          have X1 := (((cc1.alloc (.cells (ints (zeros R.toNat)).toArray 3)).alloc (.cells (ints (zeros D.toNat)).toArray 3)).alloc (.cells #[.int .i64 i, .int .i64 c, .slice (some ⟨W1.heap.size, 0, none⟩) R.toNat R.toNat, .slice (some ⟨W1.heap.size + 1, 0, none⟩) D.toNat D.toNat, .bool k3] 38)).drew
          have Y1 := ((((Chg.refl _ W1 : Grow W1 W1).alloc (.cells (ints (zeros R.toNat)).toArray 3)).alloc (.cells (ints (zeros D.toNat)).toArray 3)).alloc (.cells #[.int .i64 i, .int .i64 c, .slice (some ⟨W1.heap.size, 0, none⟩) R.toNat R.toNat, .slice (some ⟨W1.heap.size + 1, 0, none⟩) D.toNat D.toNat, .bool k3] 38)).drew
          have B1 := Blk.new ((W1.alloc (.cells (ints (zeros R.toNat)).toArray 3)).alloc (.cells (ints (zeros D.toNat)).toArray 3)) 38 [.int .i64 i, .int .i64 c, .slice (some ⟨W1.heap.size, 0, none⟩) R.toNat R.toNat, .slice (some ⟨W1.heap.size + 1, 0, none⟩) D.toNat D.toNat, .bool k3]
          rw [show ((W1.alloc (.cells (ints (zeros R.toNat)).toArray 3)).alloc (.cells (ints (zeros D.toNat)).toArray 3)).heap.size = W1.heap.size + 1 + 1 by simp] at B1
          obtain ⟨o2, W2, hr2, ho2, cc2, hb2⟩ := app_more X1 (own_grow HO1.out Y1) (s := .slice (some ⟨W1.heap.size + 1 + 1, 0, none⟩) 1 1) (m := 1) (ys := [.int .i64 i, .int .i64 c, .slice (some ⟨W1.heap.size, 0, none⟩) R.toNat R.toNat, .slice (some ⟨W1.heap.size + 1, 0, none⟩) D.toNat D.toNat, .bool k3]) (.inr ⟨_, _, rfl, rfl, fun j u hj => by rw [addr_add, Nat.zero_add]; exact (B1.drew.cell j).trans hj, fun u hu => by simp at hu; rcases hu with rfl | rfl | rfl | rfl | rfl <;> rfl⟩) (by have := HL.out; have := HNN.out; have := HP.out.1; omega)
          have X2 := (((cc1.alloc (.cells (ints (zeros D.toNat)).toArray 3)).alloc (.cells (ints (zeros R.toNat)).toArray 3)).alloc (.cells #[.int .i64 i, .int .i64 c, .slice (some ⟨W1.heap.size + 1, 0, none⟩) R.toNat R.toNat, .slice (some ⟨W1.heap.size, 0, none⟩) D.toNat D.toNat, .bool k3] 38)).drew
          have Y2 := ((((Chg.refl _ W1 : Grow W1 W1).alloc (.cells (ints (zeros D.toNat)).toArray 3)).alloc (.cells (ints (zeros R.toNat)).toArray 3)).alloc (.cells #[.int .i64 i, .int .i64 c, .slice (some ⟨W1.heap.size + 1, 0, none⟩) R.toNat R.toNat, .slice (some ⟨W1.heap.size, 0, none⟩) D.toNat D.toNat, .bool k3] 38)).drew
          have B2 := Blk.new ((W1.alloc (.cells (ints (zeros D.toNat)).toArray 3)).alloc (.cells (ints (zeros R.toNat)).toArray 3)) 38 [.int .i64 i, .int .i64 c, .slice (some ⟨W1.heap.size + 1, 0, none⟩) R.toNat R.toNat, .slice (some ⟨W1.heap.size, 0, none⟩) D.toNat D.toNat, .bool k3]
          rw [show ((W1.alloc (.cells (ints (zeros D.toNat)).toArray 3)).alloc (.cells (ints (zeros R.toNat)).toArray 3)).heap.size = W1.heap.size + 1 + 1 by simp] at B2
          obtain ⟨o3, W3, hr3, ho3, cc3, hb3⟩ := app_more X2 (own_grow HO1.out Y2) (s := .slice (some ⟨W1.heap.size + 1 + 1, 0, none⟩) 1 1) (m := 1) (ys := [.int .i64 i, .int .i64 c, .slice (some ⟨W1.heap.size + 1, 0, none⟩) R.toNat R.toNat, .slice (some ⟨W1.heap.size, 0, none⟩) D.toNat D.toNat, .bool k3]) (.inr ⟨_, _, rfl, rfl, fun j u hj => by rw [addr_add, Nat.zero_add]; exact (B2.drew.cell j).trans hj, fun u hu => by simp at hu; rcases hu with rfl | rfl | rfl | rfl | rfl <;> rfl⟩) (by have := HL.out; have := HNN.out; have := HP.out.1; omega)
          have A1 := hb2 _ _ ((((Blk.new W1 3 (ints (zeros R.toNat))).alloc (.cells (ints (zeros D.toNat)).toArray 3)).alloc (.cells #[.int .i64 i, .int .i64 c, .slice (some ⟨W1.heap.size, 0, none⟩) R.toNat R.toNat, .slice (some ⟨W1.heap.size + 1, 0, none⟩) D.toNat D.toNat, .bool k3] 38)).drew)
          have A2 := hb3 _ _ ((((Blk.new W1 3 (ints (zeros D.toNat))).alloc (.cells (ints (zeros R.toNat)).toArray 3)).alloc (.cells #[.int .i64 i, .int .i64 c, .slice (some ⟨W1.heap.size + 1, 0, none⟩) R.toNat R.toNat, .slice (some ⟨W1.heap.size, 0, none⟩) D.toNat D.toNat, .bool k3] 38)).drew)
          have D1 := hb2 _ _ (((Blk.new (W1.alloc (.cells (ints (zeros R.toNat)).toArray 3)) 3 (ints (zeros D.toNat))).alloc (.cells #[.int .i64 i, .int .i64 c, .slice (some ⟨W1.heap.size, 0, none⟩) R.toNat R.toNat, .slice (some ⟨W1.heap.size + 1, 0, none⟩) D.toNat D.toNat, .bool k3] 38)).drew)
          have D2 := hb3 _ _ (((Blk.new (W1.alloc (.cells (ints (zeros D.toNat)).toArray 3)) 3 (ints (zeros R.toNat))).alloc (.cells #[.int .i64 i, .int .i64 c, .slice (some ⟨W1.heap.size + 1, 0, none⟩) R.toNat R.toNat, .slice (some ⟨W1.heap.size, 0, none⟩) D.toNat D.toNat, .bool k3] 38)).drew)
          rw [show (W1.alloc (.cells (ints (zeros R.toNat)).toArray 3)).heap.size = W1.heap.size + 1 by simp] at D1
          rw [show (W1.alloc (.cells (ints (zeros D.toNat)).toArray 3)).heap.size = W1.heap.size + 1 by simp] at D2
          have H1 := hide (And.intro cc2 (And.intro ho2 (And.intro A1 D1)))
          have H2 := hide (And.intro cc3 (And.intro ho3 (And.intro A2 D2)))
          have K1 := hide hr2
          have K2 := hide hr3
          have hk1 : W2.cell? ⟨q, 0, none⟩ = some (.slice (some ⟨cb, co, none⟩) len cap) ∧ W2.cell? ⟨cb, co + j * 4 + 3, none⟩ = some (.bool k3) := ⟨Grow.cell cc2 HC0.out, Grow.cell cc2 HCF.out⟩
          have hk2 : W3.cell? ⟨q, 0, none⟩ = some (.slice (some ⟨cb, co, none⟩) len cap) ∧ W3.cell? ⟨cb, co + j * 4 + 3, none⟩ = some (.bool k3) := ⟨Grow.cell cc3 HC0.out, Grow.cell cc3 HCF.out⟩
          clear hr2 ho2 cc2 hb2 hr3 ho3 cc3 hb3 A1 A2 D1 D2 X1 X2 Y1 Y2 B1 B2 eR eD
          go_wp2_with fail
          go_region_held3 (fun W => W.cell? ⟨q, 0, none⟩ = some (.slice (some ⟨cb, co, none⟩) len cap) ∧ W.cell? ⟨cb, co + j * 4 + 3, none⟩ = some (.bool k3)) (first | assumption | (refine ⟨Grow.cell ?_ c0, Grow.cell ?_ cf⟩ <;> (repeat (first | exact Chg.refl _ _ | refine Chg.drew ?_ | refine Chg.alloc ?_ _)))) (first | (refine step_app (by rfl) _ _ _ (by rfl) o1 (.slice (some ⟨W1.heap.size + 1 + 1, 0, none⟩) 1 1) o2 W2 (by rfl) (by rfl) K1.out ?_) | (refine step_app (by rfl) _ _ _ (by rfl) o1 (.slice (some ⟨W1.heap.size + 1 + 1, 0, none⟩) 1 1) o3 W3 (by rfl) (by rfl) K2.out ?_))
          · skip
            clear hk1 hk2 mk1 mk2 K1 K2 c0 c1 cf hwc q5 hjl cc1 q1
            have hs3 : Src W2 (.slice (some ⟨g, 0, none⟩) 0 0) 0 (rfC r d (L.drop n)) := (by rw [HDN.out]; exact .inr ⟨_, _, rfl, rfl, fun j u hj => by simp at hj, fun u hu => by cases hu⟩)
            obtain ⟨o4, W4, hr4, ho4, cc4, hb4⟩ := app_more H1.out.1 H1.out.2.1 hs3 (by have := HL.out; have := HNN.out; have := HP.out.1; omega)
            obtain ⟨a4, c4, rfl⟩ := own_len ho4
            have KA4 := hide hr4
            have e1 : ∀ rb db : Nat, ndC ⟨i, c, zeros R.toNat, zeros D.toNat, k3⟩ rb db = [.int .i64 i, .int .i64 c, .slice (some ⟨rb, 0, none⟩) R.toNat R.toNat, .slice (some ⟨db, 0, none⟩) D.toNat D.toNat, .bool k3] := fun rb db => by simp [ndC, zeros_length]
            rw [← e1] at ho4
            have ho5 := own_cast ho4 (show n + 1 + 0 = L.length + 1 by have := HNN.out; have := HP.out.1; omega)
            have hsz := HCC1.out.size
            have c1 := Grow.cell H1.out.1 HC1.out
            have hq1 := Grow.cell cc4 HC1.out
            have hqf : W4.frozen? ⟨q, 1, none⟩ = false := (HF.out.blk.chg cc4 id).frozen 1
            have HFIN := hide (HF.out.ins (x := ⟨i, c, zeros R.toNat, zeros D.toNat, k3⟩) HNO.out HO.out HI1.out cc4 (hb4 _ _ H1.out.2.2.1) (hb4 _ _ H1.out.2.2.2) (by omega) (by omega) (by omega) ho5 (ins_at HP.out.2.1 (fun y hy h => by have h' : y.id < i := h; have := HP.out.2.2 y hy; omega)))
            clear hr4 ho4 ho5 hb4 e1 hsz hs3
            go_wp2_with (at_builtin; refine wpList_app rfl _ _ 41 rfl o2 (.slice (some ⟨g, 0, none⟩) 0 0) (.slice a4 (n + 1 + 0) c4) _ W4 rfl rfl KA4.out ?_)
            go_ret
            rw [HN.out]
            exact ⟨rfl, HFIN.out⟩
          · skip
            clear hk1 hk2 mk1 mk2 K1 K2 c0 c1 cf hwc q5 hjl cc1 q1
            have hs3 : Src W3 (.slice (some ⟨g, 0, none⟩) 0 0) 0 (rfC r d (L.drop n)) := (by rw [HDN.out]; exact .inr ⟨_, _, rfl, rfl, fun j u hj => by simp at hj, fun u hu => by cases hu⟩)
            obtain ⟨o4, W4, hr4, ho4, cc4, hb4⟩ := app_more H2.out.1 H2.out.2.1 hs3 (by have := HL.out; have := HNN.out; have := HP.out.1; omega)
            obtain ⟨a4, c4, rfl⟩ := own_len ho4
            have KA4 := hide hr4
            have e1 : ∀ rb db : Nat, ndC ⟨i, c, zeros R.toNat, zeros D.toNat, k3⟩ rb db = [.int .i64 i, .int .i64 c, .slice (some ⟨rb, 0, none⟩) R.toNat R.toNat, .slice (some ⟨db, 0, none⟩) D.toNat D.toNat, .bool k3] := fun rb db => by simp [ndC, zeros_length]
            rw [← e1] at ho4
            have ho5 := own_cast ho4 (show n + 1 + 0 = L.length + 1 by have := HNN.out; have := HP.out.1; omega)
            have hsz := HCC1.out.size
            have c1 := Grow.cell H2.out.1 HC1.out
            have hq1 := Grow.cell cc4 HC1.out
            have hqf : W4.frozen? ⟨q, 1, none⟩ = false := (HF.out.blk.chg cc4 id).frozen 1
            have HFIN := hide (HF.out.ins (x := ⟨i, c, zeros R.toNat, zeros D.toNat, k3⟩) HNO.out HO.out HI1.out cc4 (hb4 _ _ H2.out.2.2.2) (hb4 _ _ H2.out.2.2.1) (by omega) (by omega) (by omega) ho5 (ins_at HP.out.2.1 (fun y hy h => by have h' : y.id < i := h; have := HP.out.2.2 y hy; omega)))
            clear hr4 ho4 ho5 hb4 e1 hsz hs3
            go_wp2_with (at_builtin; refine wpList_app rfl _ _ 41 rfl o3 (.slice (some ⟨g, 0, none⟩) 0 0) (.slice a4 (n + 1 + 0) c4) _ W4 rfl rfl KA4.out ?_)
            go_ret
            rw [HN.out]
            exact ⟨rfl, HFIN.out⟩
        · have hvn2 : ¬ vc = n := by omega
          skip
          obtain ⟨o1, W1, hr1, ho1, cc1, -⟩ := app_more g1 (World.ownsRow_nil w1 w.heap.size 38 5) ((HF.out.chg g1 fun _ _ => id).src_take (c' := vc) (by rw [HNN.out]; exact HP.out.1)) (by have := HL.out; have := HNN.out; omega)
          rw [Nat.zero_add, List.nil_append] at ho1
          have KA := hide hr1
          have HO1 := hide ho1
          have HCC1 := hide cc1
          clear hr1 ho1
          go_wp2_with (at_builtin; refine wpList_app rfl _ _ 41 rfl (.slice none 0 0) (.slice (some ⟨g, 0, none⟩) n vc) o1 _ W1 rfl rfl KA.out ?_)
          clear KA hw
          clear q3
          replace c0 := Grow.cell cc1 HC0.out
          replace c1 := Grow.cell cc1 HC1.out
          have cf := Grow.cell cc1 HCF.out
          have hjl := HJ.out.1
          have hwc : IntKind.i64.wrap (c - 1) = (j : Int) := (IntWalk.i64_in _ (by have := HJ.out; omega)).trans (by have := HJ.out; omega)
          have q5 : decide ((j : Int) < (len : Int)) = true := decide_eq_true (by omega)
          have eR : (zeros R.toNat).length = R.toNat := zeros_length _
          have eD : (zeros D.toNat).length = D.toNat := zeros_length _
          have X1 := (((cc1.alloc (.cells (ints (zeros R.toNat)).toArray 3)).alloc (.cells (ints (zeros D.toNat)).toArray 3)).alloc (.cells #[.int .i64 i, .int .i64 c, .slice (some ⟨W1.heap.size, 0, none⟩) R.toNat R.toNat, .slice (some ⟨W1.heap.size + 1, 0, none⟩) D.toNat D.toNat, .bool k3] 38)).drew
          have Y1 := ((((Chg.refl _ W1 : Grow W1 W1).alloc (.cells (ints (zeros R.toNat)).toArray 3)).alloc (.cells (ints (zeros D.toNat)).toArray 3)).alloc (.cells #[.int .i64 i, .int .i64 c, .slice (some ⟨W1.heap.size, 0, none⟩) R.toNat R.toNat, .slice (some ⟨W1.heap.size + 1, 0, none⟩) D.toNat D.toNat, .bool k3] 38)).drew
          have B1 := Blk.new ((W1.alloc (.cells (ints (zeros R.toNat)).toArray 3)).alloc (.cells (ints (zeros D.toNat)).toArray 3)) 38 [.int .i64 i, .int .i64 c, .slice (some ⟨W1.heap.size, 0, none⟩) R.toNat R.toNat, .slice (some ⟨W1.heap.size + 1, 0, none⟩) D.toNat D.toNat, .bool k3]
          rw [show ((W1.alloc (.cells (ints (zeros R.toNat)).toArray 3)).alloc (.cells (ints (zeros D.toNat)).toArray 3)).heap.size = W1.heap.size + 1 + 1 by simp] at B1
          obtain ⟨o2, W2, hr2, ho2, cc2, hb2⟩ := app_more X1 (own_grow HO1.out Y1) (s := .slice (some ⟨W1.heap.size + 1 + 1, 0, none⟩) 1 1) (m := 1) (ys := [.int .i64 i, .int .i64 c, .slice (some ⟨W1.heap.size, 0, none⟩) R.toNat R.toNat, .slice (some ⟨W1.heap.size + 1, 0, none⟩) D.toNat D.toNat, .bool k3]) (.inr ⟨_, _, rfl, rfl, fun j u hj => by rw [addr_add, Nat.zero_add]; exact (B1.drew.cell j).trans hj, fun u hu => by simp at hu; rcases hu with rfl | rfl | rfl | rfl | rfl <;> rfl⟩) (by have := HL.out; have := HNN.out; have := HP.out.1; omega)
          have X2 := (((cc1.alloc (.cells (ints (zeros D.toNat)).toArray 3)).alloc (.cells (ints (zeros R.toNat)).toArray 3)).alloc (.cells #[.int .i64 i, .int .i64 c, .slice (some ⟨W1.heap.size + 1, 0, none⟩) R.toNat R.toNat, .slice (some ⟨W1.heap.size, 0, none⟩) D.toNat D.toNat, .bool k3] 38)).drew
          have Y2 := ((((Chg.refl _ W1 : Grow W1 W1).alloc (.cells (ints (zeros D.toNat)).toArray 3)).alloc (.cells (ints (zeros R.toNat)).toArray 3)).alloc (.cells #[.int .i64 i, .int .i64 c, .slice (some ⟨W1.heap.size + 1, 0, none⟩) R.toNat R.toNat, .slice (some ⟨W1.heap.size, 0, none⟩) D.toNat D.toNat, .bool k3] 38)).drew
          have B2 := Blk.new ((W1.alloc (.cells (ints (zeros D.toNat)).toArray 3)).alloc (.cells (ints (zeros R.toNat)).toArray 3)) 38 [.int .i64 i, .int .i64 c, .slice (some ⟨W1.heap.size + 1, 0, none⟩) R.toNat R.toNat, .slice (some ⟨W1.heap.size, 0, none⟩) D.toNat D.toNat, .bool k3]
          rw [show ((W1.alloc (.cells (ints (zeros D.toNat)).toArray 3)).alloc (.cells (ints (zeros R.toNat)).toArray 3)).heap.size = W1.heap.size + 1 + 1 by simp] at B2
          obtain ⟨o3, W3, hr3, ho3, cc3, hb3⟩ := app_more X2 (own_grow HO1.out Y2) (s := .slice (some ⟨W1.heap.size + 1 + 1, 0, none⟩) 1 1) (m := 1) (ys := [.int .i64 i, .int .i64 c, .slice (some ⟨W1.heap.size + 1, 0, none⟩) R.toNat R.toNat, .slice (some ⟨W1.heap.size, 0, none⟩) D.toNat D.toNat, .bool k3]) (.inr ⟨_, _, rfl, rfl, fun j u hj => by rw [addr_add, Nat.zero_add]; exact (B2.drew.cell j).trans hj, fun u hu => by simp at hu; rcases hu with rfl | rfl | rfl | rfl | rfl <;> rfl⟩) (by have := HL.out; have := HNN.out; have := HP.out.1; omega)
          have A1 := hb2 _ _ ((((Blk.new W1 3 (ints (zeros R.toNat))).alloc (.cells (ints (zeros D.toNat)).toArray 3)).alloc (.cells #[.int .i64 i, .int .i64 c, .slice (some ⟨W1.heap.size, 0, none⟩) R.toNat R.toNat, .slice (some ⟨W1.heap.size + 1, 0, none⟩) D.toNat D.toNat, .bool k3] 38)).drew)
          have A2 := hb3 _ _ ((((Blk.new W1 3 (ints (zeros D.toNat))).alloc (.cells (ints (zeros R.toNat)).toArray 3)).alloc (.cells #[.int .i64 i, .int .i64 c, .slice (some ⟨W1.heap.size + 1, 0, none⟩) R.toNat R.toNat, .slice (some ⟨W1.heap.size, 0, none⟩) D.toNat D.toNat, .bool k3] 38)).drew)
          have D1 := hb2 _ _ (((Blk.new (W1.alloc (.cells (ints (zeros R.toNat)).toArray 3)) 3 (ints (zeros D.toNat))).alloc (.cells #[.int .i64 i, .int .i64 c, .slice (some ⟨W1.heap.size, 0, none⟩) R.toNat R.toNat, .slice (some ⟨W1.heap.size + 1, 0, none⟩) D.toNat D.toNat, .bool k3] 38)).drew)
          have D2 := hb3 _ _ (((Blk.new (W1.alloc (.cells (ints (zeros D.toNat)).toArray 3)) 3 (ints (zeros R.toNat))).alloc (.cells #[.int .i64 i, .int .i64 c, .slice (some ⟨W1.heap.size + 1, 0, none⟩) R.toNat R.toNat, .slice (some ⟨W1.heap.size, 0, none⟩) D.toNat D.toNat, .bool k3] 38)).drew)
          rw [show (W1.alloc (.cells (ints (zeros R.toNat)).toArray 3)).heap.size = W1.heap.size + 1 by simp] at D1
          rw [show (W1.alloc (.cells (ints (zeros D.toNat)).toArray 3)).heap.size = W1.heap.size + 1 by simp] at D2
          have H1 := hide (And.intro cc2 (And.intro ho2 (And.intro A1 D1)))
          have H2 := hide (And.intro cc3 (And.intro ho3 (And.intro A2 D2)))
          have K1 := hide hr2
          have K2 := hide hr3
          have hk1 : W2.cell? ⟨q, 0, none⟩ = some (.slice (some ⟨cb, co, none⟩) len cap) ∧ W2.cell? ⟨cb, co + j * 4 + 3, none⟩ = some (.bool k3) := ⟨Grow.cell cc2 HC0.out, Grow.cell cc2 HCF.out⟩
          have hk2 : W3.cell? ⟨q, 0, none⟩ = some (.slice (some ⟨cb, co, none⟩) len cap) ∧ W3.cell? ⟨cb, co + j * 4 + 3, none⟩ = some (.bool k3) := ⟨Grow.cell cc3 HC0.out, Grow.cell cc3 HCF.out⟩
          clear hr2 ho2 cc2 hb2 hr3 ho3 cc3 hb3 A1 A2 D1 D2 X1 X2 Y1 Y2 B1 B2 eR eD
          go_wp2_with fail
          go_region_held3 (fun W => W.cell? ⟨q, 0, none⟩ = some (.slice (some ⟨cb, co, none⟩) len cap) ∧ W.cell? ⟨cb, co + j * 4 + 3, none⟩ = some (.bool k3)) (first | assumption | (refine ⟨Grow.cell ?_ c0, Grow.cell ?_ cf⟩ <;> (repeat (first | exact Chg.refl _ _ | refine Chg.drew ?_ | refine Chg.alloc ?_ _)))) (first | (refine step_app (by rfl) _ _ _ (by rfl) o1 (.slice (some ⟨W1.heap.size + 1 + 1, 0, none⟩) 1 1) o2 W2 (by rfl) (by rfl) K1.out ?_) | (refine step_app (by rfl) _ _ _ (by rfl) o1 (.slice (some ⟨W1.heap.size + 1 + 1, 0, none⟩) 1 1) o3 W3 (by rfl) (by rfl) K2.out ?_))
          · skip
            clear hk1 hk2 mk1 mk2 K1 K2 c0 c1 cf hwc q5 hjl cc1 q1
            have hs3 : Src W2 (.slice (some ⟨g, n * 5, none⟩) 0 (vc - n)) 0 (rfC r d (L.drop n)) := (by rw [HDN.out]; exact .inr ⟨_, _, rfl, rfl, fun j u hj => by simp at hj, fun u hu => by cases hu⟩)
            obtain ⟨o4, W4, hr4, ho4, cc4, hb4⟩ := app_more H1.out.1 H1.out.2.1 hs3 (by have := HL.out; have := HNN.out; have := HP.out.1; omega)
            obtain ⟨a4, c4, rfl⟩ := own_len ho4
            have KA4 := hide hr4
            have e1 : ∀ rb db : Nat, ndC ⟨i, c, zeros R.toNat, zeros D.toNat, k3⟩ rb db = [.int .i64 i, .int .i64 c, .slice (some ⟨rb, 0, none⟩) R.toNat R.toNat, .slice (some ⟨db, 0, none⟩) D.toNat D.toNat, .bool k3] := fun rb db => by simp [ndC, zeros_length]
            rw [← e1] at ho4
            have ho5 := own_cast ho4 (show n + 1 + 0 = L.length + 1 by have := HNN.out; have := HP.out.1; omega)
            have hsz := HCC1.out.size
            have c1 := Grow.cell H1.out.1 HC1.out
            have hq1 := Grow.cell cc4 HC1.out
            have hqf : W4.frozen? ⟨q, 1, none⟩ = false := (HF.out.blk.chg cc4 id).frozen 1
            have HFIN := hide (HF.out.ins (x := ⟨i, c, zeros R.toNat, zeros D.toNat, k3⟩) HNO.out HO.out HI1.out cc4 (hb4 _ _ H1.out.2.2.1) (hb4 _ _ H1.out.2.2.2) (by omega) (by omega) (by omega) ho5 (ins_at HP.out.2.1 (fun y hy h => by have h' : y.id < i := h; have := HP.out.2.2 y hy; omega)))
            clear hr4 ho4 ho5 hb4 e1 hsz hs3
            go_wp2_with (at_builtin; refine wpList_app rfl _ _ 41 rfl o2 (.slice (some ⟨g, n * 5, none⟩) 0 (vc - n)) (.slice a4 (n + 1 + 0) c4) _ W4 rfl rfl KA4.out ?_)
            go_ret
            rw [HN.out]
            exact ⟨rfl, HFIN.out⟩
          · skip
            clear hk1 hk2 mk1 mk2 K1 K2 c0 c1 cf hwc q5 hjl cc1 q1
            have hs3 : Src W3 (.slice (some ⟨g, n * 5, none⟩) 0 (vc - n)) 0 (rfC r d (L.drop n)) := (by rw [HDN.out]; exact .inr ⟨_, _, rfl, rfl, fun j u hj => by simp at hj, fun u hu => by cases hu⟩)
            obtain ⟨o4, W4, hr4, ho4, cc4, hb4⟩ := app_more H2.out.1 H2.out.2.1 hs3 (by have := HL.out; have := HNN.out; have := HP.out.1; omega)
            obtain ⟨a4, c4, rfl⟩ := own_len ho4
            have KA4 := hide hr4
            have e1 : ∀ rb db : Nat, ndC ⟨i, c, zeros R.toNat, zeros D.toNat, k3⟩ rb db = [.int .i64 i, .int .i64 c, .slice (some ⟨rb, 0, none⟩) R.toNat R.toNat, .slice (some ⟨db, 0, none⟩) D.toNat D.toNat, .bool k3] := fun rb db => by simp [ndC, zeros_length]
            rw [← e1] at ho4
            have ho5 := own_cast ho4 (show n + 1 + 0 = L.length + 1 by have := HNN.out; have := HP.out.1; omega)
            have hsz := HCC1.out.size
            have c1 := Grow.cell H2.out.1 HC1.out
            have hq1 := Grow.cell cc4 HC1.out
            have hqf : W4.frozen? ⟨q, 1, none⟩ = false := (HF.out.blk.chg cc4 id).frozen 1
            have HFIN := hide (HF.out.ins (x := ⟨i, c, zeros R.toNat, zeros D.toNat, k3⟩) HNO.out HO.out HI1.out cc4 (hb4 _ _ H2.out.2.2.2) (hb4 _ _ H2.out.2.2.1) (by omega) (by omega) (by omega) ho5 (ins_at HP.out.2.1 (fun y hy h => by have h' : y.id < i := h; have := HP.out.2.2 y hy; omega)))
            clear hr4 ho4 ho5 hb4 e1 hsz hs3
            go_wp2_with (at_builtin; refine wpList_app rfl _ _ 41 rfl o3 (.slice (some ⟨g, n * 5, none⟩) 0 (vc - n)) (.slice a4 (n + 1 + 0) c4) _ W4 rfl rfl KA4.out ?_)
            go_ret
            rw [HN.out]
            exact ⟨rfl, HFIN.out⟩
      · have q3 : decide ((p : Int) < (n : Int)) = true := decide_eq_true (by omega)
        obtain ⟨y, hy⟩ : ∃ y, L[p]? = some y := ⟨_, List.getElem?_eq_getElem (by rw [HNN.out]; exact hlt)⟩
        obtain ⟨g', hg', -, -, -, x0, -⟩ := (HF.out.chg g1 fun _ _ => id).at2 hy
        injection hg' with hg'
        injection hg' with hg'
        subst hg'
        by_cases hyi : y.id < i
        · have q4 : decide (y.id < i) = true := decide_eq_true hyi
          have HLO := hide (show ∀ m y, m < p + 1 → L[m]? = some y → y.id < i from fun m u hm hu => by
            rcases Nat.lt_succ_iff_lt_or_eq.1 hm with h | rfl
            · exact hlo m u h hu
            · rw [hy] at hu; injection hu with hu; subst hu; exact hyi)
          have HLT := hide hlt
          clear hlo hy hyi hp hlt
          generalize y.id = u at *
          go_wp2
          go_roundw
          case rel => exact ⟨p + 1, HLT.out, rfl, HLO.out, by first | rfl | trivial⟩
          case measure => have := HLT.out; simp [Go.RowKit.intOf]; omega
        · have q4 : decide (y.id < i) = false := decide_eq_false hyi
          have hhi : ∀ u, L[p]? = some u → ¬ u.id < i := fun u hu => by rw [hy] at hu; injection hu with hu; subst hu; exact hyi
          clear hy hyi
          have HP := hide (show p ≤ n ∧ (∀ m y, m < p → L[m]? = some y → y.id < i) ∧ ∀ u, L[p]? = some u → i ≤ u.id from ⟨hp, hlo, fun y hy => by have := hhi y hy; omega⟩)
          clear hhi hlo
          generalize y.id = u at *
          skip
          obtain ⟨o1, W1, hr1, ho1, cc1, -⟩ := app_more g1 (World.ownsRow_nil w1 w.heap.size 38 5) ((HF.out.chg g1 fun _ _ => id).src_take (c' := vc) (by rw [HNN.out]; exact HP.out.1)) (by have := HL.out; have := HNN.out; omega)
          rw [Nat.zero_add, List.nil_append] at ho1
          have KA := hide hr1
          have HO1 := hide ho1
          have HCC1 := hide cc1
          clear hr1 ho1
          go_wp2_with (at_builtin; refine wpList_app rfl _ _ 41 rfl (.slice none 0 0) (.slice (some ⟨g, 0, none⟩) p vc) o1 _ W1 rfl rfl KA.out ?_)
          clear KA hw
          clear x0 q4
          replace c0 := Grow.cell cc1 HC0.out
          replace c1 := Grow.cell cc1 HC1.out
          have cf := Grow.cell cc1 HCF.out
          have hjl := HJ.out.1
          have hwc : IntKind.i64.wrap (c - 1) = (j : Int) := (IntWalk.i64_in _ (by have := HJ.out; omega)).trans (by have := HJ.out; omega)
          have q5 : decide ((j : Int) < (len : Int)) = true := decide_eq_true (by omega)
          have eR : (zeros R.toNat).length = R.toNat := zeros_length _
          have eD : (zeros D.toNat).length = D.toNat := zeros_length _
          have X1 := (((cc1.alloc (.cells (ints (zeros R.toNat)).toArray 3)).alloc (.cells (ints (zeros D.toNat)).toArray 3)).alloc (.cells #[.int .i64 i, .int .i64 c, .slice (some ⟨W1.heap.size, 0, none⟩) R.toNat R.toNat, .slice (some ⟨W1.heap.size + 1, 0, none⟩) D.toNat D.toNat, .bool k3] 38)).drew
          have Y1 := ((((Chg.refl _ W1 : Grow W1 W1).alloc (.cells (ints (zeros R.toNat)).toArray 3)).alloc (.cells (ints (zeros D.toNat)).toArray 3)).alloc (.cells #[.int .i64 i, .int .i64 c, .slice (some ⟨W1.heap.size, 0, none⟩) R.toNat R.toNat, .slice (some ⟨W1.heap.size + 1, 0, none⟩) D.toNat D.toNat, .bool k3] 38)).drew
          have B1 := Blk.new ((W1.alloc (.cells (ints (zeros R.toNat)).toArray 3)).alloc (.cells (ints (zeros D.toNat)).toArray 3)) 38 [.int .i64 i, .int .i64 c, .slice (some ⟨W1.heap.size, 0, none⟩) R.toNat R.toNat, .slice (some ⟨W1.heap.size + 1, 0, none⟩) D.toNat D.toNat, .bool k3]
          rw [show ((W1.alloc (.cells (ints (zeros R.toNat)).toArray 3)).alloc (.cells (ints (zeros D.toNat)).toArray 3)).heap.size = W1.heap.size + 1 + 1 by simp] at B1
          obtain ⟨o2, W2, hr2, ho2, cc2, hb2⟩ := app_more X1 (own_grow HO1.out Y1) (s := .slice (some ⟨W1.heap.size + 1 + 1, 0, none⟩) 1 1) (m := 1) (ys := [.int .i64 i, .int .i64 c, .slice (some ⟨W1.heap.size, 0, none⟩) R.toNat R.toNat, .slice (some ⟨W1.heap.size + 1, 0, none⟩) D.toNat D.toNat, .bool k3]) (.inr ⟨_, _, rfl, rfl, fun j u hj => by rw [addr_add, Nat.zero_add]; exact (B1.drew.cell j).trans hj, fun u hu => by simp at hu; rcases hu with rfl | rfl | rfl | rfl | rfl <;> rfl⟩) (by have := HL.out; have := HNN.out; have := HP.out.1; omega)
          have X2 := (((cc1.alloc (.cells (ints (zeros D.toNat)).toArray 3)).alloc (.cells (ints (zeros R.toNat)).toArray 3)).alloc (.cells #[.int .i64 i, .int .i64 c, .slice (some ⟨W1.heap.size + 1, 0, none⟩) R.toNat R.toNat, .slice (some ⟨W1.heap.size, 0, none⟩) D.toNat D.toNat, .bool k3] 38)).drew
          have Y2 := ((((Chg.refl _ W1 : Grow W1 W1).alloc (.cells (ints (zeros D.toNat)).toArray 3)).alloc (.cells (ints (zeros R.toNat)).toArray 3)).alloc (.cells #[.int .i64 i, .int .i64 c, .slice (some ⟨W1.heap.size + 1, 0, none⟩) R.toNat R.toNat, .slice (some ⟨W1.heap.size, 0, none⟩) D.toNat D.toNat, .bool k3] 38)).drew
          have B2 := Blk.new ((W1.alloc (.cells (ints (zeros D.toNat)).toArray 3)).alloc (.cells (ints (zeros R.toNat)).toArray 3)) 38 [.int .i64 i, .int .i64 c, .slice (some ⟨W1.heap.size + 1, 0, none⟩) R.toNat R.toNat, .slice (some ⟨W1.heap.size, 0, none⟩) D.toNat D.toNat, .bool k3]
          rw [show ((W1.alloc (.cells (ints (zeros D.toNat)).toArray 3)).alloc (.cells (ints (zeros R.toNat)).toArray 3)).heap.size = W1.heap.size + 1 + 1 by simp] at B2
          obtain ⟨o3, W3, hr3, ho3, cc3, hb3⟩ := app_more X2 (own_grow HO1.out Y2) (s := .slice (some ⟨W1.heap.size + 1 + 1, 0, none⟩) 1 1) (m := 1) (ys := [.int .i64 i, .int .i64 c, .slice (some ⟨W1.heap.size + 1, 0, none⟩) R.toNat R.toNat, .slice (some ⟨W1.heap.size, 0, none⟩) D.toNat D.toNat, .bool k3]) (.inr ⟨_, _, rfl, rfl, fun j u hj => by rw [addr_add, Nat.zero_add]; exact (B2.drew.cell j).trans hj, fun u hu => by simp at hu; rcases hu with rfl | rfl | rfl | rfl | rfl <;> rfl⟩) (by have := HL.out; have := HNN.out; have := HP.out.1; omega)
          have A1 := hb2 _ _ ((((Blk.new W1 3 (ints (zeros R.toNat))).alloc (.cells (ints (zeros D.toNat)).toArray 3)).alloc (.cells #[.int .i64 i, .int .i64 c, .slice (some ⟨W1.heap.size, 0, none⟩) R.toNat R.toNat, .slice (some ⟨W1.heap.size + 1, 0, none⟩) D.toNat D.toNat, .bool k3] 38)).drew)
          have A2 := hb3 _ _ ((((Blk.new W1 3 (ints (zeros D.toNat))).alloc (.cells (ints (zeros R.toNat)).toArray 3)).alloc (.cells #[.int .i64 i, .int .i64 c, .slice (some ⟨W1.heap.size + 1, 0, none⟩) R.toNat R.toNat, .slice (some ⟨W1.heap.size, 0, none⟩) D.toNat D.toNat, .bool k3] 38)).drew)
          have D1 := hb2 _ _ (((Blk.new (W1.alloc (.cells (ints (zeros R.toNat)).toArray 3)) 3 (ints (zeros D.toNat))).alloc (.cells #[.int .i64 i, .int .i64 c, .slice (some ⟨W1.heap.size, 0, none⟩) R.toNat R.toNat, .slice (some ⟨W1.heap.size + 1, 0, none⟩) D.toNat D.toNat, .bool k3] 38)).drew)
          have D2 := hb3 _ _ (((Blk.new (W1.alloc (.cells (ints (zeros D.toNat)).toArray 3)) 3 (ints (zeros R.toNat))).alloc (.cells #[.int .i64 i, .int .i64 c, .slice (some ⟨W1.heap.size + 1, 0, none⟩) R.toNat R.toNat, .slice (some ⟨W1.heap.size, 0, none⟩) D.toNat D.toNat, .bool k3] 38)).drew)
          rw [show (W1.alloc (.cells (ints (zeros R.toNat)).toArray 3)).heap.size = W1.heap.size + 1 by simp] at D1
          rw [show (W1.alloc (.cells (ints (zeros D.toNat)).toArray 3)).heap.size = W1.heap.size + 1 by simp] at D2
          have H1 := hide (And.intro cc2 (And.intro ho2 (And.intro A1 D1)))
          have H2 := hide (And.intro cc3 (And.intro ho3 (And.intro A2 D2)))
          have K1 := hide hr2
          have K2 := hide hr3
          have hk1 : W2.cell? ⟨q, 0, none⟩ = some (.slice (some ⟨cb, co, none⟩) len cap) ∧ W2.cell? ⟨cb, co + j * 4 + 3, none⟩ = some (.bool k3) := ⟨Grow.cell cc2 HC0.out, Grow.cell cc2 HCF.out⟩
          have hk2 : W3.cell? ⟨q, 0, none⟩ = some (.slice (some ⟨cb, co, none⟩) len cap) ∧ W3.cell? ⟨cb, co + j * 4 + 3, none⟩ = some (.bool k3) := ⟨Grow.cell cc3 HC0.out, Grow.cell cc3 HCF.out⟩
          clear hr2 ho2 cc2 hb2 hr3 ho3 cc3 hb3 A1 A2 D1 D2 X1 X2 Y1 Y2 B1 B2 eR eD
          go_wp2_with fail
          go_region_held3 (fun W => W.cell? ⟨q, 0, none⟩ = some (.slice (some ⟨cb, co, none⟩) len cap) ∧ W.cell? ⟨cb, co + j * 4 + 3, none⟩ = some (.bool k3)) (first | assumption | (refine ⟨Grow.cell ?_ c0, Grow.cell ?_ cf⟩ <;> (repeat (first | exact Chg.refl _ _ | refine Chg.drew ?_ | refine Chg.alloc ?_ _)))) (first | (refine step_app (by rfl) _ _ _ (by rfl) o1 (.slice (some ⟨W1.heap.size + 1 + 1, 0, none⟩) 1 1) o2 W2 (by rfl) (by rfl) K1.out ?_) | (refine step_app (by rfl) _ _ _ (by rfl) o1 (.slice (some ⟨W1.heap.size + 1 + 1, 0, none⟩) 1 1) o3 W3 (by rfl) (by rfl) K2.out ?_))
          · skip
            clear hk1 hk2 mk1 mk2 K1 K2 c0 c1 cf hwc q5 hjl cc1 q1
            have hs3 : Src W2 (.slice (some ⟨g, p * 5, none⟩) (n - p) (vc - p)) (n - p) (rfC r d (L.drop p)) := (by have := (HF.out.chg H1.out.1 fun _ _ => id).src_drop (p := p) (c' := vc - p) (by rw [HNN.out]; exact HP.out.1); rwa [HNN.out] at this)
            obtain ⟨o4, W4, hr4, ho4, cc4, hb4⟩ := app_more H1.out.1 H1.out.2.1 hs3 (by have := HL.out; have := HNN.out; have := HP.out.1; omega)
            obtain ⟨a4, c4, rfl⟩ := own_len ho4
            have KA4 := hide hr4
            have e1 : ∀ rb db : Nat, ndC ⟨i, c, zeros R.toNat, zeros D.toNat, k3⟩ rb db = [.int .i64 i, .int .i64 c, .slice (some ⟨rb, 0, none⟩) R.toNat R.toNat, .slice (some ⟨db, 0, none⟩) D.toNat D.toNat, .bool k3] := fun rb db => by simp [ndC, zeros_length]
            rw [← e1] at ho4
            have ho5 := own_cast ho4 (show p + 1 + (n - p) = L.length + 1 by have := HNN.out; have := HP.out.1; omega)
            have hsz := HCC1.out.size
            have c1 := Grow.cell H1.out.1 HC1.out
            have hq1 := Grow.cell cc4 HC1.out
            have hqf : W4.frozen? ⟨q, 1, none⟩ = false := (HF.out.blk.chg cc4 id).frozen 1
            have HFIN := hide (HF.out.ins (x := ⟨i, c, zeros R.toNat, zeros D.toNat, k3⟩) HNO.out HO.out HI1.out cc4 (hb4 _ _ H1.out.2.2.1) (hb4 _ _ H1.out.2.2.2) (by omega) (by omega) (by omega) ho5 (ins_at HP.out.2.1 (fun y hy h => by have h' : y.id < i := h; have := HP.out.2.2 y hy; omega)))
            clear hr4 ho4 ho5 hb4 e1 hsz hs3
            go_wp2_with (at_builtin; refine wpList_app rfl _ _ 41 rfl o2 (.slice (some ⟨g, p * 5, none⟩) (n - p) (vc - p)) (.slice a4 (p + 1 + (n - p)) c4) _ W4 rfl rfl KA4.out ?_)
            go_ret
            rw [HN.out]
            exact ⟨rfl, HFIN.out⟩
          · skip
            clear hk1 hk2 mk1 mk2 K1 K2 c0 c1 cf hwc q5 hjl cc1 q1
            have hs3 : Src W3 (.slice (some ⟨g, p * 5, none⟩) (n - p) (vc - p)) (n - p) (rfC r d (L.drop p)) := (by have := (HF.out.chg H2.out.1 fun _ _ => id).src_drop (p := p) (c' := vc - p) (by rw [HNN.out]; exact HP.out.1); rwa [HNN.out] at this)
            obtain ⟨o4, W4, hr4, ho4, cc4, hb4⟩ := app_more H2.out.1 H2.out.2.1 hs3 (by have := HL.out; have := HNN.out; have := HP.out.1; omega)
            obtain ⟨a4, c4, rfl⟩ := own_len ho4
            have KA4 := hide hr4
            have e1 : ∀ rb db : Nat, ndC ⟨i, c, zeros R.toNat, zeros D.toNat, k3⟩ rb db = [.int .i64 i, .int .i64 c, .slice (some ⟨rb, 0, none⟩) R.toNat R.toNat, .slice (some ⟨db, 0, none⟩) D.toNat D.toNat, .bool k3] := fun rb db => by simp [ndC, zeros_length]
            rw [← e1] at ho4
            have ho5 := own_cast ho4 (show p + 1 + (n - p) = L.length + 1 by have := HNN.out; have := HP.out.1; omega)
            have hsz := HCC1.out.size
            have c1 := Grow.cell H2.out.1 HC1.out
            have hq1 := Grow.cell cc4 HC1.out
            have hqf : W4.frozen? ⟨q, 1, none⟩ = false := (HF.out.blk.chg cc4 id).frozen 1
            have HFIN := hide (HF.out.ins (x := ⟨i, c, zeros R.toNat, zeros D.toNat, k3⟩) HNO.out HO.out HI1.out cc4 (hb4 _ _ H2.out.2.2.2) (hb4 _ _ H2.out.2.2.1) (by omega) (by omega) (by omega) ho5 (ins_at HP.out.2.1 (fun y hy h => by have h' : y.id < i := h; have := HP.out.2.2 y hy; omega)))
            clear hr4 ho4 ho5 hb4 e1 hsz hs3
            go_wp2_with (at_builtin; refine wpList_app rfl _ _ 41 rfl o3 (.slice (some ⟨g, p * 5, none⟩) (n - p) (vc - p)) (.slice a4 (p + 1 + (n - p)) c4) _ W4 rfl rfl KA4.out ?_)
            go_ret
            rw [HN.out]
            exact ⟨rfl, HFIN.out⟩
/-- Add. -/
theorem add_r (h : RG w z T q (.slice a len cap) L) (hc : IsCls w a len cap cs) (ho : Lok cs L) (hall : cs.all Cl.rt = true) (hl : L.length < 1000000) (hlen : len < 1000000) (i c l : Int) :
    Calls Tryz.prog 21 #[ptr q, .int .i64 i, .int .i64 c, .int .i64 l] w fun e w' => e = .returned (.int .i64 (adX cs L i c l)) ∧ Chg T w w' ∧ ∃ T', RG w' z T' q (.slice a len cap) (adL cs L i c l) ∧ ∀ k, T' k → T k ∨ w.heap.size ≤ k := by
  by_cases hX : adX cs L i c l = 0
  · unfold adL
    rw [if_pos hX, hX]
    exact radd_yes h hc ho hall hl hlen hX
  · unfold adL
    rw [if_neg hX]
    exact (radd_no h hc ho hall hl rfl hX).mono fun e w' ⟨h1, h2⟩ => ⟨h1, h2.mono fun _ _ h => h.elim, T, h.grow h2, fun k hk => .inl hk⟩
end
end Go.Proofs.YtjfpjnhlnoiekaaGreat.L9
/- The plain graph: Keep. Conditions: fewer than 1000000 nodes and names. -/
namespace Go.Proofs.YtjfpjnhlnoiekaaGreat.L9
open Go.ChangeShapes Go.WideShapes Go.ChangeAt Go.RowKit
open Go.Proofs.YtjfpjnhlnoiekaaGreat.L5 (Cl clAt IsCls newX isRf)
open Go.Proofs.YtjfpjnhlnoiekaaGreat.graphKeeps (clK_skip kp_len nd_ne)
set_option linter.unusedVariables false
/-- Who stays. -/
def kF (L : List Nd) (zs : List Int) : List Nd := L.filter fun x => hasB zs x.id
def fL (M : List Nd) (t : Int) : Option Nat := if (nd M t).isSome then some 0 else none
theorem c1_fL (M : List Nd) (t : Int) : c1 (fL M) t = if (nd M t).isSome then t else 0 := by
  unfold c1 fL
  cases (nd M t).isSome <;> rfl
theorem kF_take {L : List Nd} {zs : List Int} {k : Nat} {x : Nd} (hk : L[k]? = some x) : kF (L.take (k + 1)) zs = kF (L.take k) zs ++ (if hasB zs x.id then [x] else []) := by
  unfold kF
  rw [List.take_add_one, hk, List.filter_append]
  congr 1
  cases h : hasB zs x.id <;> simp [h]
theorem kF_srt {L : List Nd} {zs : List Int} (h : Srt L) : Srt (kF L zs) := List.Pairwise.sublist List.filter_sublist h
theorem kp_is (L : List Nd) (zs : List Int) : kpL L zs = (kF L zs).map (clr (fL (kF L zs))) := by
  unfold kpL
  refine List.map_congr_left fun x _ => ?_
  unfold clr
  congr 1
  refine List.map_congr_left fun t _ => ?_
  rw [c1_fL]
  have hiff : (nd (kF L zs) t).isSome = (hasB zs t && (nd L t).isSome) := by
    rw [Bool.eq_iff_iff, Bool.and_eq_true, Option.isSome_iff_ne_none, Option.isSome_iff_ne_none, nd_ne, nd_ne]
    constructor
    · rintro ⟨y, hy, rfl⟩
      obtain ⟨h1, h2⟩ := List.mem_filter.1 hy
      exact ⟨h2, y, h1, rfl⟩
    · rintro ⟨h1, y, hy, rfl⟩
      exact ⟨y, List.mem_filter.2 ⟨hy, h1⟩, rfl⟩
  rw [hiff]
theorem kF_len (L : List Nd) (zs : List Int) : (kF L zs).length + kpN L zs = L.length := by
  have h := kp_len L zs
  rw [kp_is, List.length_map] at h
  exact h
/-- The first i of them cleared. -/
def clT (f : Int → Option Nat) (M : List Nd) (i : Nat) : List Nd := (M.take i).map (clr f) ++ M.drop i
section
variable {f : Int → Option Nat} {M : List Nd} {x : Nd} {i : Nat}
theorem clT_zero : clT f M 0 = M := by simp [clT]
theorem clT_all {n : Nat} (h : M.length = n) : clT f M n = M.map (clr f) := by subst h; simp [clT]
theorem clT_len (i : Nat) : (clT f M i).length = M.length := by simp [clT]; omega
theorem clT_at (hx : M[i]? = some x) : (clT f M i)[i]? = some x := by
  have hi := (List.getElem?_eq_some_iff.1 hx).1
  have hl : ((M.take i).map (clr f)).length = i := by simp; omega
  unfold clT
  rw [List.getElem?_append_right (by omega), hl, Nat.sub_self, List.getElem?_drop, Nat.add_zero]
  exact hx
theorem clT_step (hx : M[i]? = some x) : (clT f M i).set i (clr f x) = clT f M (i + 1) := by
  have hi := (List.getElem?_eq_some_iff.1 hx).1
  have hl : ((M.take i).map (clr f)).length = i := by simp; omega
  unfold clT
  rw [List.set_append_right _ _ (by omega), hl, Nat.sub_self, List.take_add_one, hx, List.map_append, List.append_assoc]
  congr 1
  obtain ⟨_, e⟩ := List.getElem?_eq_some_iff.1 hx
  rw [List.drop_eq_getElem_cons hi, e, List.set_cons_zero]
  rfl
theorem clT_ids (i : Nat) : (clT f M i).map Nd.id = M.map Nd.id := by
  unfold clT
  rw [List.map_append, List.map_map]
  conv => rhs; rw [← List.take_append_drop i M, List.map_append]
  rfl
theorem set_ids {y : Nd} (hx : M[i]? = some x) (e : y.id = x.id) : (M.set i y).map Nd.id = M.map Nd.id := by
  rw [List.map_set, e]
  obtain ⟨hi, e2⟩ := List.getElem?_eq_some_iff.1 hx
  apply List.ext_getElem?
  intro j
  rw [List.getElem?_set]
  by_cases h : i = j
  · subst h
    rw [if_pos rfl, if_pos (by simpa using hi), List.getElem?_map, hx]
    rfl
  · rw [if_neg h]
theorem set_self {A : List Nd} (h : A[i]? = some x) : A.set i x = A := by
  obtain ⟨hi, e⟩ := List.getElem?_eq_some_iff.1 h
  rw [← e]
  exact List.set_getElem_self _
theorem nd_of_ids {M' : List Nd} (e : M'.map Nd.id = M.map Nd.id) (t : Int) : (nd M' t).isSome = (nd M t).isSome := by
  have key : ∀ A B : List Nd, A.map Nd.id = B.map Nd.id → (∃ y ∈ A, y.id = t) → ∃ y ∈ B, y.id = t := fun A B e ⟨y, hy, h⟩ => by
    have : t ∈ A.map Nd.id := List.mem_map.2 ⟨y, hy, h⟩
    rw [e] at this
    obtain ⟨u, hu, h'⟩ := List.mem_map.1 this
    exact ⟨u, hu, h'⟩
  rw [Bool.eq_iff_iff, Option.isSome_iff_ne_none, Option.isSome_iff_ne_none, nd_ne, nd_ne]
  exact ⟨key _ _ e, key _ _ e.symm⟩
end
section
variable {w w' : World} {z q : Nat} {T U : Nat → Prop} {cv v : Value} {r d : Int → Nat} {ow : Nat → Int} {L : List Nd} {x y : Nd} {k : Nat} {zs : List Int} {cs : List Cl} {a : Option Addr} {len cap : Nat}
/-- Some of its nodes, in a list anew. -/
theorem Rf.sub (h : Rf w z T q cv v r d ow L) (ho : Lok cs L) {M : List Nd} (hM : ∀ y ∈ M, y ∈ L) {W : World} (g : Grow w W) {o : Value} (hown : W.ownsRow w.heap.size 38 5 o M.length (rfC r d M)) :
    Chg T w (W.setCell ⟨q, 1, none⟩ o) ∧ ∃ T' ow', Rf (W.setCell ⟨q, 1, none⟩ o) z T' q cv o r d ow' M ∧ (∀ k, T' k → T k ∨ w.heap.size ≤ k) ∧ ∀ y ∈ L, T (r y.id) := by
  have hq := h.t q h.tq
  have hzw : z ≤ w.heap.size := Nat.le_of_lt (Nat.lt_of_le_of_lt hq.1 hq.2)
  have cset : Chg (· = q) W (W.setCell ⟨q, 1, none⟩ o) := (Chg.refl _ _).set1 _ _
  have hsz := cset.size
  have hgs := g.size
  refine ⟨(g.mono fun _ _ h => h.elim).step cset fun i _ e => by rw [e]; exact h.tq, fun k => T k ∨ (w.heap.size ≤ k ∧ k < (W.setCell ⟨q, 1, none⟩ o).heap.size), fun k => if k < w.heap.size then ow k else 0, ⟨?_, ?_, ?_, .inl h.tq, ?_, ?_, ?_⟩, fun k hk => hk.imp id fun h => h.1, fun y hy => (h.nds y hy).2.1.1⟩
  · exact (h.blk.chg g id).set_ 1 o
  · exact own_chg (ownsRow_base_a hown hzw) cset fun k hk e => by have := (hown.lt k hk).1; omega
  · intro k hk
    have h4 := hown.lt k hk
    have e3 : ¬ k < w.heap.size := by omega
    exact ⟨.inr ⟨h4.1, by omega⟩, if_neg e3, by omega⟩
  · simp only [if_pos hq.2]
    exact h.oq
  · rintro k (hk | hk)
    · have := h.t k hk
      exact ⟨this.1, by omega⟩
    · exact ⟨by omega, hk.2⟩
  · intro y hy
    obtain ⟨⟨b1, b2⟩, ⟨t1, t2⟩, ⟨o1, o2⟩, h6⟩ := h.nds y (hM y hy)
    have l1 := (h.t _ t1).2
    have l2 := (h.t _ t2).2
    have hy1 := (ho.2 y (hM y hy)).id1
    simp only [if_pos l1, if_pos l2]
    exact ⟨⟨(b1.chg g id).chg cset (fun e => by have e' : r y.id = q := e; rw [e', h.oq] at o1; omega), (b2.chg g id).chg cset (fun e => by have e' : d y.id = q := e; rw [e', h.oq] at o2; omega)⟩, ⟨.inl t1, .inl t2⟩, ⟨o1, o2⟩, h6⟩
set_option maxRecDepth 100000 in
set_option maxHeartbeats 8000000 in
theorem keep_r (h : RG w z T q cv L) (ho : Lok cs L) (hr : IsRow .i64 w a len cap zs) (hl : L.length < 1000000) (hlen : len ≤ 1000000) :
    Calls Tryz.prog 42 #[ptr q, .slice a len cap] w fun e w' => e = .returned (.int .i64 (kpN L zs)) ∧ Chg T w w' ∧ ∃ T', RG w' z T' q cv (kpL L zs) ∧ ∀ k, T' k → T k ∨ w.heap.size ≤ k := by
  obtain ⟨v, r, d, ow, h⟩ := h
  obtain ⟨va, vc, rfl⟩ := h.val
  have H := hide h
  have HO := hide ho
  have HHAS := hide (fun (W : World) (g : Grow w W) (u : Int) => has_any (hr.chg g fun _ _ => id) u hlen)
  have HC1 := hide h.cell1
  have c1 := h.cell1
  obtain ⟨n, hn⟩ : ∃ n, L.length = n := ⟨_, rfl⟩
  rw [hn] at c1 hl
  have HN := hide hn
  have HL := hide hl
  rw [hn] at HC1
  clear h hl hn ho hr hlen
  go_enter Tryz.func42, Tryz.ntmps42
  go_wp2_with fail
  go_loopw [5, 15] (fun u c wr => ∃ k : Nat, k ≤ n ∧ c = .int .i64 k ∧ wr.ownsRow w.heap.size 38 5 u (kF (L.take k) zs).length (rfC r d (kF (L.take k) zs)) ∧ Grow w wr) (fun _ c _ => n - (Go.RowKit.intOf c).toNat)
  case atStart => exact ⟨0, Nat.zero_le _, rfl, World.ownsRow_nil _ _ _ _, Chg.refl _ _⟩
  case round =>
    obtain ⟨k, hk, rfl, hown, cw⟩ := hrel
    rcases Nat.eq_or_lt_of_le hk with hke | hlt
    · have hke' : n = k := hke.symm
      subst hke'
      have q1 : decide ((n : Int) < (n : Int)) = false := by simp
      clear hk hke
      rw [show L.take n = L by rw [List.take_of_length_le (by rw [HN.out]; exact Nat.le_refl _)]] at hown
      have hkl := kF_len L zs
      have hF := H.out.sub HO.out (M := kF L zs) (fun y hy => (List.mem_filter.1 hy).1) cw hown
      have hS := kF_srt (zs := zs) HO.out.1
      have hid : ∀ y ∈ kF L zs, 1 ≤ y.id ∧ y.refs.length ≤ 30 := fun y hy => ⟨(HO.out.2 y (List.mem_filter.1 hy).1).id1, (HO.out.2 y (List.mem_filter.1 hy).1).rl⟩
      have hsubL : ∀ y ∈ kF L zs, y ∈ L := fun y hy => (List.mem_filter.1 hy).1
      have HKP := hide (kp_is L zs)
      have HWS := hide cw.size
      generalize kF L zs = M at *
      obtain ⟨m, hm⟩ : ∃ m, M.length = m := ⟨_, rfl⟩
      obtain ⟨ua, uc, rfl⟩ := own_len hown
      rw [hm] at hF hkl
      rw [hm]
      obtain ⟨hch, T', ow', hF, hT', hrT⟩ := hF
      have HF := hide hF
      have HS := hide hS
      have HID := hide hid
      have HM := hide hm
      have HT' := hide hT'
      have HRT := hide (show ∀ y ∈ M, T (r y.id) from fun y hy => hrT y (hsubL y hy))
      have HCH := hide hch
      obtain ⟨kn, hkn⟩ : ∃ kn, kpN L zs = kn := ⟨_, rfl⟩
      have HKN := hide hkn
      rw [hkn, HN.out] at hkl
      have HKL := hide hkl
      have hwr : IntKind.i64.wrap ((n : Int) - (m : Int)) = (kn : Int) := (IntWalk.i64_in _ (by have := HL.out; omega)).trans (by omega)
      have y1 := Grow.cell cw HC1.out
      have hqf : wr.frozen? ⟨q, 1, none⟩ = false := (H.out.blk.chg cw id).frozen 1
      clear hown cw hS hid hsubL hF hm hT' hrT hch hkn hkl c1
      go_wp2_with fail
      generalize wr.setCell ⟨q, 1, none⟩ (.slice ua m uc) = W1 at *
      clear y1 hqf hwr q1 HHAS HC1
      go_loopw [56] (fun c wr => ∃ j : Nat, j ≤ m ∧ c = .int .i64 j ∧ Rf wr z T' q cv (.slice ua m uc) r d ow' (clT (fL M) M j) ∧ Chg T W1 wr) (fun c _ => m - (Go.RowKit.intOf c).toNat)
      case atStart => exact ⟨0, Nat.zero_le _, rfl, by rw [clT_zero]; exact HF.out, Chg.refl _ _⟩
      case round =>
        clear HF
        obtain ⟨j, hj, rfl, hF, cT⟩ := hrel
        rcases Nat.eq_or_lt_of_le hj with hje | hlt
        · have hje' : m = j := hje.symm
          subst hje'
          have q1 : decide ((m : Int) < (m : Int)) = false := by simp
          rw [clT_all HM.out, ← HKP.out] at hF
          have HE := hide (And.intro (HCH.out.trans cT) (And.intro hF HT'.out))
          clear hj hje hF cT
          go_wp2
          go_ret
          rw [HKN.out]
          exact ⟨rfl, HE.out.1, T', ⟨_, _, _, _, HE.out.2.1⟩, HE.out.2.2⟩
        · have q1 : decide ((j : Int) < (m : Int)) = true := decide_eq_true (by omega)
          obtain ⟨x, hx⟩ : ∃ x, M[j]? = some x := ⟨_, List.getElem?_eq_getElem (by rw [HM.out]; exact hlt)⟩
          have hcx := clT_at (f := fL M) hx
          obtain ⟨g, rfl, -, -, -, -, -, x2, -⟩ := hF.at2 hcx
          have hxm := List.mem_of_getElem? hx
          obtain ⟨nn, hnn⟩ : ∃ nn, x.refs.length = nn := ⟨_, rfl⟩
          rw [hnn] at x2
          have HNN := hide hnn
          have HX := hide (And.intro hx (And.intro hcx (And.intro (HID.out x hxm) (HRT.out x hxm))))
          have HJ := hide hlt
          have hw : IntKind.i64.wrap ((j : Int) + 1) = ((j + 1 : Nat) : Int) := (IntWalk.i64_in _ (by have := HL.out; have := HKL.out; omega)).trans (by omega)
          have c1 := hF.cell1
          have H0 := hide (And.intro hF cT)
          clear hj hx hcx hxm hnn hF cT
          go_wp2_with fail
          clear x2 c1
          go_loopw [68] (fun c wr => ∃ k : Nat, k ≤ nn ∧ c = .int .i64 k ∧ Rf wr z T' q cv (.slice (some ⟨g, 0, none⟩) m uc) r d ow' ((clT (fL M) M j).set j { x with refs := clK (fL M) x.refs k }) ∧ Chg T W1 wr) (fun c _ => nn - (Go.RowKit.intOf c).toNat)
          case atStart => exact ⟨0, Nat.zero_le _, rfl, by rw [clK_zero, set_self HX.out.2.1]; exact H0.out.1, H0.out.2⟩
          case round =>
            clear H0
            obtain ⟨k, hk, rfl, hF, cT⟩ := hrel
            rcases Nat.eq_or_lt_of_le hk with hke | hlt2
            · have hke' : nn = k := hke.symm
              subst hke'
              have q2 : decide ((nn : Int) < (nn : Int)) = false := by simp
              have hE : (clT (fL M) M j).set j { x with refs := clK (fL M) x.refs nn } = clT (fL M) M (j + 1) := by
                rw [← HNN.out, clK_all]
                exact clT_step HX.out.1
              rw [hE] at hF
              have HE := hide (And.intro hF cT)
              clear hk hke hF cT hE
              go_wp2
              go_roundw
              case rel => exact ⟨j + 1, HJ.out, rfl, HE.out.1, HE.out.2⟩
              case measure => have := HJ.out; simp [Go.RowKit.intOf]; omega
            · have q2 : decide ((k : Int) < (nn : Int)) = true := decide_eq_true (by omega)
              have hbj : ((clT (fL M) M j).set j { x with refs := clK (fL M) x.refs k })[j]? = some { x with refs := clK (fL M) x.refs k } := List.getElem?_set_self (by rw [clT_len, HM.out]; exact HJ.out)
              have hids : ((clT (fL M) M j).set j { x with refs := clK (fL M) x.refs k }).map Nd.id = M.map Nd.id := (set_ids (y := { x with refs := clK (fL M) x.refs k }) HX.out.2.1 rfl).trans (clT_ids j)
              have hsrt := srt_of_ids HS.out hids
              obtain ⟨g', hg', -, -, -, -, -, x2, -⟩ := hF.at2 hbj
              injection hg' with hg'
              injection hg' with hg'
              subst hg'
              dsimp only at x2
              rw [clK_len, HNN.out] at x2
              have hnd := hF.nds _ (List.mem_of_getElem? hbj)
              have yk := (hnd.1.1.cell k).trans (ints_get _ _ (by show k < (clK (fL M) x.refs k).length; rw [clK_len, HNN.out]; exact hlt2))
              have hfz := hnd.1.1.frozen k
              dsimp only at yk hfz
              rw [clK_get] at yk
              obtain ⟨u, hu⟩ : ∃ u, x.refs.getD k 0 = u := ⟨_, rfl⟩
              rw [hu] at yk
              have hst := clK_step (f := fL M) x.refs k (by rw [HNN.out]; exact hlt2)
              have hsk := clK_skip (f := fL M) x.refs k (by rw [HNN.out]; exact hlt2)
              rw [hu] at hst hsk
              have hsome := nd_of_ids hids u
              have hBl : ((clT (fL M) M j).set j { x with refs := clK (fL M) x.refs k }).length < 1000000 := by rw [List.length_set, clT_len, HM.out]; have := HL.out; have := HKL.out; omega
              have cq := hF.cell1
              have hw2 : IntKind.i64.wrap ((k : Int) + 1) = ((k + 1 : Nat) : Int) := (IntWalk.i64_in _ (by have := HX.out.2.2.1.2; have := HNN.out; omega)).trans (by omega)
              have HLT := hide hlt2
              have hc1 := c1_fL M u
              cases hB : nd ((clT (fL M) M j).set j { x with refs := clK (fL M) x.refs k }) u with
              | none =>
                have HA := hide (at_no ⟨_, _, _, _, hF⟩ hB hBl)
                rw [hB] at hsome
                rw [← hsome] at hc1
                have hc0 : c1 (fL M) u = 0 := hc1
                rw [hc0] at hst
                have hN := hF.setRef hsrt hbj HX.out.2.2.1.1 k 0
                rw [List.set_set] at hN
                dsimp only at hN
                rw [← hst] at hN
                have HE := hide (And.intro hN (cT.setCell (p := ⟨r x.id, k, none⟩) (fun _ => HX.out.2.2.2) (.int .i64 0)))
                clear hk hlt2 hF cT hbj hids hsrt hnd hu hst hsk hsome hBl hc1 hB hc0 hN
                generalize r x.id = rb at *
                go_wp2_with fail
                refine HA.out.mono ?_
                rintro e w2 ⟨rfl, rfl⟩
                go_wp2
                go_roundw
                case rel => exact ⟨k + 1, HLT.out, rfl, HE.out.1, HE.out.2⟩
                case measure => have := HLT.out; simp [Go.RowKit.intOf]; omega
              | some y =>
                obtain ⟨k2, hk2, -⟩ := nd_at hB
                obtain ⟨-, hyu⟩ := nd_some hB
                have hA := at_yes (show RG wr z T' q cv _ from ⟨_, _, _, _, hF⟩) hsrt hk2 hBl
                rw [hyu] at hA
                have HA := hide hA
                rw [hB] at hsome
                rw [← hsome] at hc1
                have hc0 : c1 (fL M) u = u := hc1
                have HSK := hide (hsk hc0)
                have HE := hide (And.intro hF cT)
                have q3 : decide ((k2 : Int) < 0) = false := decide_eq_false (by omega)
                clear hk hlt2 hF cT hbj hids hsrt hnd hu hst hsk hsome hBl hc1 hB hc0 hk2 hyu hA
                generalize r x.id = rb at *
                go_wp2_with fail
                refine HA.out.mono ?_
                rintro e w2 ⟨rfl, rfl⟩
                go_wp2
                go_roundw
                case rel => exact ⟨k + 1, HLT.out, rfl, by rw [HSK.out]; exact HE.out.1, HE.out.2⟩
                case measure => have := HLT.out; simp [Go.RowKit.intOf]; omega
    · have q1 : decide ((k : Int) < (n : Int)) = true := decide_eq_true (by omega)
      obtain ⟨x, hx⟩ : ∃ x, L[k]? = some x := ⟨_, List.getElem?_eq_getElem (by rw [HN.out]; exact hlt)⟩
      obtain ⟨g, rfl, -, -, -, x0, x1, x2, x3, x4⟩ := (H.out.chg cw fun _ _ => id).at2 hx
      have hst := kF_take (zs := zs) hx
      have hw : IntKind.i64.wrap ((k : Int) + 1) = ((k + 1 : Nat) : Int) := (IntWalk.i64_in _ (by have := HL.out; omega)).trans (by omega)
      have HLT := hide hlt
      have HO0 := hide hown
      have HCW := hide cw
      have HST := hide hst
      have HHA := hide (HHAS.out _ cw x.id)
      have y1 := Grow.cell cw c1
      have hxc : ndC x (r x.id) (d x.id) = [.int .i64 x.id, .int .i64 x.c, .slice (some ⟨r x.id, 0, none⟩) x.refs.length x.refs.length, .slice (some ⟨d x.id, 0, none⟩) x.data.length x.data.length, .bool x.fin] := rfl
      have hrx : rfC r d [x] = ndC x (r x.id) (d x.id) := by simp [rfC]
      have HXC := hide (hrx.trans hxc)
      have HFL := hide (show (kF (L.take k) zs).length ≤ 1000000 from Nat.le_trans (List.length_filter_le _ _) (by rw [List.length_take]; have := HN.out; have := HL.out; omega))
      clear hk hlt hown cw hst hx hxc hrx
      generalize r x.id = rb at *
      generalize d x.id = db at *
      generalize x.refs.length = n1 at *
      generalize x.data.length = m1 at *
      generalize x.c = xc at *
      generalize x.fin = xf at *
      cases hb : hasB zs x.id with
      | false =>
        rw [hb] at HHA HST
        clear hb
        go_wp2_with fail
        refine HHA.out.mono ?_
        rintro e w2 ⟨rfl, hq⟩
        have cd : Grow wr w2 := by obtain ⟨q, rfl⟩ := hq; exact (Chg.refl _ _).drewN q
        clear hq
        go_wp2
        go_roundw
        case rel => exact ⟨k + 1, HLT.out, rfl, by rw [HST.out]; simp only [Bool.false_eq_true, if_false, List.append_nil]; exact own_grow HO0.out cd, HCW.out.trans cd⟩
        case measure => have := HLT.out; simp [Go.RowKit.intOf]; omega
      | true =>
        rw [hb] at HHA HST
        clear hb
        generalize x.id = xi at *
        go_wp2_with fail
        refine HHA.out.mono ?_
        rintro e w2 ⟨rfl, hq⟩
        have cd : Grow wr w2 := by obtain ⟨q, rfl⟩ := hq; exact (Chg.refl _ _).drewN q
        have gd := HCW.out.trans cd
        replace y1 := Grow.cell cd y1
        replace x0 := Grow.cell cd x0
        replace x1 := Grow.cell cd x1
        replace x2 := Grow.cell cd x2
        replace x3 := Grow.cell cd x3
        replace x4 := Grow.cell cd x4
        have B := Blk.new w2 38 [.int .i64 xi, .int .i64 xc, .slice (some ⟨rb, 0, none⟩) n1 n1, .slice (some ⟨db, 0, none⟩) m1 m1, .bool xf]
        obtain ⟨o2, W2, hr2, ho2, cc2, -⟩ := app_more (gd.alloc (.cells #[.int .i64 xi, .int .i64 xc, .slice (some ⟨rb, 0, none⟩) n1 n1, .slice (some ⟨db, 0, none⟩) m1 m1, .bool xf] 38)) ((own_grow HO0.out cd).alloc _) (s := .slice (some ⟨w2.heap.size, 0, none⟩) 1 1) (m := 1) (ys := [.int .i64 xi, .int .i64 xc, .slice (some ⟨rb, 0, none⟩) n1 n1, .slice (some ⟨db, 0, none⟩) m1 m1, .bool xf]) (.inr ⟨_, _, rfl, rfl, fun j u hj => by rw [addr_add, Nat.zero_add]; exact (B.cell j).trans hj, fun u hu => by simp at hu; rcases hu with rfl | rfl | rfl | rfl | rfl <;> rfl⟩) (by have := HFL.out; omega)
        have KA := hide hr2
        have HE := hide (And.intro ho2 cc2)
        clear hq hr2 ho2 cc2 B gd cd
        go_wp2_with (at_builtin; refine wpList_app rfl _ _ 41 rfl u5 (.slice (some ⟨w2.heap.size, 0, none⟩) 1 1) o2 _ W2 rfl rfl KA.out ?_)
        clear KA x0 x1 x2 x3 x4 y1 q1
        go_wp2
        go_roundw
        case rel =>
          refine ⟨k + 1, HLT.out, rfl, ?_, HE.out.2⟩
          rw [HST.out]
          simp only [if_true]
          rw [List.length_append, rfC_app, HXC.out]
          exact HE.out.1
        case measure => have := HLT.out; simp [Go.RowKit.intOf]; omega
end
end Go.Proofs.YtjfpjnhlnoiekaaGreat.L9
/- The graph and the plain one, both at once; 'same' answers true. Conditions: fewer than 1000000 nodes and classes; the classes can be. -/
namespace Go.Proofs.YtjfpjnhlnoiekaaGreat.L9
open Go.ChangeShapes Go.WideShapes Go.ChangeAt Go.RowKit
open Go.Proofs.YtjfpjnhlnoiekaaGreat.L5 (Cl clAt IsCls newX isRf)
set_option linter.unusedVariables false
theorem blk_rd {W : World} {b n : Nat} {xs : List Int} (h : Blk W b 3 (ints xs)) (hn : xs.length = n) : L1.Rd W (some ⟨b, 0, none⟩) n xs :=
  ⟨hn, fun _ => ⟨_, rfl, fun i hi => by rw [addr_add, Nat.zero_add]; exact (h.cell i).trans (ints_get _ _ (by rw [hn]; exact hi))⟩⟩
theorem nil_rd (W : World) : L1.Rd W none 0 [] := ⟨rfl, fun h => absurd h (by omega)⟩
section
variable {w w' : World} {z p q : Nat} {S T S' T' : Nat → Prop} {cv : Value} {L L' : List Nd} {i : Int} {cs : List Cl} {a : Option Addr} {len cap : Nat}
/-- The same graph, twice. -/
def Bo (W : World) (z p q : Nat) (cv : Value) (cs : List Cl) (L : List Nd) : Prop := ∃ S T, GS W z S p cs L ∧ RG W z T q cv L ∧ ∀ k, S k → ¬ T k
theorem Bo.grow (h : Bo w z p q cv cs L) (g : Grow w w') : Bo w' z p q cv cs L := by
  obtain ⟨S, T, h1, h2, h3⟩ := h
  exact ⟨S, T, h1.grow g, h2.grow g, h3⟩
theorem Bo.two {W W3 W4 : World} {S3 T4 : Nat → Prop} (hg : GS W z S p cs L) (hr : RG W z T q cv L) (hd : ∀ k, S k → ¬ T k) (c3 : Chg S W W3) (h3 : GS W3 z S3 p cs L') (s3 : ∀ k, S3 k → S k ∨ W.heap.size ≤ k)
    (c4 : Chg T W3 W4) (h4 : RG W4 z T4 q cv L') (t4 : ∀ k, T4 k → T k ∨ W3.heap.size ≤ k) : Bo W4 z p q cv cs L' ∧ Chg (fun k => z ≤ k) W W4 := by
  have d1 : ∀ k, S3 k → ¬ T k := fun k hk ht => by
    rcases s3 k hk with h | h
    · exact hd k h ht
    · have := (hr.t ht).2; omega
  refine ⟨⟨S3, T4, h3.chg c4 (fun k hk => (hr.t hk).1) d1, h4, fun k hk ht => ?_⟩, (c3.mono fun k _ hk => (hg.s hk).1).step c4 fun k _ hk => (hr.t hk).1⟩
  rcases t4 k ht with h | h
  · exact d1 k hk h
  · have := (h3.s hk).2; omega
theorem hldX_len (ho : Lok cs L) : (hldX cs L i).length ≤ 1099511627776 := by
  unfold hldX
  cases hn : nd L i with
  | none => simp
  | some x =>
    have := hld_len (isRf (kd (clAt cs x.c))) x.refs
    have := (ho.2 x (nd_some hn).1).rl
    show (hld (isRf (kd (clAt cs x.c))) x.refs).length ≤ _
    omega
end
end Go.Proofs.YtjfpjnhlnoiekaaGreat.L9

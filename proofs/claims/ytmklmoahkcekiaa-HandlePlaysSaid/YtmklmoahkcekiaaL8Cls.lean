/- The two functions that the laws of package handle pass to Each: one adds, one keeps what came and answers it xor a number. Conditions: at most 64 numbers came. -/
import Derived.Test.YtmklmoahkcekiaaL8By
namespace Go.Proofs.Ytmklmoahkcekiaa.L8
open Go.ChangeShapes Go.WideShapes Go.ChangeAt Go.RowKit
set_option linter.unusedVariables false

/-- What came so far, in block q, in a row from block B on; the number in block a. -/
def Cm (q a : Nat) (d : Int) (B : Nat) (l : List Int) (W : World) : Prop :=
  ∃ v, Blk W q 37 [v] ∧ W.ownsRow B 3 1 v l.length (ints l) ∧ Blk W a 3 [.int .i64 d]
theorem Cm.chg {q a : Nat} {d : Int} {B : Nat} {l : List Int} {W W' : World} {C : Nat → Prop} (h : Cm q a d B l W) (c : Chg C W W') (hq : ¬ C q) (ha : ¬ C a) (hB : ∀ i, B ≤ i → ¬ C i) : Cm q a d B l W' := by
  obtain ⟨v, h1, h2, h3⟩ := h
  exact ⟨v, h1.chg c hq, own_chg h2 c (fun k hk => hB k (h2.lt k hk).1), h3.chg c ha⟩
set_option maxHeartbeats 2000000 in
theorem came_any {q a : Nat} {d : Int} {B : Nat} {l : List Int} {W : World} (h : Cm q a d B l W) (hqB : q < B) (haB : a < B) (hB : B ≤ W.heap.size) (hl : l.length < 64) (x : Int) :
    Calls Try.prog 22 #[.int .i64 x, ptr q, ptr a] W fun e W' => e = .returned (.int .i64 (bits .xor .i64 x d)) ∧ Cm q a d B (l ++ [x]) W' ∧ Chg (fun i => i = q ∨ B ≤ i) W W' := by
  obtain ⟨v, h1, h2, h3⟩ := h
  obtain ⟨i0, hi, hz0, hz1, hz2⟩ := info_parts Try.infoInt
  have c0 : W.cell? ⟨q, 0, none⟩ = some v := h1.cell 0
  have HI := hide hi
  have HZ0 := hide hz0
  have HZ1 := hide hz1
  have HZ2 := hide hz2
  have HO := hide (h2.alloc (.cells #[.int .i64 x] 3))
  have H1 := hide h1
  have H2 := hide h2
  have H3 := hide h3
  clear hi hz0 hz1 hz2 h1 h2 h3
  go_enter Try.func22, Try.ntmps22
  go_wp2_with (at_builtin; refine wpList_append_own _ rfl _ _ 37 rfl B 3 i0 (.int .i64 0) 1 8 Try.underlying37 HI.out HZ0.out HZ1.out HZ2.out rfl (by decide) _ _ _ rfl HO.out ⟨W.heap.size, 0, none⟩ 1 1 [.int .i64 x] rfl rfl ?c1 ?c2 ?c3 ?c4 ?c5 ?_)
  case c1 => exact cell_one_new _ _ _
  case c2 => simp [Value.oneCell']
  case c3 => unfold maxLen; omega
  case c4 => omega
  case c5 => simp; omega
  intro v' w1 hown1 hgrow _
  have cB : Chg (fun i => B ≤ i) W w1 := ((Chg.refl _ W).alloc _).grown hgrow (fun k _ e => (H2.out.lt k e).1)
  have h1 := H1.out.chg cB (by omega)
  have h3 := H3.out.chg cB (by omega)
  obtain ⟨g', cap', rfl⟩ := ownsRow_succ hown1
  have hge : B ≤ g' := (hown1.lt g' rfl).1
  have k0 := h1.cell 0
  have kf := h1.frozen 0
  have hs1 := h1.set_ 0 (.slice (some ⟨g', 0, none⟩) (l.length + 1) cap')
  have h3s := h3.far (p := ⟨q, 0, none⟩) (fun e => by have := h1.ne_ h3 (by decide); exact this e.symm) (.slice (some ⟨g', 0, none⟩) (l.length + 1) cap')
  have cq : Chg (fun i => i = q ∨ B ≤ i) W (w1.setCell ⟨q, 0, none⟩ (.slice (some ⟨g', 0, none⟩) (l.length + 1) cap')) := (cB.mono (fun _ _ h => .inr h)).setCell (p := ⟨q, 0, none⟩) (fun _ => .inl rfl) _
  have ho : (w1.setCell ⟨q, 0, none⟩ (.slice (some ⟨g', 0, none⟩) (l.length + 1) cap')).ownsRow B 3 1 (.slice (some ⟨g', 0, none⟩) (l.length + 1) cap') (l ++ [x]).length (ints (l ++ [x])) := by
    have h := own_chg hown1 ((Chg.refl (· = q) w1).set1 0 (.slice (some ⟨g', 0, none⟩) (l.length + 1) cap')) (fun k hk e => by have := (hown1.lt k hk).1; omega)
    simpa [ints] using h
  have a0 := h3s.cell 0
  have HS1 := hide hs1
  have HS3 := hide h3s
  have HCQ := hide cq
  have HO1 := hide ho
  clear hown1 hgrow cB h1 h3 hs1 h3s cq ho c0 HO H1 H2 H3
  go_wp2
  go_ret
  exact ⟨rfl, ⟨_, HS1.out, HO1.out, HS3.out⟩, HCQ.out⟩
/-- The function that adds the X of its call. -/
theorem adds_any {q : Nat} {K H X : Int} {o : Bool} {W : World} (h : Blk W q 36 [.int .i64 K, .int .i64 H, .int .i64 X, .bool o]) (x : Int) :
    Calls Try.prog 18 #[.int .i64 x, ptr q] W fun e W' => e = .returned (.int .i64 (wrap64 (x + X))) ∧ W = W' := by
  have c2 : W.cell? ⟨q, 2, none⟩ = some (.int .i64 X) := h.cell 2
  clear h
  go_enter Try.func18, Try.ntmps18
  go_wp2
  go_ret
  exact ⟨rfl, rfl⟩
end Go.Proofs.Ytmklmoahkcekiaa.L8

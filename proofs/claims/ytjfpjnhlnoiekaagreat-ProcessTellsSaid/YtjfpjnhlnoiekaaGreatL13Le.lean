/- The plain answer of reference processing: the box in which it gathers its lists, and lists beside it. Conditions: lists of at most 1000 numbers. -/
import Derived.Test.YtjfpjnhlnoiekaaGreatL13Lc
namespace Go.Proofs.YtjfpjnhlnoiekaaGreat.L13
open Go.ChangeShapes Go.WideShapes Go.ChangeAt Go.RowKit
open Go.Proofs.YtjfpjnhlnoiekaaGreat.L9 (Nd nd Lok In64 Srt nd_some nd_none nd_mem own_rd own_cast hasB hldX aimX)
open Go.Proofs.YtjfpjnhlnoiekaaGreat.L10 (Rc IsRc outs clL OL clL_srt clL_le ol_nil app_int app_more)
open Go.Proofs.YtjfpjnhlnoiekaaGreat.L5 (Cl clAt isRf IsCls)
set_option linter.unusedVariables false
section
variable {w W W' wr : World} {B n : Nat} {a : Option Addr} {xs ys us xs2 xs3 : List Int} {cs : List Cl} {L : List Nd} {p q : Int → Bool} {v u v2 v3 : Value} {i : Int}
theorem ol_lt {b k : Nat} {xs : List Int} {v : Value} (h : OL W b v xs) (hk : v.ownBlock = some k) : k < W.heap.size := by
  rcases h.2 with ⟨rfl, -⟩ | ⟨g, c, cur, rfl, -, hg, -⟩
  · cases hk
  · injection hk with e
    rw [← e]
    exact (Array.getElem?_eq_some_iff.1 hg).1
theorem ol_ge {b k : Nat} {xs : List Int} {v : Value} (h : OL W b v xs) (hk : v.ownBlock = some k) : b ≤ k := by
  rcases h.2 with ⟨rfl, -⟩ | ⟨g, c, cur, rfl, hb, hg, -⟩
  · cases hk
  · injection hk with e
    rw [← e]
    exact hb
theorem own_apart {u v : Value} (h : ∀ k, u.ownBlock = some k → v.ownBlock ≠ some k) : v.ownBlock = none ∨ v.ownBlock ≠ u.ownBlock := by
  cases hv : v.ownBlock with
  | none => exact .inl rfl
  | some k => exact .inr fun e => h k e.symm hv
/-- Two lists in blocks of their own. -/
def Pt (u v : Value) : Prop := ∀ k, u.ownBlock = some k → v.ownBlock ≠ some k
theorem Pt.symm (h : Pt u v) : Pt v u := fun k h1 h2 => h k h2 h1
theorem Pt.nil : Pt (.slice none 0 0) v := fun k h => by cases h
/-- One number more in a list. -/
theorem app_one (hg : Grow w W) (h : OL W w.heap.size v xs) (hl : xs.length ≤ 1000) (i : Int) :
    ∃ a' c' W', (Builtin.append_ #[27, 27] 27 #[v, .slice (some ⟨W.heap.size, 0, none⟩) 1 1]).run Tryz.prog (W.alloc (.cells #[.int .i64 i] 3)) = .ok (.slice a' (xs.length + 1) c') W' ∧ OL W' w.heap.size (.slice a' (xs.length + 1) c') (xs ++ [i]) ∧ Grow w W' ∧
      (∀ b u us, OL W b u us → Pt v u → OL W' b u us ∧ Pt (.slice a' (xs.length + 1) c') u) ∧ ∀ g t cs, 3 ≠ t → Blk W g t cs → Blk W' g t cs := by
  have gB := Grow.box W (.cells [.int .i64 i].toArray 3)
  obtain ⟨v', W', hr, ho, hgr, hv⟩ := app_int (c := 1) (h.grow gB) (Nat.le_trans hg.size gB.size) (L1.Rd.of_blk (Blk.new W 3 [.int .i64 i]) rfl : L1.Rd _ _ 1 [i]) (by omega)
  obtain ⟨a', c', rfl⟩ := own_len ho
  have hln : (xs ++ [i]).length = xs.length + 1 := by simp
  rw [hln] at hr ho hv
  refine ⟨a', c', W', hr, ho, Chg.grownOwn (hg.trans gB) (h.grow gB) (Nat.le_refl _) hgr, fun b u us hu hp => ⟨World.ownsRow.kept (hu.grow gB) hgr (own_apart hp), fun k hk e => ?_⟩, fun g t cs ht hb => (hb.chg gB id).grownOwn hgr fun e => ((h.grow gB).ne (hb.chg gB id) ht) e.symm⟩
  rcases hv with e2 | e2
  · exact hp k (by rw [← e2]; exact hk) e
  · rw [e2] at hk
    injection hk with hk
    have := ol_lt (hu.grow gB) e
    omega
/-- The box: what is cleared, what is to be finalized. -/
structure Bx (w : World) (B : Nat) (W : World) (v2 v3 : Value) (xs2 xs3 : List Int) : Prop where
  g : Grow w W
  r : Blk W w.heap.size 44 [.slice none 0 0, .slice none 0 0, .slice none 0 0]
  lt : w.heap.size < B
  b : Blk W B 44 [.slice none 0 0, v2, v3]
  o2 : OL W w.heap.size v2 xs2
  o3 : OL W w.heap.size v3 xs3
  n : Pt v2 v3
/-- A list beside it. -/
structure Ot (w W : World) (v2 v3 u : Value) (us : List Int) : Prop where
  o : OL W w.heap.size u us
  n2 : Pt v2 u
  n3 : Pt v3 u
theorem Bx.grow (h : Bx w B W v2 v3 xs2 xs3) (c : Grow W W') : Bx w B W' v2 v3 xs2 xs3 := ⟨h.g.trans c, h.r.chg c id, h.lt, h.b.chg c id, h.o2.grow c, h.o3.grow c, h.n⟩
theorem Ot.grow (h : Ot w W v2 v3 u us) (c : Grow W W') : Ot w W' v2 v3 u us := ⟨h.o.grow c, h.n2, h.n3⟩
theorem ol_put {b t : Nat} {cs : List Value} (h : OL W b v xs) (hb : Blk W B t cs) (ht : 3 ≠ t) (j : Nat) (y : Value) : OL (W.setCell ⟨B, j, none⟩ y) b v xs :=
  h.chg ((Chg.refl (· = B) W).set1 j y) fun k hk e => h.ne hb ht (by rw [hk, e])
/-- One more is cleared. -/
theorem Bx.put2 (h : Bx w B W v2 v3 xs2 xs3) (hl : xs2.length ≤ 1000) (i : Int) :
    ∃ a' c' W', (Builtin.append_ #[27, 27] 27 #[v2, .slice (some ⟨W.heap.size, 0, none⟩) 1 1]).run Tryz.prog (W.alloc (.cells #[.int .i64 i] 3)) = .ok (.slice a' (xs2.length + 1) c') W' ∧
      (W'.cell? ⟨B, 1, none⟩ = some v2 ∧ W'.frozen? ⟨B, 1, none⟩ = false) ∧ Bx w B (W'.setCell ⟨B, 1, none⟩ (.slice a' (xs2.length + 1) c')) (.slice a' (xs2.length + 1) c') v3 (xs2 ++ [i]) xs3 ∧
      ∀ u us, Ot w W v2 v3 u us → OL W' w.heap.size u us ∧ Ot w (W'.setCell ⟨B, 1, none⟩ (.slice a' (xs2.length + 1) c')) (.slice a' (xs2.length + 1) c') v3 u us := by
  obtain ⟨a', c', W', hr, ho, hg, hk, hb⟩ := app_one h.g h.o2 hl i
  have b2 := hb _ _ _ (by decide) h.b
  have r2 := hb _ _ _ (by decide) h.r
  obtain ⟨k3, n3⟩ := hk _ _ _ h.o3 h.n
  have hlt := h.lt
  refine ⟨a', c', W', hr, ⟨b2.cell 1, b2.frozen 1⟩, ⟨?_, r2.far (by dsimp only; omega) _, h.lt, b2.set_ 1 _, ol_put ho b2 (by decide) _ _, ol_put k3 b2 (by decide) _ _, n3⟩, fun u us hu => ?_⟩
  · exact hg.step ((Chg.refl (· = B) W').set1 1 _) fun i hi e => by have e : i = B := e; exact absurd hlt (by omega)
  · obtain ⟨k4, n4⟩ := hk _ _ _ hu.o hu.n2
    exact ⟨k4, ol_put k4 b2 (by decide) _ _, n4, hu.n3⟩
/-- One more is to be finalized. -/
theorem Bx.put3 (h : Bx w B W v2 v3 xs2 xs3) (hl : xs3.length ≤ 1000) (i : Int) :
    ∃ a' c' W', (Builtin.append_ #[27, 27] 27 #[v3, .slice (some ⟨W.heap.size, 0, none⟩) 1 1]).run Tryz.prog (W.alloc (.cells #[.int .i64 i] 3)) = .ok (.slice a' (xs3.length + 1) c') W' ∧
      (W'.cell? ⟨B, 2, none⟩ = some v3 ∧ W'.frozen? ⟨B, 2, none⟩ = false) ∧ Bx w B (W'.setCell ⟨B, 2, none⟩ (.slice a' (xs3.length + 1) c')) v2 (.slice a' (xs3.length + 1) c') xs2 (xs3 ++ [i]) ∧
      ∀ u us, Ot w W v2 v3 u us → OL W' w.heap.size u us ∧ Ot w (W'.setCell ⟨B, 2, none⟩ (.slice a' (xs3.length + 1) c')) v2 (.slice a' (xs3.length + 1) c') u us := by
  obtain ⟨a', c', W', hr, ho, hg, hk, hb⟩ := app_one h.g h.o3 hl i
  have b2 := hb _ _ _ (by decide) h.b
  have r2 := hb _ _ _ (by decide) h.r
  obtain ⟨k3, n3⟩ := hk _ _ _ h.o2 h.n.symm
  have hlt := h.lt
  refine ⟨a', c', W', hr, ⟨b2.cell 2, b2.frozen 2⟩, ⟨?_, r2.far (by dsimp only; omega) _, h.lt, b2.set_ 2 _, ol_put k3 b2 (by decide) _ _, ol_put ho b2 (by decide) _ _, n3.symm⟩, fun u us hu => ?_⟩
  · exact hg.step ((Chg.refl (· = B) W').set1 2 _) fun i hi e => by have e : i = B := e; exact absurd hlt (by omega)
  · obtain ⟨k4, n4⟩ := hk _ _ _ hu.o hu.n3
    exact ⟨k4, ol_put k4 b2 (by decide) _ _, hu.n2, n4⟩
/-- One more in a list beside it. -/
theorem Ot.more (h : Bx w B W v2 v3 xs2 xs3) (ho : Ot w W v2 v3 u us) (hl : us.length ≤ 1000) (i : Int) :
    ∃ a' c' W', (Builtin.append_ #[27, 27] 27 #[u, .slice (some ⟨W.heap.size, 0, none⟩) 1 1]).run Tryz.prog (W.alloc (.cells #[.int .i64 i] 3)) = .ok (.slice a' (us.length + 1) c') W' ∧ Bx w B W' v2 v3 xs2 xs3 ∧
      Ot w W' v2 v3 (.slice a' (us.length + 1) c') (us ++ [i]) ∧ ∀ y ys, Ot w W v2 v3 y ys → Pt u y → Ot w W' v2 v3 y ys ∧ Pt (.slice a' (us.length + 1) c') y := by
  obtain ⟨a', c', W', hr, ho', hg, hk, hb⟩ := app_one h.g ho.o hl i
  obtain ⟨k2, n2⟩ := hk _ _ _ h.o2 ho.n2.symm
  obtain ⟨k3, n3⟩ := hk _ _ _ h.o3 ho.n3.symm
  exact ⟨a', c', W', hr, ⟨hg, hb _ _ _ (by decide) h.r, h.lt, hb _ _ _ (by decide) h.b, k2, k3, h.n⟩, ⟨ho', n2.symm, n3.symm⟩, fun y ys hy hp => by
    obtain ⟨k4, n4⟩ := hk _ _ _ hy.o hp
    exact ⟨⟨k4, hy.n2, hy.n3⟩, n4⟩⟩
theorem ol_cell {b g n c k : Nat} (h : OL W b (.slice (some ⟨g, 0, none⟩) n c) xs) (hn : xs.length = n) (hk : k < n) : W.cell? ⟨g, k, none⟩ = some (.int .i64 (xs.getD k 0)) := by
  subst hn
  exact h.cell hk
theorem fil_sub {f : Int → Bool} (hs : Srt L) (h : ∀ i, f i = true → p i = true) : (clL L p).filter f = clL L f := by
  rw [cl_filter]
  refine cl_ext hs fun i _ => ?_
  cases hf : f i with
  | false => rw [Bool.and_false]
  | true => rw [h i hf]; rfl
theorem Bx.fz (h : Bx w B W v2 v3 xs2 xs3) : W.cell? ⟨B, 0, none⟩ = some (.slice none 0 0) ∧ W.frozen? ⟨B, 0, none⟩ = false := ⟨h.b.cell 0, h.b.frozen 0⟩
/-- The end: the box is copied into the answer. -/
theorem rr_end {a1 a2 a3 : Option Addr} {n1 c1 n2 c2 n3 c3 : Nat} {l1 l2 l3 : List Int} (hb : Bx w B W (.slice a2 n2 c2) (.slice a3 n3 c3) l2 l3) (ho : OL W w.heap.size (.slice a1 n1 c1) l1)
    (m1 : l1.length = n1) (m2 : l2.length = n2) (m3 : l3.length = n3) (i1 : ∀ i ∈ l1, In64 i) (i2 : ∀ i ∈ l2, In64 i) (i3 : ∀ i ∈ l3, In64 i) (b1 : n1 ≤ 1000000) (b2 : n2 ≤ 1000000) (b3 : n3 ≤ 1000000) {WF : World}
    (hW : WF = (((W.setCell ⟨B, 0, none⟩ (.slice a1 n1 c1)).setCell ⟨w.heap.size, 0, none⟩ (.slice a1 n1 c1)).setCell ⟨w.heap.size, 1, none⟩ (.slice a2 n2 c2)).setCell ⟨w.heap.size, 2, none⟩ (.slice a3 n3 c3)) :
    (WF.cell? ⟨w.heap.size, 0, none⟩ = some (.slice a1 n1 c1) ∧ WF.cell? ⟨w.heap.size, 1, none⟩ = some (.slice a2 n2 c2) ∧ WF.cell? ⟨w.heap.size, 2, none⟩ = some (.slice a3 n3 c3)) ∧ RanL w l1 l2 l3 n1 n2 n3 (.returned (.agg #[.slice a1 n1 c1, .slice a2 n2 c2, .slice a3 n3 c3])) WF := by
  have hlt := hb.lt
  have hne : w.heap.size ≠ B := by omega
  have r0 := hb.r.far (p := ⟨B, 0, none⟩) hne (.slice a1 n1 c1)
  have r1 := r0.set_ 0 (.slice a1 n1 c1)
  have r2 := r1.set_ 1 (.slice a2 n2 c2)
  have r3 := r2.set_ 2 (.slice a3 n3 c3)
  have key : ∀ (v : Value) (xs : List Int), OL W w.heap.size v xs → OL WF w.heap.size v xs := fun v xs h => by
    rw [hW]
    exact ol_put (ol_put (ol_put (ol_put h hb.b (by decide) 0 _) r0 (by decide) 0 _) r1 (by decide) 1 _) r2 (by decide) 2 _
  have hg : Grow w WF := by
    rw [hW]
    exact (((hb.g.setCell (fun h => absurd h (by dsimp only; omega)) _).setCell (fun h => absurd h (by dsimp only; omega)) _).setCell (fun h => absurd h (by dsimp only; omega)) _).setCell (fun h => absurd h (by dsimp only; omega)) _
  rw [← hW] at r3
  exact ⟨⟨r3.cell 0, r3.cell 1, r3.cell 2⟩, a1, c1, a2, c2, a3, c3, rfl, ⟨key _ _ ho, m1, i1, b1⟩, ⟨key _ _ hb.o2, m2, i2, b2⟩, ⟨key _ _ hb.o3, m3, i3, b3⟩, hg⟩
theorem not_take {k : Nat} (h : xs.Pairwise (· < ·)) (hk : k < xs.length) : xs.getD k 0 ∉ xs.take k := by
  intro hm
  rw [List.getD_eq_getElem?_getD, List.getElem?_eq_getElem hk] at hm
  obtain ⟨j, hj, e⟩ := List.getElem_of_mem hm
  rw [List.length_take] at hj
  rw [List.getElem_take] at e
  have h1 := List.pairwise_iff_getElem.1 h j k (by omega) hk (by omega)
  simp only [Option.getD_some] at e
  omega
theorem kd_of (ho : Lok cs L) (h : los cs L q i = true) : (aimX cs L i).2 = 3 ∨ (aimX cs L i).2 = 4 ∨ (aimX cs L i).2 = 5 := by
  obtain ⟨-, h2, -⟩ := los_iff.1 h
  by_cases h0 : (aimX cs L i).2 = 0
  · have h1 : (aimX cs L i).1 = 0 := by
      unfold aimX at h0 ⊢
      split
      · rfl
      · rename_i x hx
        rw [hx] at h0
        dsimp only at h0
        split
        · rename_i hr
          rw [if_pos hr] at h0
          have := isR_kd (cs := cs) (x := x) hr
          dsimp only at h0
          omega
        · rfl
    obtain ⟨x, hx⟩ := Option.ne_none_iff_exists'.1 h2
    obtain ⟨h3, h4⟩ := nd_some hx
    have := (ho.2 x h3).id1
    omega
  · obtain ⟨x, hx, hr⟩ := aim_ne h0
    rw [aim_yes hx hr]
    exact isR_kd hr
theorem fil_step (f : Int → Bool) {k : Nat} (h : xs.take (k + 1) = xs.take k ++ [i]) : (xs.take (k + 1)).filter f = (xs.take k).filter f ++ (if f i then [i] else []) := by
  rw [h, List.filter_append, List.filter_cons]
  rfl
end
end Go.Proofs.YtjfpjnhlnoiekaaGreat.L13

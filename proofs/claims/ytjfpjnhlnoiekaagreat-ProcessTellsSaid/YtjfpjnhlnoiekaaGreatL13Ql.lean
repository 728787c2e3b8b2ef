/- Lists of numbers cut at the front; slices.BinarySearch and slices.Insert of them. Conditions: at most 1000000 numbers. -/
import Derived.Test.YtjfpjnhlnoiekaaGreatInts
import Derived.Test.YtjfpjnhlnoiekaaGreatOwn
import Derived.Test.YtjfpjnhlnoiekaaGreatL1A
import Derived.Test.YtjfpjnhlnoiekaaGreatL9A
import Derived.Test.YtjfpjnhlnoiekaaGreatL13P
import Derived.Shelf.Spec.SlicesInsertGrow
import Derived.Shelf.Slices.SearchI
namespace Go.Proofs
open Go.Shelf
def Tryz.insA_ren : Go.Shelf.Ren := ⟨fun | 21 => 71 | 27 => 80 | 28 => 81 | 35 => 97 | 39 => 104 | n => n, fun | 0 => 0 | 3 => 3 | 4 => 4 | 22 => 27 | n => n, fun | n => n⟩
theorem Tryz.insA : Go.Proofs.Lays2.n21 Tryz.prog Tryz.insA_ren := {
  mixed := by kernel_rfl
  f21 := Tryz.func71.trans (congrArg some (by kernel_rfl))
  f27 := Tryz.func80.trans (congrArg some (by kernel_rfl))
  f28 := Tryz.func81.trans (congrArg some (by kernel_rfl))
  f35 := Tryz.func97.trans (congrArg some (by kernel_rfl))
  f39 := Tryz.func104.trans (congrArg some (by kernel_rfl))
  t0 := Tryz.underlying0
  a0 := Tryz.isAgg0
  z0 := Tryz.sizeOf0
  v0 := Tryz.zeroValue0
  t3 := Tryz.underlying3
  a3 := Tryz.isAgg3
  z3 := Tryz.sizeOf3
  v3 := Tryz.zeroValue3
  t4 := Tryz.underlying4
  a4 := Tryz.isAgg4
  z4 := Tryz.sizeOf4
  v4 := Tryz.zeroValue4
  t22 := Tryz.underlying27
  a22 := Tryz.isAgg27
  z22 := Tryz.sizeOf27
  v22 := Tryz.zeroValue27
  i3 := Go.Proofs.YtjfpjnhlnoiekaaGreat.L9.Tryz.infoI }
def Tryz.seaA_ren : Go.Shelf.Ren := ⟨fun | 25 => 70 | 31 => 78 | 32 => 79 | 37 => 96 | n => n, fun | 0 => 0 | 3 => 3 | 4 => 4 | 22 => 27 | 40 => 76 | n => n, fun | n => n⟩
theorem Tryz.seaA : Go.Proofs.Lays2.n25 Tryz.prog Tryz.seaA_ren := {
  mixed := by kernel_rfl
  f25 := Tryz.func70.trans (congrArg some (by kernel_rfl))
  f31 := Tryz.func78.trans (congrArg some (by kernel_rfl))
  f32 := Tryz.func79.trans (congrArg some (by kernel_rfl))
  f37 := Tryz.func96.trans (congrArg some (by kernel_rfl))
  t0 := Tryz.underlying0
  a0 := Tryz.isAgg0
  z0 := Tryz.sizeOf0
  v0 := Tryz.zeroValue0
  t3 := Tryz.underlying3
  a3 := Tryz.isAgg3
  z3 := Tryz.sizeOf3
  v3 := Tryz.zeroValue3
  t4 := Tryz.underlying4
  a4 := Tryz.isAgg4
  z4 := Tryz.sizeOf4
  v4 := Tryz.zeroValue4
  t22 := Tryz.underlying27
  a22 := Tryz.isAgg27
  z22 := Tryz.sizeOf27
  v22 := Tryz.zeroValue27
  t40 := Tryz.underlying76
  a40 := Tryz.isAgg76
  z40 := Tryz.sizeOf76
  v40 := Tryz.zeroValue76 }
end Go.Proofs
namespace Go.Proofs.YtjfpjnhlnoiekaaGreat.L13
open Go.ChangeShapes Go.WideShapes Go.ChangeAt Go.RowKit
set_option linter.unusedVariables false

/-- The list v, its block behind z, says xs. -/
def QL (w : World) (z : Nat) (v : Value) (xs : List Int) : Prop :=
  (v = .slice none 0 0 ∧ xs = []) ∨
    ∃ g off cap cs, v = .slice (some ⟨g, off, none⟩) xs.length cap ∧ z ≤ g ∧ Blk w g 3 cs ∧ xs.length ≤ cap ∧ cap ≤ maxLen ∧ off + cap ≤ cs.length ∧ ∀ k, k < xs.length → cs[off + k]? = some (.int .i64 (xs.getD k 0))
section
variable {w w' W W' : World} {z g n c k off cap : Nat} {v : Value} {x : Int} {xs ys : List Int} {a : Option Addr} {S : Nat → Prop}
theorem ql_nil (w : World) (z : Nat) : QL w z (.slice none 0 0) [] := .inl ⟨rfl, rfl⟩
theorem QL.form (h : QL w z v xs) : ∃ a c, v = .slice a xs.length c ∧ L1.Rd w a xs.length xs := by
  rcases h with ⟨rfl, rfl⟩ | ⟨g, off, cap, cs, rfl, h1, h2, h3, h4, h5, h6⟩
  · exact ⟨none, 0, rfl, L1.Rd.nothing⟩
  · refine ⟨_, _, rfl, rfl, fun _ => ⟨_, rfl, fun i hi => ?_⟩⟩
    rw [addr_add, h2.cell, h6 i hi]
theorem QL.pos (h : QL w z v xs) (hn : 0 < xs.length) : ∃ g off cap, v = .slice (some ⟨g, off, none⟩) xs.length cap ∧ z ≤ g ∧ g < w.heap.size ∧ xs.length ≤ cap ∧ cap ≤ maxLen := by
  rcases h with ⟨rfl, rfl⟩ | ⟨g, off, cap, cs, rfl, h1, h2, h3, h4, h5, h6⟩
  · cases hn
  · exact ⟨g, off, cap, rfl, h1, h2.lt, h3, h4⟩
theorem QL.cell (h : QL w z (.slice (some ⟨g, off, none⟩) n cap) xs) (hk : k < xs.length) : w.cell? ⟨g, off + k, none⟩ = some (.int .i64 (xs.getD k 0)) ∧ w.frozen? ⟨g, off + k, none⟩ = false := by
  rcases h with ⟨h, rfl⟩ | ⟨g', off', cap', cs, e, h1, h2, h3, h4, h5, h6⟩
  · cases hk
  · injection e with e1 e2 e3
    injection e1 with e1
    injection e1 with e4 e5
    subst e4
    subst e5
    exact ⟨by rw [h2.cell, h6 k hk], h2.frozen _⟩
theorem QL.lt (h : QL w z v xs) (k : Nat) (hk : v.ownBlock = some k) : z ≤ k ∧ k < w.heap.size := by
  rcases h with ⟨rfl, rfl⟩ | ⟨g, off, cap, cs, rfl, h1, h2, h3, h4, h5, h6⟩
  · cases hk
  · injection hk with hk
    subst hk
    exact ⟨h1, h2.lt⟩
theorem QL.chg (h : QL w z v xs) (d : Chg S w w') (hs : ∀ k, v.ownBlock = some k → ¬ S k) : QL w' z v xs := by
  rcases h with ⟨rfl, rfl⟩ | ⟨g, off, cap, cs, rfl, h1, h2, h3, h4, h5, h6⟩
  · exact ql_nil _ _
  · exact .inr ⟨g, off, cap, cs, rfl, h1, h2.chg d (hs g rfl), h3, h4, h5, h6⟩
theorem QL.grow (h : QL w z v xs) (d : Grow w w') : QL w' z v xs := h.chg d fun _ _ => id
theorem QL.lower {z' : Nat} (h : QL w z v xs) (hb : z' ≤ z) : QL w z' v xs := by
  rcases h with h | ⟨g, off, cap, cs, rfl, h1, h2⟩
  · exact .inl h
  · exact .inr ⟨g, off, cap, cs, rfl, by omega, h2⟩
theorem QL.raise {z' : Nat} (h : QL w z v xs) (hb : ∀ k, v.ownBlock = some k → z' ≤ k) : QL w z' v xs := by
  rcases h with h | ⟨g, off, cap, cs, rfl, h1, h2⟩
  · exact .inl h
  · exact .inr ⟨g, off, cap, cs, rfl, hb g rfl, h2⟩
theorem QL.ne {t : TypeId} {cs : List Value} (h : QL w z v xs) (hb : Blk w g t cs) (hne : 3 ≠ t) : v.ownBlock ≠ some g := by
  rcases h with ⟨rfl, rfl⟩ | ⟨g', off, cap, cs, rfl, h1, h2, h3⟩
  · intro e; cases e
  · intro e
    injection e with e
    exact h2.ne_ hb hne e
theorem QL.ne_map {x : Array _} {y : Nat} (h : QL w z v xs) (hb : w.heap[g]? = some (.map x y)) : v.ownBlock ≠ some g := by
  rcases h with ⟨rfl, rfl⟩ | ⟨g', off, cap, cs, rfl, h1, h2, h3⟩
  · intro e; cases e
  · intro e
    injection e with e
    unfold Blk at h2
    subst e
    rw [hb] at h2
    cases h2
theorem QL.old (h : QL w z v xs) {b : Nat} (hb : w.heap.size ≤ b) : some b ≠ v.ownBlock := by
  intro e
  have := (h.lt b e.symm).2
  omega
theorem own_ql {z : Nat} (h : w.ownsRow z 3 1 v xs.length (ints xs)) : QL w z v xs := by
  rcases h.2 with ⟨rfl, h0⟩ | ⟨g, cap, cur, rfl, h1, h2, h3, h4, h5, h6⟩
  · exact .inl ⟨rfl, List.eq_nil_of_length_eq_zero h0⟩
  · refine .inr ⟨g, 0, cap, cur.toList, rfl, h1, by unfold Blk; rw [h2], h3, h4, by simp [h5], fun k hk => ?_⟩
    have := ints_get xs k hk
    rw [← h6] at this
    rw [Nat.zero_add, ← this, List.getElem?_take_of_lt (by omega)]
/-- The first goes. -/
theorem QL.tail (h : QL w z (.slice (some ⟨g, off, none⟩) (xs.length + 1) cap) (x :: xs)) : QL w z (.slice (some ⟨g, (if cap = 1 then off else off + 1), none⟩) xs.length (cap - 1)) xs := by
  rcases h with ⟨h, _⟩ | ⟨g', off', cap', cs, e, h1, h2, h3, h4, h5, h6⟩
  · cases h
  · injection e with e1 e2 e3
    injection e1 with e1
    injection e1 with e4 e5
    subst e4 e5 e3
    simp only [List.length_cons] at h3 h6
    refine .inr ⟨_, _, _, cs, rfl, h1, h2, by omega, by omega, by split <;> omega, fun k hk => ?_⟩
    have := h6 (k + 1) (by omega)
    rw [if_neg (by omega), show off + 1 + k = off + (k + 1) by omega, this]
    rfl
theorem setCells_at {t : TypeId} : ∀ (us cs : List Value) (o : Nat) (w : World), Blk w g t cs → o + us.length ≤ cs.length →
    ∃ cs', Blk (w.setCells g o us) g t cs' ∧ cs'.length = cs.length ∧ (∀ i, i < o → cs'[i]? = cs[i]?) ∧ (∀ j, j < us.length → cs'[o + j]? = us[j]?) ∧ (∀ i, o + us.length ≤ i → cs'[i]? = cs[i]?) ∧ Chg (· = g) w (w.setCells g o us) := by
  intro us
  induction us with
  | nil => exact fun cs o w h _ => ⟨cs, h, rfl, fun _ _ => rfl, fun j hj => absurd hj (by simp), fun _ _ => rfl, Chg.refl _ _⟩
  | cons u us ih =>
    intro cs o w h hl
    simp only [List.length_cons] at hl
    obtain ⟨cs', h1, h2, h3, h4, h6, h5⟩ := ih (cs.set o u) (o + 1) _ (h.set_ o u) (by rw [List.length_set]; omega)
    refine ⟨cs', h1, by simpa using h2, fun i hi => ?_, fun j hj => ?_, fun i hi => ?_, ((Chg.refl _ w).set1 o u).trans h5⟩
    · rw [h3 i (by omega), List.getElem?_set_ne (by omega)]
    · cases j with
      | zero =>
        have ho : o < cs.length := by omega
        rw [Nat.add_zero, h3 o (Nat.lt_succ_self o)]
        simp [ho]
      | succ j =>
        have := h4 j (by simpa using hj)
        rw [show o + (j + 1) = o + 1 + j by omega, this]
        simp
    · rw [List.length_cons] at hi
      rw [h6 i (by omega), List.getElem?_set_ne (by omega)]
theorem ins_get (xs : List Int) (x : Int) {i k : Nat} (hi : i ≤ xs.length) : (xs.take i ++ x :: xs.drop i).getD k 0 = if k < i then xs.getD k 0 else if k = i then x else xs.getD (k - 1) 0 := by
  have hl : (xs.take i).length = i := by simp; omega
  simp only [List.getD_eq_getElem?_getD]
  by_cases h1 : k < i
  · rw [if_pos h1, List.getElem?_append_left (by omega), List.getElem?_take_of_lt h1]
  · rw [if_neg h1, List.getElem?_append_right (by omega), hl]
    by_cases h2 : k = i
    · subst h2
      simp
    · rw [if_neg h2, show k - i = (k - i - 1) + 1 by omega, List.getElem?_cons_succ, List.getElem?_drop, show i + (k - i - 1) = k - 1 by omega]
theorem ins_len (xs : List Int) (x : Int) {i : Nat} (hi : i ≤ xs.length) : (xs.take i ++ x :: xs.drop i).length = xs.length + 1 := by simp; omega
theorem shape_blk {t : TypeId} {cs : List Value} (h : Blk w g t cs) : w.shape? g = some (t, cs.length) := by
  unfold Blk at h
  simp [World.shape?, h]
/-- What stands behind an insertion. -/
def Insd (w : World) (z : Nat) (v : Value) (ys : List Int) (e : Ending) (w' : World) : Prop :=
  ∃ v', e = .returned v' ∧ QL w' z v' ys ∧ Chg (fun k => v.ownBlock = some k) w w' ∧ ∀ k, v'.ownBlock = some k → v.ownBlock = some k ∨ w.heap.size ≤ k
set_option maxRecDepth 100000 in
theorem insert_any {vb i : Nat} (h : QL w z v xs) (hz : z ≤ w.heap.size) (hb : Blk w vb 3 [Value.int .i64 x]) (hne : v.ownBlock ≠ some vb) (hlen : xs.length ≤ 1000000) (hi : i ≤ xs.length) :
    Calls Tryz.prog 71 #[v, .int .i64 i, .slice (some ⟨vb, 0, none⟩) 1 1] w (Insd w z v (xs.take i ++ x :: xs.drop i)) := by
  have hvs : ∀ j u, [Value.int .i64 x][j]? = some u → w.cell? ⟨vb, 0 + j, none⟩ = some u := fun j u hu => by rw [hb.cell, Nat.zero_add]; exact hu
  have h1v : ∀ u ∈ [Value.int .i64 x], u.oneCell' = true := fun u hu => by rw [List.mem_singleton.1 hu]; rfl
  have hyl := ins_len xs x hi
  have gnew : ∀ (base : Option Addr) (cap : Nat), v = .slice base xs.length cap → i = xs.length → xs.length ≤ cap → cap < xs.length + 1 → (base = none → xs.length = 0) → (∀ a, base = some a → ∀ j u, (ints xs)[j]? = some u → w.cell? (a.add j) = some u) →
      Calls Tryz.prog 71 #[v, .int .i64 i, .slice (some ⟨vb, 0, none⟩) 1 1] w (Insd w z v (xs.take i ++ x :: xs.drop i)) := by
    intro base cap hv hie hnc hroom hnil hcs
    have hc := Any2.slices_Insert_int_end_grow Tryz.insA base xs.length cap vb 0 1 1 (ints xs) [Value.int .i64 x] w (by omega) hnc hroom (by omega) (ints_length xs) rfl hnil hcs hvs h1v
    change Calls Tryz.prog 71 _ _ _ at hc
    rw [hv, hie]
    refine hc.mono ?_
    rintro e w' ⟨rfl, rfl⟩
    have hge := grownCap_ge w (xs.length + 1) cap 3
    have hle := grownCap_le_maxLen w (xs.length + 1) cap 3 (by unfold maxLen; omega)
    rw [hie] at hyl
    show Insd _ _ _ _ (.returned (.slice (some ⟨w.heap.size, 0, none⟩) (xs.length + 1) (grownCap w (xs.length + 1) cap 3))) (w.drew.alloc (.cells ((ints xs ++ [Value.int .i64 x]).toArray ++ Builtin.zeroCells (Value.int .i64 0).cells (grownCap w (xs.length + 1) cap 3 - (xs.length + 1))) 3))
    generalize grownCap w (xs.length + 1) cap 3 = G at *
    have hbl := Blk.new w.drew 3 (ints xs ++ [Value.int .i64 x] ++ (Builtin.zeroCells (Value.int .i64 0).cells (G - (xs.length + 1))).toList)
    have e : (ints xs ++ [Value.int .i64 x] ++ (Builtin.zeroCells (Value.int .i64 0).cells (G - (xs.length + 1))).toList).toArray = (ints xs ++ [Value.int .i64 x]).toArray ++ Builtin.zeroCells (Value.int .i64 0).cells (G - (xs.length + 1)) := by
      apply Array.ext'
      simp
    rw [e] at hbl
    refine ⟨_, rfl, .inr ⟨w.heap.size, 0, G, _, by rw [hyl], hz, hbl, by rw [hyl]; exact hge, hle, ?_, fun k hk => ?_⟩, (Chg.refl _ w).drew.alloc _, fun k hk => .inr ?_⟩
    · simp only [List.length_append, ints_length, List.length_singleton, Array.length_toList, Builtin.zeroCells]
      simp [Value.cells]
      omega
    · rw [hyl] at hk
      have e1 : xs.take xs.length ++ x :: xs.drop xs.length = xs ++ [x] := by simp
      rw [e1, Nat.zero_add, List.getElem?_append_left (by simp [ints_length]; omega), show ints xs ++ [Value.int .i64 x] = ints (xs ++ [x]) by simp [ints], ints_get _ _ (by simp; omega)]
    · have hk2 : some w.heap.size = some k := hk
      injection hk2 with hk2
      omega
  rcases h with ⟨rfl, rfl⟩ | ⟨g, off, cap, cs, rfl, h1, h2, h3, h4, h5, h6⟩
  · simp only [List.length_nil, Nat.le_zero] at hi
    exact gnew none 0 rfl hi (Nat.le_refl _) (by simp) (fun _ => rfl) fun a h => by cases h
  · have hgv : vb ≠ g := fun e => hne (by rw [e]; rfl)
    have hcs : ∀ j u, (ints xs)[j]? = some u → w.cell? ⟨g, off + j, none⟩ = some u := fun j u hu => by
      have hj : j < xs.length := by have := (List.getElem?_eq_some_iff.1 hu).1; rwa [ints_length] at this
      rw [h2.cell, h6 j hj, ← ints_get xs j hj, hu]
    rcases Nat.eq_or_lt_of_le hi with hie | hlt
    · by_cases hroom : xs.length + 1 ≤ cap
      · have hc := Any2.slices_Insert_int_end_room Tryz.insA g off xs.length cap vb 0 1 1 [Value.int .i64 x] w (by omega) hroom (by unfold maxLen at h4; omega) rfl (fun j hj => by rw [h2.cell, List.getElem?_eq_getElem (by omega)]; rfl) (fun j hj => h2.frozen _) hvs h1v
        change Calls Tryz.prog 71 _ _ _ at hc
        rw [hie]
        rw [hie] at hyl
        refine hc.mono ?_
        rintro e w' ⟨rfl, rfl⟩
        obtain ⟨cs', k1, k2, k3, k4, k6, k5⟩ := setCells_at [Value.int .i64 x] cs (off + xs.length) w h2 (by simp; omega)
        refine ⟨_, rfl, .inr ⟨g, off, cap, cs', by rw [hyl], h1, k1, by rw [hyl]; exact hroom, h4, by omega, fun k hk => ?_⟩, k5.mono fun _ _ e => by rw [e]; rfl, fun k hk => .inl hk⟩
        rw [hyl] at hk
        rw [ins_get xs x (Nat.le_refl _)]
        rcases Nat.lt_or_ge k xs.length with hl | hl
        · rw [if_pos hl, k3 _ (by omega), h6 k hl]
        · obtain rfl : k = xs.length := by omega
          rw [if_neg (by omega), if_pos rfl]
          have := k4 0 (by simp)
          rw [Nat.add_zero] at this
          rw [this]
          rfl
      · exact gnew (some ⟨g, off, none⟩) cap rfl hie h3 (by omega) (fun h => by cases h) fun a ha j u hu => by
          injection ha with ha
          subst ha
          rw [addr_add]
          exact hcs j u hu
    · have h1c : ∀ u ∈ ints xs, u.oneCell' = true := ints_one xs
      have hdl : ((ints xs).drop i).length = xs.length - i := by rw [List.length_drop, ints_length]
      by_cases hroom : xs.length + 1 ≤ cap
      · have hc := Any2.slices_Insert_int_shift Tryz.insA g off xs.length cap i vb 0 1 1 (ints xs) [Value.int .i64 x] w hlt (by omega) hroom (by unfold maxLen at h4; omega) hgv (ints_length xs) rfl hcs (fun j hj => by rw [h2.cell, List.getElem?_eq_getElem (by omega)]; rfl) (fun j hj => h2.frozen _) hvs h1c h1v
          3 3 1 cs.length (shape_blk hb) (shape_blk h2) (by omega) (hb.frozen _) (hb.frozen _)
        change Calls Tryz.prog 71 _ _ _ at hc
        refine hc.mono ?_
        rintro e w' ⟨rfl, rfl⟩
        obtain ⟨c1, k1, k2, k3, k4, k6, k5⟩ := setCells_at ((ints xs).drop i) cs (off + (i + 1)) w.drew h2.drew (by rw [hdl]; omega)
        obtain ⟨c2, l1, l2, l3, l4, l6, l5⟩ := setCells_at [Value.int .i64 x] c1 (off + i) _ k1 (by simp; omega)
        refine ⟨_, rfl, .inr ⟨g, off, cap, c2, by rw [hyl], h1, l1, by rw [hyl]; exact hroom, h4, by omega, fun k hk => ?_⟩, (((Chg.refl _ w).drew.trans k5).trans l5).mono fun _ _ e => by rw [e]; rfl, fun k hk => .inl hk⟩
        rw [hyl] at hk
        rw [ins_get xs x hi]
        by_cases hki : k < i
        · rw [if_pos hki, l3 _ (by omega), k3 _ (by omega), h6 k (by omega)]
        · rw [if_neg hki]
          by_cases hke : k = i
          · rw [if_pos hke, hke]
            have := l4 0 (by simp)
            rw [Nat.add_zero] at this
            rw [this]
            rfl
          · rw [if_neg hke, l6 _ (by simp; omega)]
            have := k4 (k - (i + 1)) (by rw [hdl]; omega)
            rw [show off + (i + 1) + (k - (i + 1)) = off + k by omega, List.getElem?_drop, show i + (k - (i + 1)) = k - 1 by omega, ints_get _ _ (by omega)] at this
            exact this
      · have hc := Any2.slices_Insert_int_grow Tryz.insA g off xs.length cap i vb 0 1 1 (ints xs) [Value.int .i64 x] w hlt (by omega) h3 (by omega) (by omega) (ints_length xs) rfl hcs hvs h1c h1v
        change Calls Tryz.prog 71 _ _ _ at hc
        refine hc.mono ?_
        have hge := grownCap_ge w (xs.length + 1) cap 3
        have hle := grownCap_le_maxLen w (xs.length + 1) cap 3 (by unfold maxLen; omega)
        intro e w' hew
        replace hew : e = .returned (.slice (some ⟨w.heap.size, 0, none⟩) (xs.length + 1) (grownCap w (xs.length + 1) cap 3)) ∧ w' = (((w.alloc (.cells (((ints xs).take i).toArray ++ Builtin.zeroCells (Value.int .i64 0).cells (xs.length + 1 - i) ++ Builtin.zeroCells (Value.int .i64 0).cells (grownCap w (xs.length + 1) cap 3 - (xs.length + 1))) 3)).drew.setCells w.heap.size i [Value.int .i64 x]).drew).setCells w.heap.size (i + 1) ((ints xs).drop i) := hew
        generalize grownCap w (xs.length + 1) cap 3 = G at *
        obtain ⟨rfl, rfl⟩ := hew
        obtain ⟨c0, hc0, hl0, hp0⟩ : ∃ c0 : List Value, c0.toArray = ((ints xs).take i).toArray ++ Builtin.zeroCells (Value.int .i64 0).cells (xs.length + 1 - i) ++ Builtin.zeroCells (Value.int .i64 0).cells (G - (xs.length + 1)) ∧ c0.length = G ∧ ∀ k, k < i → c0[k]? = (ints xs)[k]? := by
          refine ⟨(ints xs).take i ++ (Builtin.zeroCells (Value.int .i64 0).cells (xs.length + 1 - i)).toList ++ (Builtin.zeroCells (Value.int .i64 0).cells (G - (xs.length + 1))).toList, by apply Array.ext'; simp, ?_, fun k hk => ?_⟩
          · simp only [List.length_append, List.length_take, ints_length, Array.length_toList, Builtin.zeroCells]
            simp [Value.cells]
            omega
          · rw [List.append_assoc, List.getElem?_append_left (by rw [List.length_take, ints_length]; omega), List.getElem?_take_of_lt hk]
        rw [← hc0]
        have hbl := Blk.new w 3 c0
        obtain ⟨c1, k1, k2, k3, k4, k6, k5⟩ := setCells_at [Value.int .i64 x] c0 i _ hbl.drew (by simp; omega)
        obtain ⟨c2, l1, l2, l3, l4, l6, l5⟩ := setCells_at ((ints xs).drop i) c1 (i + 1) _ k1.drew (by rw [hdl]; omega)
        refine ⟨_, rfl, .inr ⟨w.heap.size, 0, G, c2, by rw [hyl], hz, l1, by rw [hyl]; exact hge, hle, by omega, fun k hk => ?_⟩, ?_, fun k hk => .inr (by have hk2 : some w.heap.size = some k := hk; injection hk2 with hk2; omega)⟩
        · rw [hyl] at hk
          rw [ins_get xs x hi, Nat.zero_add]
          by_cases hki : k < i
          · rw [if_pos hki, l3 _ (by omega), k3 _ (by omega), hp0 k hki, ints_get _ _ (by omega)]
          · rw [if_neg hki]
            by_cases hke : k = i
            · rw [if_pos hke, hke, l3 _ (by omega)]
              have := k4 0 (by simp)
              rw [Nat.add_zero] at this
              rw [this]
              rfl
            · rw [if_neg hke]
              have := l4 (k - (i + 1)) (by rw [hdl]; omega)
              rw [show i + 1 + (k - (i + 1)) = k by omega, List.getElem?_drop, show i + (k - (i + 1)) = k - 1 by omega, ints_get _ _ (by omega)] at this
              exact this
        · have g1 : Grow w (w.alloc (.cells c0.toArray 3)) := Grow.box _ _
          exact ((g1.drew.step k5 fun i hi e => by have e2 : i = w.heap.size := e; omega).drew.step l5 fun i hi e => by have e2 : i = w.heap.size := e; omega).mono fun _ _ h => h.elim
set_option maxRecDepth 100000 in
theorem search_any (h : QL w z v xs) (hlen : xs.length ≤ 1000000) (hs : xs.Pairwise (· < ·)) :
    Calls Tryz.prog 70 #[v, .int .i64 x] w fun e w' => (∃ b, e = .returned (.tuple #[.int .i64 (xs.countP (· < x) : Nat), .bool b])) ∧ Grow w w' := by
  rcases h with ⟨rfl, rfl⟩ | ⟨g, off, cap, cs, rfl, h1, h2, h3, h4, h5, h6⟩
  · go_enter Tryz.func70, Tryz.ntmps70
    go_wp2
    go_loopw [7, 8] (fun a b wr => a = .int .i64 0 ∧ b = .int .i64 0 ∧ w = wr) (fun _ _ _ => 0)
    case atStart => exact ⟨rfl, rfl, rfl⟩
    case round =>
      obtain ⟨rfl, rfl, rfl⟩ := hrel
      go_wp2
      go_ret2
      exact ⟨⟨_, rfl⟩, Chg.refl _ _⟩
  · have hc := Any.slices_BinarySearch_int Tryz.seaA g off xs.length cap xs x w (Nat.le_refl _) (by omega) (fun j hj => by rw [h2.cell, h6 j hj]) (by rw [List.take_length]; exact hs.imp fun h => by omega)
    change Calls Tryz.prog 70 _ _ _ at hc
    refine hc.mono ?_
    rintro e w' ⟨rfl, q, rfl⟩
    rw [List.take_length]
    exact ⟨⟨_, rfl⟩, (Chg.refl _ _).drewN q⟩
end
end Go.Proofs.YtjfpjnhlnoiekaaGreat.L13

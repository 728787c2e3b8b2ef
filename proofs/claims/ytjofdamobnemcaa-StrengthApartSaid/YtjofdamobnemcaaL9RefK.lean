/- The plain graph: Keep. Conditions: fewer than 1000000 nodes and names. -/
import Derived.Test.YtjofdamobnemcaaL9RefB
import Derived.Test.YtjofdamobnemcaaL9KeepsP
namespace Go.Proofs.Ytjofdamobnemcaa.L9
open Go.ChangeShapes Go.WideShapes Go.ChangeAt Go.RowKit
open Go.Proofs.Ytjofdamobnemcaa.L5 (Cl clAt IsCls newX isRf)
open Go.Proofs.Ytjofdamobnemcaa.graphKeeps (clK_skip kp_len nd_ne)
set_option linter.unusedVariables false
/-- Who stays. -/
def kF (L : List Nd) (zs : List Int) : List Nd := L.filter fun x => hasB zs x.id
def fL (M : List Nd) (t : Int) : Option Nat := if (nd M t).isSome then some 0 else none
theorem c1_fL (M : List Nd) (t : Int) : c1 (fL M) t = if (nd M t).isSome then t else 0 := by
  unfold c1 fL
  cases (nd M t).isSome <;> rfl
theorem kF_take {L : List Nd} {zs : List Int} {k : Nat} {x : Nd} (hk : L[k]? = some x) : kF (L.take (k + 1)) zs = kF (L.take k) zs ++ (if hasB zs x.id then [x] else []) := by
  unfold kF
  rw [List.take_add_one, hk, List.filter_append]
  congr 1
  cases h : hasB zs x.id <;> simp [h]
theorem kF_srt {L : List Nd} {zs : List Int} (h : Srt L) : Srt (kF L zs) := List.Pairwise.sublist List.filter_sublist h
theorem kp_is (L : List Nd) (zs : List Int) : kpL L zs = (kF L zs).map (clr (fL (kF L zs))) := by
  unfold kpL
  refine List.map_congr_left fun x _ => ?_
  unfold clr
  congr 1
  refine List.map_congr_left fun t _ => ?_
  rw [c1_fL]
  have hiff : (nd (kF L zs) t).isSome = (hasB zs t && (nd L t).isSome) := by
    rw [Bool.eq_iff_iff, Bool.and_eq_true, Option.isSome_iff_ne_none, Option.isSome_iff_ne_none, nd_ne, nd_ne]
    constructor
    · rintro ⟨y, hy, rfl⟩
      obtain ⟨h1, h2⟩ := List.mem_filter.1 hy
      exact ⟨h2, y, h1, rfl⟩
    · rintro ⟨h1, y, hy, rfl⟩
      exact ⟨y, List.mem_filter.2 ⟨hy, h1⟩, rfl⟩
  rw [hiff]
theorem kF_len (L : List Nd) (zs : List Int) : (kF L zs).length + kpN L zs = L.length := by
  have h := kp_len L zs
  rw [kp_is, List.length_map] at h
  exact h
/-- The first i of them cleared. -/
def clT (f : Int → Option Nat) (M : List Nd) (i : Nat) : List Nd := (M.take i).map (clr f) ++ M.drop i
section
variable {f : Int → Option Nat} {M : List Nd} {x : Nd} {i : Nat}
theorem clT_zero : clT f M 0 = M := by simp [clT]
theorem clT_all {n : Nat} (h : M.length = n) : clT f M n = M.map (clr f) := by subst h; simp [clT]
theorem clT_len (i : Nat) : (clT f M i).length = M.length := by simp [clT]; omega
theorem clT_at (hx : M[i]? = some x) : (clT f M i)[i]? = some x := by
  have hi := (List.getElem?_eq_some_iff.1 hx).1
  have hl : ((M.take i).map (clr f)).length = i := by simp; omega
  unfold clT
  rw [List.getElem?_append_right (by omega), hl, Nat.sub_self, List.getElem?_drop, Nat.add_zero]
  exact hx
theorem clT_step (hx : M[i]? = some x) : (clT f M i).set i (clr f x) = clT f M (i + 1) := by
  have hi := (List.getElem?_eq_some_iff.1 hx).1
  have hl : ((M.take i).map (clr f)).length = i := by simp; omega
  unfold clT
  rw [List.set_append_right _ _ (by omega), hl, Nat.sub_self, List.take_add_one, hx, List.map_append, List.append_assoc]
  congr 1
  obtain ⟨_, e⟩ := List.getElem?_eq_some_iff.1 hx
  rw [List.drop_eq_getElem_cons hi, e, List.set_cons_zero]
  rfl
theorem clT_ids (i : Nat) : (clT f M i).map Nd.id = M.map Nd.id := by
  unfold clT
  rw [List.map_append, List.map_map]
  conv => rhs; rw [← List.take_append_drop i M, List.map_append]
  rfl
theorem set_ids {y : Nd} (hx : M[i]? = some x) (e : y.id = x.id) : (M.set i y).map Nd.id = M.map Nd.id := by
  rw [List.map_set, e]
  obtain ⟨hi, e2⟩ := List.getElem?_eq_some_iff.1 hx
  apply List.ext_getElem?
  intro j
  rw [List.getElem?_set]
  by_cases h : i = j
  · subst h
    rw [if_pos rfl, if_pos (by simpa using hi), List.getElem?_map, hx]
    rfl
  · rw [if_neg h]
theorem set_self {A : List Nd} (h : A[i]? = some x) : A.set i x = A := by
  obtain ⟨hi, e⟩ := List.getElem?_eq_some_iff.1 h
  rw [← e]
  exact List.set_getElem_self _
theorem nd_of_ids {M' : List Nd} (e : M'.map Nd.id = M.map Nd.id) (t : Int) : (nd M' t).isSome = (nd M t).isSome := by
  have key : ∀ A B : List Nd, A.map Nd.id = B.map Nd.id → (∃ y ∈ A, y.id = t) → ∃ y ∈ B, y.id = t := fun A B e ⟨y, hy, h⟩ => by
    have : t ∈ A.map Nd.id := List.mem_map.2 ⟨y, hy, h⟩
    rw [e] at this
    obtain ⟨u, hu, h'⟩ := List.mem_map.1 this
    exact ⟨u, hu, h'⟩
  rw [Bool.eq_iff_iff, Option.isSome_iff_ne_none, Option.isSome_iff_ne_none, nd_ne, nd_ne]
  exact ⟨key _ _ e, key _ _ e.symm⟩
end
section
variable {w w' : World} {z q : Nat} {T U : Nat → Prop} {cv v : Value} {r d : Int → Nat} {ow : Nat → Int} {L : List Nd} {x y : Nd} {k : Nat} {zs : List Int} {cs : List Cl} {a : Option Addr} {len cap : Nat}
/-- Some of its nodes, in a list anew. -/
theorem Rf.sub (h : Rf w z T q cv v r d ow L) (ho : Lok cs L) {M : List Nd} (hM : ∀ y ∈ M, y ∈ L) {W : World} (g : Grow w W) {o : Value} (hown : W.ownsRow w.heap.size 45 5 o M.length (rfC r d M)) :
    Chg T w (W.setCell ⟨q, 1, none⟩ o) ∧ ∃ T' ow', Rf (W.setCell ⟨q, 1, none⟩ o) z T' q cv o r d ow' M ∧ (∀ k, T' k → T k ∨ w.heap.size ≤ k) ∧ ∀ y ∈ L, T (r y.id) := by
  have hq := h.t q h.tq
  have hzw : z ≤ w.heap.size := Nat.le_of_lt (Nat.lt_of_le_of_lt hq.1 hq.2)
  have cset : Chg (· = q) W (W.setCell ⟨q, 1, none⟩ o) := (Chg.refl _ _).set1 _ _
  have hsz := cset.size
  have hgs := g.size
  refine ⟨(g.mono fun _ _ h => h.elim).step cset fun i _ e => by rw [e]; exact h.tq, fun k => T k ∨ (w.heap.size ≤ k ∧ k < (W.setCell ⟨q, 1, none⟩ o).heap.size), fun k => if k < w.heap.size then ow k else 0, ⟨?_, ?_, ?_, .inl h.tq, ?_, ?_, ?_⟩, fun k hk => hk.imp id fun h => h.1, fun y hy => (h.nds y hy).2.1.1⟩
  · exact (h.blk.chg g id).set_ 1 o
  · exact own_chg (ownsRow_base_a hown hzw) cset fun k hk e => by have := (hown.lt k hk).1; omega
  · intro k hk
    have h4 := hown.lt k hk
    have e3 : ¬ k < w.heap.size := by omega
    exact ⟨.inr ⟨h4.1, by omega⟩, if_neg e3, by omega⟩
  · simp only [if_pos hq.2]
    exact h.oq
  · rintro k (hk | hk)
    · have := h.t k hk
      exact ⟨this.1, by omega⟩
    · exact ⟨by omega, hk.2⟩
  · intro y hy
    obtain ⟨⟨b1, b2⟩, ⟨t1, t2⟩, ⟨o1, o2⟩, h6⟩ := h.nds y (hM y hy)
    have l1 := (h.t _ t1).2
    have l2 := (h.t _ t2).2
    have hy1 := (ho.2 y (hM y hy)).id1
    simp only [if_pos l1, if_pos l2]
    exact ⟨⟨(b1.chg g id).chg cset (fun e => by have e' : r y.id = q := e; rw [e', h.oq] at o1; omega), (b2.chg g id).chg cset (fun e => by have e' : d y.id = q := e; rw [e', h.oq] at o2; omega)⟩, ⟨.inl t1, .inl t2⟩, ⟨o1, o2⟩, h6⟩
end
end Go.Proofs.Ytjofdamobnemcaa.L9

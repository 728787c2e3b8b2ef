/- The plain graph: appending, a node more. Conditions: fewer than 1000000 nodes and classes; the classes can be. -/
import Derived.Deep.RegionHeld3
import Derived.Test.YtjofdamobnemcaaL9RefS
namespace Go.Proofs.Ytjofdamobnemcaa.L9
open Go.ChangeShapes Go.WideShapes Go.ChangeAt Go.RowKit
open Go.Proofs.Ytjofdamobnemcaa.L5 (Cl clAt IsCls newX isRf rtB shX shR shD rshape_any)
set_option linter.unusedVariables false
theorem Try.infoNd : (Try.prog.info? 45).map (fun i => (i.zero, i.size, i.bytes)) = some (some (.agg #[.int .i64 0, .int .i64 0, .slice none 0 0, .slice none 0 0, .bool false]), 5, 72) := by kernel_rfl
/-- append, by what it comes to. -/
theorem wpList_app {P : Program} {ops : Array Oper} {rest : List Oper} {o : Oper} {a : Act} {Q : Exit → Act → World → Prop} (hgd : o.guard = none) (s x : Operand) (t : TypeId)
    (ho : o.op = .call { callee := .builtin .append, args := #[s, x], argTypes := #[t, t] }) (v1 v2 v' : Value) (w w' : World) (hs : a.eval s = v1) (hx : a.eval x = v2)
    (hr : (Builtin.append_ #[t, t] o.type #[v1, v2]).run P w = .ok v' w') (h : wpList P ops Q rest (a.put o.dst v') w') : wpList P ops Q (o :: rest) a w := by
  refine wpList_plain hgd fun K hK => ?_
  unfold Oper.wp
  simp [execOp, ho, resolve, invoke, builtin, hs, hx, hr, Result.andThen]
  exact hK _ _ h
/-- What is appended: m nodes, their cells ys. -/
def Src (W : World) (s : Value) (m : Nat) (ys : List Value) : Prop :=
  (s = .slice none 0 0 ∧ m = 0 ∧ ys = []) ∨ ∃ ad c, s = .slice (some ad) m c ∧ ys.length = m * 5 ∧ (∀ j u, ys[j]? = some u → W.cell? (ad.add j) = some u) ∧ ∀ u ∈ ys, u.oneCell' = true
theorem app_nd {W : World} {base : Nat} {v : Value} {n : Nat} {xs ys : List Value} (h : W.ownsRow base 45 5 v n xs) (hb : base ≤ W.heap.size) {s : Value} {m : Nat} (hs : Src W s m ys) (hn : n + m ≤ 2000000) :
    ∃ v' W', (Builtin.append_ #[41, 41] 41 #[v, s]).run Try.prog W = .ok v' W' ∧ W'.ownsRow base 45 5 v' (n + m) (xs ++ ys) ∧ W.grownBy W' v.ownBlock ∧ (v'.ownBlock = v.ownBlock ∨ v'.ownBlock = some W.heap.size) := by
  obtain ⟨i0, hi0, hz0, hz1, hz2⟩ := info_parts Try.infoNd
  rcases hs with ⟨rfl, rfl, rfl⟩ | ⟨ad, c, rfl, h1, h2, h3⟩
  · refine ⟨v, W, run_append_owned_none _ base _ _ _ i0 5 Try.underlying41 hi0 v n xs h, by simpa using h, ⟨rfl, rfl, rfl, Nat.le_refl _, fun _ _ _ => rfl⟩, .inl rfl⟩
  · obtain ⟨v', W', hr, h4, h5, _, h6⟩ := run_append_own_at (P := Try.prog) W base 41 41 45 i0 (.agg #[.int .i64 0, .int .i64 0, .slice none 0 0, .slice none 0 0, .bool false]) 5 72 Try.underlying41 hi0 hz0 hz1 hz2 rfl (by decide)
      v n xs h ad m c ys h1 h2 h3 (by unfold maxLen; omega) (by omega) hb
    exact ⟨v', W', hr, h4, h5, h6⟩
theorem step_app {P : Program} {ops : Array Oper} {o : Oper} {a : Act} {w : World} {K : Act → World → Prop} {Q : Exit → Act → World → Prop} {E : Prop} (hgd : o.guard = none) (s x : Operand) (t : TypeId)
    (ho : o.op = .call { callee := .builtin .append, args := #[s, x], argTypes := #[t, t] }) (v1 v2 v' : Value) (w' : World) (hs : a.eval s = v1) (hx : a.eval x = v2)
    (hr : (Builtin.append_ #[t, t] o.type #[v1, v2]).run P w = .ok v' w') (h : K (a.put o.dst v') w') : if Region.wanted o (yielded ops a.tmps) = true then Oper.wp P o a w K Q else E := by
  have hw : Region.wanted o (yielded ops a.tmps) = true := by simp [Region.wanted, hgd]
  rw [if_pos hw]
  unfold Oper.wp
  simp [execOp, ho, resolve, invoke, builtin, hs, hx, hr, Result.andThen]
  exact h
theorem own_cast {W : World} {base size n m : Nat} {e : TypeId} {v : Value} {xs : List Value} (h : W.ownsRow base e size v n xs) (hm : n = m) : W.ownsRow base e size v m xs := hm ▸ h
theorem own_ne {W : World} {base size n : Nat} {e t : TypeId} {v : Value} {xs cs : List Value} {g : Nat} (h : W.ownsRow base e size v n xs) (hb : Blk W g t cs) (hne : e ≠ t) : v.ownBlock ≠ some g := by
  rcases h.2 with ⟨rfl, _⟩ | ⟨g', cap, cur, rfl, _, hg, _⟩
  · intro e; cases e
  · intro e'
    have e2 : g' = g := by injection e'
    subst e2
    unfold Blk at hb
    rw [hg] at hb
    injection hb with hb
    injection hb with _ hb
    exact hne hb
/-- append onto a list that this call made. -/
theorem app_more {w W : World} (cc : Grow w W) {v : Value} {n : Nat} {xs ys : List Value} (h : W.ownsRow w.heap.size 45 5 v n xs) {s : Value} {m : Nat} (hs : Src W s m ys) (hn : n + m ≤ 2000000) :
    ∃ v' W', (Builtin.append_ #[41, 41] 41 #[v, s]).run Try.prog W = .ok v' W' ∧ W'.ownsRow w.heap.size 45 5 v' (n + m) (xs ++ ys) ∧ Grow w W' ∧ ∀ g cs, Blk W g 3 cs → Blk W' g 3 cs := by
  obtain ⟨v', W', hr, ho, hg, -⟩ := app_nd h cc.size hs hn
  refine ⟨v', W', hr, ho, Chg.grownOwn cc h (Nat.le_refl _) hg, fun g cs hb => ?_⟩
  exact hb.chg (S := fun k => v.ownBlock = some k) ((Chg.refl _ W).grown hg fun k _ e => e) (own_ne h hb (by decide))
theorem ins_at {L : List Nd} {x : Nd} {j : Nat} (h1 : ∀ m y, m < j → L[m]? = some y → y.id < x.id) (h2 : ∀ y, L[j]? = some y → ¬ y.id < x.id) : ins L x = L.take j ++ x :: L.drop j := by
  induction L generalizing j with
  | nil => simp [ins]
  | cons a l ih =>
    rw [ins_cons]
    cases j with
    | zero =>
      rw [if_neg (h2 a rfl)]
      rfl
    | succ i =>
      rw [if_pos (h1 0 a (by omega) rfl), ih (j := i) (fun m y hm hy => h1 (m + 1) y (by omega) (by simpa using hy)) (fun y hy => h2 y (by simpa using hy))]
      rfl
section
variable {w w' : World} {z q : Nat} {T U : Nat → Prop} {cv v : Value} {r d : Int → Nat} {ow : Nat → Int} {L : List Nd} {x y : Nd} {k : Nat} {i c l : Int} {cs : List Cl} {a : Option Addr} {len cap : Nat}
/-- A node more, in a list anew. -/
theorem Rf.ins (h : Rf w z T q cv v r d ow L) (hn : nd L x.id = none) (ho : Lok cs L) (h1 : 1 ≤ x.id) {W : World} (g : Grow w W) {rb db p : Nat} (hr : Blk W rb 3 (ints x.refs)) (hd : Blk W db 3 (ints x.data)) (hne : rb ≠ db) (h2 : w.heap.size ≤ rb) (h3 : w.heap.size ≤ db)
    {o : Value} (hown : W.ownsRow w.heap.size 45 5 o (L.length + 1) (rfC r d (L.take p) ++ ndC x rb db ++ rfC r d (L.drop p))) (hins : ins L x = L.take p ++ x :: L.drop p) :
    Chg T w (W.setCell ⟨q, 1, none⟩ o) ∧ ∃ T', RG (W.setCell ⟨q, 1, none⟩ o) z T' q cv (ins L x) ∧ ∀ k, T' k → T k ∨ w.heap.size ≤ k := by
  have hq := h.t q h.tq
  have hzw : z ≤ w.heap.size := Nat.le_of_lt (Nat.lt_of_le_of_lt hq.1 hq.2)
  have hgs := g.size
  have cset : Chg (· = q) W (W.setCell ⟨q, 1, none⟩ o) := (Chg.refl _ _).set1 _ _
  have hsz := cset.size
  refine ⟨(g.mono fun _ _ h => h.elim).step cset fun i _ e => by rw [e]; exact h.tq, fun k => T k ∨ (w.heap.size ≤ k ∧ k < (W.setCell ⟨q, 1, none⟩ o).heap.size), ⟨o, fun t => if t = x.id then rb else r t, fun t => if t = x.id then db else d t, fun k => if k < w.heap.size then ow k else if k = rb ∨ k = db then x.id else 0, ?_⟩, fun k hk => by
    rcases hk with h | h
    · exact .inl h
    · exact .inr h.1⟩
  have hdiff := nd_none hn
  have hrl := hr.lt
  have hdl := hd.lt
  have c1 : ∀ M : List Nd, (∀ y ∈ M, y ∈ L) → rfC (fun t => if t = x.id then rb else r t) (fun t => if t = x.id then db else d t) M = rfC r d M := fun M hM => rfC_congr fun y hy => by
    have := hdiff y (hM y hy)
    simp [this]
  refine ⟨?_, ?_, ?_, .inl h.tq, ?_, ?_, ?_⟩
  · exact (h.blk.chg g id).set_ 1 o
  · rw [hins, rfC_app, rfC_cons, c1 _ (fun y hy => List.mem_of_mem_take hy), c1 _ (fun y hy => List.mem_of_mem_drop hy), ← hins, ins_len]
    simp only [if_true]
    rw [← List.append_assoc]
    exact own_chg (ownsRow_base_a hown hzw) cset fun k hk e => by have := (hown.lt k hk).1; omega
  · intro k hk
    have h4 := hown.lt k hk
    have e1 := own_ne hown hr (by decide)
    have e2 := own_ne hown hd (by decide)
    refine ⟨.inr ⟨h4.1, by omega⟩, ?_, by omega⟩
    have e3 : ¬ k < w.heap.size := by omega
    simp only [if_neg e3]
    rw [if_neg]
    rintro (rfl | rfl)
    · exact e1 hk
    · exact e2 hk
  · simp only [if_pos hq.2]
    exact h.oq
  · rintro k (hk | hk)
    · have := h.t k hk
      exact ⟨this.1, by omega⟩
    · exact ⟨by omega, hk.2⟩
  · intro y hy
    have n1 : ¬ rb < w.heap.size := by omega
    have n2 : ¬ db < w.heap.size := by omega
    rcases mem_ins.1 hy with rfl | hy
    · simp only [if_true, if_neg n1, if_neg n2]
      refine ⟨⟨hr.chg cset (by omega), hd.chg cset (by omega)⟩, ⟨.inr ⟨h2, by omega⟩, .inr ⟨h3, by omega⟩⟩, ⟨?_, ?_⟩, hne⟩
      · simp
      · simp
    · have hyx := hdiff y hy
      obtain ⟨⟨b1, b2⟩, ⟨t1, t2⟩, ⟨o1, o2⟩, h6⟩ := h.nds y hy
      have l1 := (h.t _ t1).2
      have l2 := (h.t _ t2).2
      have hy1 := (ho.2 y hy).id1
      simp only [if_neg hyx, if_pos l1, if_pos l2]
      exact ⟨⟨(b1.chg g id).chg cset (fun e => by have e' : r y.id = q := e; rw [e', h.oq] at o1; omega), (b2.chg g id).chg cset (fun e => by have e' : d y.id = q := e; rw [e', h.oq] at o2; omega)⟩, ⟨.inl t1, .inl t2⟩, ⟨o1, o2⟩, h6⟩
/-- Its nodes from one on, up to one. -/
theorem Rf.src_take {g n c : Nat} (h : Rf w z T q cv (.slice (some ⟨g, 0, none⟩) n c) r d ow L) {p c' : Nat} (hp : p ≤ L.length) : Src w (.slice (some ⟨g, 0, none⟩) p c') p (rfC r d (L.take p)) := by
  refine .inr ⟨_, _, rfl, by rw [rfC_len, List.length_take]; congr 1; omega, fun j u hj => ?_, rfC_one _⟩
  have hj5 : j < p * 5 := by have := (List.getElem?_eq_some_iff.1 hj).1; rw [rfC_len, List.length_take] at this; omega
  obtain ⟨a, c2, e⟩ := h.val
  injection e with e1 e2 e3
  subst e2
  rw [addr_add, Nat.zero_add, h.own.cellAt _ (by omega), ← List.take_append_drop p L, rfC_app, List.getElem?_append_left (by rw [rfC_len, List.length_take]; omega)]
  exact hj
theorem Rf.src_drop {g n c : Nat} (h : Rf w z T q cv (.slice (some ⟨g, 0, none⟩) n c) r d ow L) {p c' : Nat} (hp : p ≤ L.length) : Src w (.slice (some ⟨g, p * 5, none⟩) (L.length - p) c') (L.length - p) (rfC r d (L.drop p)) := by
  refine .inr ⟨_, _, rfl, by rw [rfC_len, List.length_drop], fun j u hj => ?_, rfC_one _⟩
  have hj5 : j < (L.length - p) * 5 := by have := (List.getElem?_eq_some_iff.1 hj).1; rw [rfC_len, List.length_drop] at this; omega
  obtain ⟨a, c2, e⟩ := h.val
  injection e with e1 e2 e3
  subst e2
  have hl : (rfC r d (L.take p)).length = p * 5 := by rw [rfC_len, List.length_take]; congr 1; omega
  rw [addr_add, h.own.cellAt _ (by omega)]
  conv => lhs; rw [← List.take_append_drop p L]
  rw [rfC_app, List.getElem?_append_right (by omega), hl, show p * 5 + j - p * 5 = j by omega]
  exact hj
end
end Go.Proofs.Ytjofdamobnemcaa.L9

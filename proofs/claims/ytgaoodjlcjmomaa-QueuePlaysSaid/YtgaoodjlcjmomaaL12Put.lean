/- Sets of queues: Put. Conditions: at most 1000000 things. -/
import Derived.Test.YtgaoodjlcjmomaaL12Call
namespace Go.Proofs.Ytgaoodjlcjmomaa.L12
open Go.ChangeShapes Go.WideShapes Go.ChangeAt Go.RowKit
set_option linter.unusedVariables false

/-- append, by what it comes to. -/
theorem wpList_app {P : Program} {ops : Array Oper} {rest : List Oper} {o : Oper} {a : Act} {Q : Exit → Act → World → Prop} (hgd : o.guard = none) (s x : Operand) (t : TypeId)
    (ho : o.op = .call { callee := .builtin .append, args := #[s, x], argTypes := #[t, t] }) (v1 v2 v' : Value) (w w' : World) (hs : a.eval s = v1) (hx : a.eval x = v2)
    (hr : (Builtin.append_ #[t, t] o.type #[v1, v2]).run P w = .ok v' w') (h : wpList P ops Q rest (a.put o.dst v') w') : wpList P ops Q (o :: rest) a w := by
  refine wpList_plain hgd fun K hK => ?_
  unfold Oper.wp
  simp [execOp, ho, resolve, invoke, builtin, hs, hx, hr, Result.andThen]
  exact hK _ _ h
section
variable {w w' W : World} {z p n m i : Nat} {S T : Nat → Prop} {v : Nat → Value} {Q : Nat → List Int} {E : List Int} {x q : Int}
theorem eql_map (o : Option Nat) (w : World) : (binOp .eql 27 (.map o) (.map none)).run Try.prog w = .ok (.bool o.isNone) w := by
  cases o <;> kernel_rfl
theorem rd_one (w : World) (x : Int) : L1.Rd (w.alloc (.cells #[.int .i64 x] 3)) (some ⟨w.heap.size, 0, none⟩) 1 [x] := by
  have h : Blk (w.alloc (.cells #[.int .i64 x] 3)) w.heap.size 3 (ints [x]) := Blk.new w _ _
  exact L1.Rd.of_blk h rfl
theorem put_out (hq : isQ q = false) (p : Nat) (w : World) :
    Calls Try.prog 11 #[ptr p, .int .i64 q, .int .i64 x] w fun e w' => e = .returned (.tuple #[.bool false, .int .i64 1]) ∧ w = w' := by
  have HQ := hide (isQ_no hq)
  clear hq
  go_enter Try.func11, Try.ntmps11
  go_wp2_with fail
  refine (queue_out p q HQ.out w).mono ?_
  rintro e w1 ⟨rfl, rfl⟩
  go_wp2
  go_returns
  exact ⟨rfl, rfl⟩
set_option maxRecDepth 100000 in
theorem put_was (h : Qs w z p S v Q E) (hi : i < 4) (hx : In64 x) (hm : x ∈ E) :
    Calls Try.prog 11 #[ptr p, .int .i64 ((i : Int) + 1), .int .i64 x] w fun e w' => e = .returned (.tuple #[.bool false, .int .i64 0]) ∧ Grow w w' := by
  have hl := h.ev.look hx
  rw [decide_eq_true hm] at hl
  have h4 := h.cell (show 4 < 5 by omega)
  have HI := hide hi
  generalize v 4 = mv at *
  clear h hi hm
  go_enter Try.func11, Try.ntmps11
  go_wp2_with fail
  refine (queue_in p i HI.out w).mono ?_
  rintro e w1 ⟨rfl, rfl⟩
  go_wp2
  go_returns
  exact ⟨rfl, Grow.box w _⟩
/-- Another thing in the map. -/
theorem Mg.more (h : Mg eU w m n (fun x => if x ∈ E then some () else none)) (hn : n ≤ E.length) (hb : E.length < 1000000) (hx : In64 x) :
    ∃ w', (Instr.mapUpdate 27 (.map (some m)) (.int .i64 x) (.agg #[])).run Try.prog w = .ok () w' ∧ (∃ n', Mg eU w' m n' (fun y => if y ∈ E ++ [x] then some () else none) ∧ n' ≤ E.length + 1) ∧ Chg (· = m) w w' := by
  obtain ⟨w', h1, h2, h3⟩ := h.put eU_ok (by unfold maxLen; omega) hx ()
  refine ⟨w', h1, ⟨if (if x ∈ E then some () else none).isSome = true then n else n + 1, ?_, ?_⟩, h3⟩
  · refine Eq.mp ?_ h2
    congr 1
    funext y
    by_cases e : y = x
    · simp [e]
    · simp [e]
  · by_cases e : x ∈ E
    · rw [if_pos e]; simp; omega
    · rw [if_neg e]; simp; omega
/-- A map for a set that has none. -/
theorem Qs.mkmap (h : Qs w z p S v Q []) : Qs (((w.setCell ⟨p, 4, none⟩ (.map (some (w.heap.size + 1)))).alloc (.cells #[] 62)).alloc (.map #[] 0)) z p (fun k => S k ∨ k = w.heap.size + 1) (upd v 4 (.map (some (w.heap.size + 1)))) Q [] := by
  have c0 : Chg (· = p) w (w.setCell ⟨p, 4, none⟩ (.map (some (w.heap.size + 1)))) := (Chg.refl _ _).set1 _ _
  have c1 : Chg (· = p) w (((w.setCell ⟨p, 4, none⟩ (.map (some (w.heap.size + 1)))).alloc (.cells #[] 62)).alloc (.map #[] 0)) := (c0.alloc _).alloc _
  have hsz : ((w.setCell ⟨p, 4, none⟩ (.map (some (w.heap.size + 1)))).alloc (.cells #[] 62)).heap.size = w.heap.size + 1 := by simp [World.setCell]
  have hv : ∀ j, j < 4 → upd v 4 (.map (some (w.heap.size + 1))) j = v j := fun j hj => upd_ne _ _ (by omega)
  have hp : ∀ j, j < 4 → (v j).ownBlock ≠ some p := fun j hj => (h.ls.ql j hj).ne h.blk (by decide)
  have hM := Mg.made eU ((w.setCell ⟨p, 4, none⟩ (.map (some (w.heap.size + 1)))).alloc (.cells #[] 62))
  rw [hsz] at hM
  refine ⟨?_, ⟨fun j hj => ?_, fun a b ha hb hab => ?_⟩, .inr ⟨w.heap.size + 1, 0, upd_at _ _ _, ?_, Nat.zero_le _⟩, .inl h.sp, fun j hj k hk => ?_, fun m hm => ?_, fun k hk => ?_, fun x hx => (by cases hx), h.inn⟩
  · rw [← five_set v (by omega)]
    exact ((h.blk.set_ 4 _).alloc _).alloc _
  · rw [hv j hj]
    exact (h.ls.ql j hj).chg c1 fun k hk e => hp j hj (by rw [hk, e])
  · rw [hv a ha, hv b hb]
    exact h.ls.ap a b ha hb hab
  · simpa using hM
  · rw [hv j hj] at hk
    exact .inl (h.sq j hj k hk)
  · rw [upd_at] at hm
    injection hm with hm
    injection hm with hm
    exact .inr hm.symm
  · have e : (((w.setCell ⟨p, 4, none⟩ (.map (some (w.heap.size + 1)))).alloc (.cells #[] 62)).alloc (.map #[] 0)).heap.size = w.heap.size + 1 + 1 := by simp [World.setCell]
    rw [e]
    have hz := h.s p h.sp
    rcases hk with hk | rfl
    · have := h.s k hk; omega
    · omega
/-- The rest of Put: the map, the list. -/
theorem Qs.adds (h : Qs w z p S v Q E) (hi : i < 4) (e4 : v 4 = .map (some m)) (hx : In64 x) (hb : E.length < 1000000) (hc : (Q i).length < 1000000) :
    ∃ W2 a n c W4, (Instr.mapUpdate 27 (.map (some m)) (.int .i64 x) (.agg #[])).run Try.prog w = .ok () W2 ∧ W2.cell? ⟨p, i, none⟩ = some (v i) ∧
      (Builtin.append_ #[25, 25] 25 #[v i, .slice (some ⟨W2.heap.size, 0, none⟩) 1 1]).run Try.prog (W2.alloc (.cells #[.int .i64 x] 3)) = .ok (.slice a n c) W4 ∧ (W4.cell? ⟨p, i, none⟩ = some (v i) ∧ W4.frozen? ⟨p, i, none⟩ = false) ∧
      Chg S w (W4.setCell ⟨p, i, none⟩ (.slice a n c)) ∧ ∃ S', QS (W4.setCell ⟨p, i, none⟩ (.slice a n c)) z S' p (upd Q i (Q i ++ [x])) (E ++ [x]) ∧ ∀ k, S' k → S k ∨ w.heap.size ≤ k := by
  rcases h.ev with ⟨e, _⟩ | ⟨m', n, e, hM, hn⟩
  · rw [e4] at e; cases e
  obtain rfl : m = m' := by rw [e4] at e; injection e with e; injection e
  obtain ⟨W2, h1, ⟨n', h2, h3⟩, h4⟩ := hM.more hn hb hx
  have hSm : S m := h.sm m e4
  have hmp : p ≠ m := hM.ne h.blk
  have hQ2 : Qs W2 z p S v Q (E ++ [x]) := by
    obtain ⟨x', y', em⟩ := hM.map_
    refine ⟨h.blk.chg h4 hmp, h.ls.chg h4 fun j hj k hk ek => (h.ls.ql j hj).ne_map em (by rw [hk, ek]), .inr ⟨m, n', e4, h2, by simpa using h3⟩, h.sp, h.sq, h.sm, fun k hk => ⟨(h.s k hk).1, Nat.lt_of_lt_of_le (h.s k hk).2 h4.size⟩, fun y hy => ?_, fun j hj y hy => List.mem_append_left _ (h.inn j hj y hy)⟩
    rcases List.mem_append.1 hy with hy | hy
    · exact h.wf y hy
    · simp at hy; rw [hy]; exact hx
  have hg3 : Grow W2 (W2.alloc (.cells #[.int .i64 x] 3)) := Grow.box _ _
  have hQ3 := hQ2.grow hg3
  have hz := h.s p h.sp
  obtain ⟨u, W4, h5, h6, h7, h8⟩ := (hQ3.ls.ql i hi).app (c := 1) (by have := h4.size; have := hg3.size; omega) (rd_one W2 x) (by simp; omega)
  have hvs := fun k hk => (hQ2.ls.ql i hi).lt k hk
  have hg : Chg (fun k => (v i).ownBlock = some k) (W2.alloc (.cells #[.int .i64 x] 3)) W4 := ⟨h7.os, h7.tape, h7.output, h7.size, fun k hk hne => h7.block k hk fun e => hne e.symm⟩
  have hc24 : Chg (fun k => (v i).ownBlock = some k) W2 W4 := (hg3.mono fun _ _ h => h.elim).trans hg
  have hu : ∀ k, u.ownBlock = some k → (v i).ownBlock = some k ∨ W2.heap.size ≤ k := fun k hk => by
    rcases h8 with e | e
    · rw [e] at hk; exact .inl hk
    · rw [e] at hk; injection hk with hk; right; simp at hk; omega
  have hF := hQ2.put hi h6 hc24 (fun k _ hk => hk) hu (fun y hy => by
    rcases List.mem_append.1 hy with hy | hy
    · exact List.mem_append_left _ (h.inn i hi y hy)
    · exact List.mem_append_right _ hy)
  have hP4 : Blk W4 p 29 (five v) := hQ2.blk.chg hc24 fun hk => (hQ2.ls.ql i hi).ne hQ2.blk (by decide) hk
  obtain ⟨a, c, rfl, -⟩ := h6.form
  refine ⟨W2, a, _, c, W4, h1, hQ2.cell (by omega), h5, ⟨by rw [hP4.cell, five_get v (by omega)], hP4.frozen i⟩, ?_, _, ⟨_, hF⟩, fun k hk => ?_⟩
  · exact ((h4.mono fun k _ hk => by rw [hk]; exact hSm).step hc24 fun k _ hk => h.sq i hi k hk).setCell (p := ⟨p, i, none⟩) (fun _ => h.sp) _
  · rcases hk with hk | hk
    · exact .inl hk
    · rcases hu k hk with hk | hk
      · exact .inl (h.sq i hi k hk)
      · right; have := h4.size; omega
set_option maxRecDepth 100000 in
set_option maxHeartbeats 1000000 in
theorem put_new (h : Qs w z p S v Q E) (hi : i < 4) (hx : In64 x) (hm : x ∉ E) (hb : E.length < 1000000) (hc : (Q i).length < 1000000) :
    Calls Try.prog 11 #[ptr p, .int .i64 ((i : Int) + 1), .int .i64 x] w fun e w' => e = .returned (.tuple #[.bool true, .int .i64 0]) ∧ Chg S w w' ∧ ∃ S', QS w' z S' p (upd Q i (Q i ++ [x])) (E ++ [x]) ∧ ∀ k, S' k → S k ∨ w.heap.size ≤ k := by
  have hl := h.ev.look hx
  rw [decide_eq_false hm] at hl
  have h4 := h.cell (show 4 < 5 by omega)
  have HI := hide hi
  have hz := h.s p h.sp
  have gB : Grow w (w.alloc (.cells #[] 62)) := Grow.box w _
  have hE := h.ev
  have k4 := h.blk.frozen 4
  rcases hE with ⟨e4, rfl⟩ | ⟨m, n, e4, hM, hn⟩
  · rw [e4] at h4 hl
    have hmm := @run_makeMap Try.prog
    have q0 := eql_map none
    have h1 := h.mkmap
    obtain ⟨W2, ua, un, uc, W4, p1, p2, p3, ⟨p7, p4⟩, p5, p6⟩ := h1.adds hi (upd_at _ _ _) hx hb hc
    have c0 : Chg (· = p) w (((w.setCell ⟨p, 4, none⟩ (.map (some (w.heap.size + 1)))).alloc (.cells #[] 62)).alloc (.map #[] 0)) := (((Chg.refl _ _).set1 _ _).alloc _).alloc _
    have hsp := h.sp
    have HF := hide (show Chg S w (W4.setCell ⟨p, i, none⟩ (.slice ua un uc)) from (c0.mono fun k _ hk => by rw [hk]; exact hsp).step p5 fun k hk h => by rcases h with h | h; exact h; omega)
    have HG := hide p6
    have HS := hide c0.size
    rw [upd_ne _ _ (show i ≠ 4 by omega)] at p2 p3 p7
    generalize v i = vi at *
    have KA := hide p3
    clear h h1 p5 p6 hi hm c0 p3 gB hsp
    go_enter Try.func11, Try.ntmps11
    go_wp2_with fail
    refine (queue_in p i HI.out w).mono ?_
    rintro e w1 ⟨rfl, rfl⟩
    go_wp2_with (at_builtin; refine wpList_app rfl _ _ 25 rfl vi (.slice (some ⟨W2.heap.size, 0, none⟩) 1 1) (.slice ua un uc) _ W4 rfl rfl KA.out ?_)
    go_returns
    obtain ⟨S', g1, g2⟩ := HG.out
    refine ⟨rfl, HF.out, S', g1, fun k hk => ?_⟩
    have hs := HS.out
    rcases g2 k hk with (h | h) | h
    · exact .inl h
    · right; omega
    · right; omega
  · rw [e4] at h4 hl
    have q0 := eql_map (some m)
    obtain ⟨W2, ua, un, uc, W4, p1, p2, p3, ⟨p7, p4⟩, p5, p6⟩ := (h.grow gB).adds hi e4 hx hb hc
    have HF := hide (show Chg S w (W4.setCell ⟨p, i, none⟩ (.slice ua un uc)) from (gB.mono fun _ _ h => h.elim).trans p5)
    have HG := hide p6
    have HS := hide gB.size
    generalize v i = vi at *
    have KA := hide p3
    clear h p5 p6 hi hm p3 gB
    go_enter Try.func11, Try.ntmps11
    go_wp2_with fail
    refine (queue_in p i HI.out w).mono ?_
    rintro e w1 ⟨rfl, rfl⟩
    go_wp2_with (at_builtin; refine wpList_app rfl _ _ 25 rfl vi (.slice (some ⟨W2.heap.size, 0, none⟩) 1 1) (.slice ua un uc) _ W4 rfl rfl KA.out ?_)
    go_returns
    obtain ⟨S', g1, g2⟩ := HG.out
    refine ⟨rfl, HF.out, S', g1, fun k hk => ?_⟩
    have hs := HS.out
    rcases g2 k hk with h | h
    · exact .inl h
    · right; omega
/-- Put. -/
theorem put_any (h : QS w z S p Q E) (hx : In64 x) (q : Int) (hb : E.length < 1000000) (hl : ∀ i, i < 4 → (Q i).length < 1000000) :
    Calls Try.prog 11 #[ptr p, .int .i64 q, .int .i64 x] w fun e w' => e = .returned (.tuple #[.bool (puB E q x), .int .i64 (puX q)]) ∧ Chg S w w' ∧ ∃ S', QS w' z S' p (puQ Q E q x) (puE E q x) ∧ ∀ k, S' k → S k ∨ w.heap.size ≤ k := by
  cases hq : isQ q with
  | false =>
    refine (put_out hq p w).mono fun e w' ⟨h1, h2⟩ => ?_
    subst h2
    refine ⟨?_, Chg.refl _ _, S, ?_, fun k hk => .inl hk⟩
    · rw [h1]; simp [puB, puX, hq]
    · simpa [puQ, puE, puB, hq] using h
  | true =>
    obtain ⟨hi, e⟩ := isQ_yes hq
    obtain ⟨v, h⟩ := h
    by_cases hm : x ∈ E
    · have := put_was h hi hx hm
      rw [← e] at this
      refine this.mono fun e w' ⟨h1, h2⟩ => ⟨?_, h2.mono fun _ _ h => h.elim, S, ⟨v, ?_⟩, fun k hk => .inl hk⟩
      · rw [h1]; simp [puB, puX, hq, hm]
      · simpa [puQ, puE, puB, hq, hm] using h.grow h2
    · have := put_new h hi hx hm hb (hl _ hi)
      rw [← e] at this
      refine this.mono fun e w' ⟨h1, h2, S', h3, h4⟩ => ⟨?_, h2, S', ?_, h4⟩
      · rw [h1]; simp [puB, puX, hq, hm]
      · simpa [puQ, puE, puB, hq, hm] using h3
end
end Go.Proofs.Ytgaoodjlcjmomaa.L12

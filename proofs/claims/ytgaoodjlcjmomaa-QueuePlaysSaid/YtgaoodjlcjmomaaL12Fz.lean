/- QueueFifo: what stands between two calls, and what each call makes of it. Conditions: at most 200 calls. -/
import Derived.Test.YtgaoodjlcjmomaaL12Ff
import Derived.Deep.RegionHeld3
import Derived.BigRegion
namespace Go.Proofs.Ytgaoodjlcjmomaa.L12
open Go.ChangeShapes Go.WideShapes Go.ChangeAt Go.RowKit
set_option linter.unusedVariables false
structure Fz (w0 w : World) (z p gi go m i : Nat) (S A B : Nat → Prop) (Q In Out : Nat → List Int) (E Sn : List Int) : Prop where
  q : QS w z S p Q E
  fi : FS w z gi 25 A In
  fo : FS w z go 25 B Out
  mp : ∃ n, Mg eB w m n (goneF Sn) ∧ n ≤ Sn.length
  ff : Ff Q In Out
  es : ∀ x, x ∈ E ↔ x ∈ Sn
  few : Few Q E i
  fin : ∀ k, k < 5 → (In k).length ≤ i
  fout : ∀ k, k < 5 → (Out k).length ≤ i
  sn : Sn.length ≤ i
  ab : Apart A B
  sa : Apart S A
  sb : Apart S B
  sm : ¬ S m ∧ ¬ A m ∧ ¬ B m
  g : Grow w0 w
  zz : w0.heap.size ≤ z ∧ z ≤ m
section
variable {w0 w w3 : World} {z p gi go m i : Nat} {S S' A B : Nat → Prop} {Q In Out : Nat → List Int} {E Sn l : List Int} {X : Nat} {x : Int}
theorem Fz.lt (h : Fz w0 w z p gi go m i S A B Q In Out E Sn) : m < w.heap.size := by
  obtain ⟨n, h1, _⟩ := h.mp
  exact h1.lt
theorem Fz.start {w0 w1 : World} (g : Grow w0 w1) : Fz w0 ((((w1.alloc (.cells setV 29)).alloc (.cells nil5 25)).alloc (.cells nil5 25)).alloc (.map #[] 0)) w1.heap.size w1.heap.size (w1.heap.size + 1) (w1.heap.size + 1 + 1) (w1.heap.size + 1 + 1 + 1) 0 (· = w1.heap.size) (· = w1.heap.size + 1) (· = w1.heap.size + 1 + 1) noQ noQ noQ [] [] := by
  have e1 : (w1.alloc (.cells setV 29)).heap.size = w1.heap.size + 1 := by simp
  have e2 : ((w1.alloc (.cells setV 29)).alloc (.cells nil5 25)).heap.size = w1.heap.size + 1 + 1 := by simp
  have e3 : (((w1.alloc (.cells setV 29)).alloc (.cells nil5 25)).alloc (.cells nil5 25)).heap.size = w1.heap.size + 1 + 1 + 1 := by simp
  have low : ∀ {W : World} {g : Nat} {t : TypeId} {T : Nat → Prop} {R : Nat → List Int}, FS W g g t T R → w1.heap.size ≤ g → FS W w1.heap.size g t T R := fun ⟨v, h⟩ hg => ⟨v, h.blk, ⟨fun i hi => (h.ls.ql i hi).lower hg, h.ls.ap⟩, h.sg, h.sq, fun k hk => ⟨Nat.le_trans hg (h.s k hk).1, (h.s k hk).2⟩⟩
  have q := new_set w1
  have f1 := fs_new (w1.alloc (.cells setV 29)) 25
  have f2 := fs_new ((w1.alloc (.cells setV 29)).alloc (.cells nil5 25)) 25
  have mg := Mg.made eB (((w1.alloc (.cells setV 29)).alloc (.cells nil5 25)).alloc (.cells nil5 25))
  rw [e1] at f1
  rw [e2] at f2
  rw [e3] at mg
  have g1 : ∀ (W : World) (o : Obj), Grow W (W.alloc o) := fun W o => Grow.box W o
  refine ⟨((q.grow (g1 _ _)).grow (g1 _ _)).grow (g1 _ _), low ((f1.grow (g1 _ _)).grow (g1 _ _)) (by omega), low (f2.grow (g1 _ _)) (by omega), ⟨0, mg, Nat.le_refl _⟩, fun k _ => rfl, fun x => Iff.rfl, few_new, fun _ _ => Nat.le_refl _, fun _ _ => Nat.le_refl _, Nat.le_refl _, fun k h1 h2 => by omega, fun k h1 h2 => by omega, fun k h1 h2 => by omega, ⟨by omega, by omega, by omega⟩, (((g.trans (g1 _ _)).trans (g1 _ _)).trans (g1 _ _)).trans (g1 _ _), g.size, by omega⟩
/-- Behind a poll that took x. -/
theorem Fz.pop (h : Fz w0 w z p gi go m i S A B Q In Out E Sn) (hi : i ≤ 200) (hX : X < 4) (hq : Q X = x :: l) (c : Chg S w w3) (hQ : QS w3 z S p (upd Q X l) E) (hf : Few (upd Q X l) E i) :
    ∃ v a n cc W4, w3.cell? ⟨go, X + 1, none⟩ = some v ∧ (Builtin.append_ #[25, 25] 25 #[v, .slice (some ⟨w3.heap.size, 0, none⟩) 1 1]).run Try.prog (w3.alloc (.cells #[.int .i64 x] 3)) = .ok (.slice a n cc) W4 ∧
      (W4.cell? ⟨go, X + 1, none⟩ = some v ∧ W4.frozen? ⟨go, X + 1, none⟩ = false) ∧ ∃ B', Fz w0 (W4.setCell ⟨go, X + 1, none⟩ (.slice a n cc)) z p gi go m (i + 1) S A B' (upd Q X l) In (upd Out (X + 1) (Out (X + 1) ++ [x])) E Sn := by
  obtain ⟨v, hv⟩ := h.fo.chg c h.sb.symm
  obtain ⟨a, cc, W4, h1, h2, h3, h4, h5, B', h6, h7⟩ := hv.adds (by decide) (show X + 1 < 5 by omega) (by have := h.fout (X + 1) (by omega); omega) (Grow.box w3 _) (rd_one w3 x)
  obtain ⟨n, hm, hn⟩ := h.mp
  have hAl : ∀ k, A k → k < w3.heap.size := fun k hk => Nat.lt_of_lt_of_le (h.fi.s hk).2 c.size
  have hm3 := hm.chg c h.sm.1
  refine ⟨v (X + 1), a, _, cc, W4, h1, h2, h3, B', hQ.chg h5 h.sb, (h.fi.chg c h.sa.symm).chg h5 h.ab, h6, ⟨n, hm3.chg h5 h.sm.2.2, hn⟩, ff_poll h.ff hX hq, h.es, hf.mono (Nat.le_succ i), fun k hk => Nat.le_succ_of_le (h.fin k hk), few5 h.fout x, Nat.le_succ_of_le h.sn, (h.ab.symm.more h7 hAl).symm, h.sa, (h.sb.symm.more h7 fun k hk => (hQ.s hk).2).symm, ⟨h.sm.1, h.sm.2.1, fun hb => (h7 m hb).elim h.sm.2.2 fun e => by have := hm3.lt; omega⟩, ?_, h.zz⟩
  exact (h.q.step h.g h.zz.1 c).step h5 fun k hk hb => by have := (hv.s k hb).1; have := h.zz.1; omega
/-- Behind a poll that took nothing. -/
theorem Fz.no (h : Fz w0 w z p gi go m i S A B Q In Out E Sn) (hX : X < 4) (hq : Q X = []) (c : Chg S w w3) (hQ : QS w3 z S p Q E) :
    (∃ a b n cc dd, w3.cell? ⟨gi, X + 1, none⟩ = some (.slice a n cc) ∧ w3.cell? ⟨go, X + 1, none⟩ = some (.slice b n dd)) ∧ Fz w0 w3 z p gi go m (i + 1) S A B Q In Out E Sn := by
  have hfi := h.fi.chg c h.sa.symm
  have hfo := h.fo.chg c h.sb.symm
  obtain ⟨n, hm, hn⟩ := h.mp
  refine ⟨?_, hQ, hfi, hfo, ⟨n, hm.chg c h.sm.1, hn⟩, h.ff, h.es, h.few.mono (Nat.le_succ i), fun k hk => Nat.le_succ_of_le (h.fin k hk), fun k hk => Nat.le_succ_of_le (h.fout k hk), Nat.le_succ_of_le h.sn, h.ab, h.sa, h.sb, h.sm, h.q.step h.g h.zz.1 c, h.zz⟩
  obtain ⟨v, hv⟩ := hfi
  obtain ⟨u, hu⟩ := hfo
  obtain ⟨a, ca, e1, -⟩ := (hv.ls.ql (X + 1) (by omega)).form
  obtain ⟨b, cb, e2, -⟩ := (hu.ls.ql (X + 1) (by omega)).form
  have e3 : In (X + 1) = Out (X + 1) := by rw [h.ff X hX, hq, List.append_nil]
  rw [← e3] at e2
  exact ⟨a, b, _, ca, cb, (hv.cell (by omega)).trans (by rw [e1]), (hu.cell (by omega)).trans (by rw [e2])⟩
/-- Behind a put that was refused. -/
theorem Fz.dup (h : Fz w0 w z p gi go m i S A B Q In Out E Sn) (hi : i ≤ 200) (hx : In64 x) (hE : x ∈ E) (c : Chg S w w3) (hs : ∀ k, S' k → S k ∨ w.heap.size ≤ k) (hQ : QS w3 z S' p Q E) :
    (Instr.lookup 52 (.map (some m)) (.int .i64 x) false).run Try.prog w3 = .ok (.bool true) w3 ∧
      ∃ W2, (Instr.mapUpdate 52 (.map (some m)) (.int .i64 x) (.bool true)).run Try.prog w3 = .ok () W2 ∧ Fz w0 W2 z p gi go m (i + 1) S' A B Q In Out E (Sn ++ [x]) := by
  obtain ⟨n, hm, hn⟩ := h.mp
  have hm3 := hm.chg c h.sm.1
  have hS := (h.es x).1 hE
  have hl := hm3.look eB_ok hx false
  have e : lookV eB false (goneF Sn x) = .bool true := by unfold goneF; rw [if_pos hS]; rfl
  rw [e] at hl
  obtain ⟨W2, h1, h2, h3⟩ := hm3.put eB_ok (show n < maxLen by have := h.sn; unfold maxLen; omega) hx true
  rw [goneF_add] at h2
  have hAl : ∀ k, A k → k < w.heap.size := fun k hk => (h.fi.s hk).2
  have hBl : ∀ k, B k → k < w.heap.size := fun k hk => (h.fo.s hk).2
  have hsm : ¬ S' m := fun hb => (hs m hb).elim h.sm.1 fun e => by have := hm.lt; omega
  refine ⟨hl, W2, h1, hQ.chg h3 (fun k hk e => hsm (by rw [← e]; exact hk)), (h.fi.chg c h.sa.symm).chg h3 (fun k hk e => h.sm.2.1 (by rw [← e]; exact hk)), (h.fo.chg c h.sb.symm).chg h3 (fun k hk e => h.sm.2.2 (by rw [← e]; exact hk)), ⟨_, h2, ?_⟩, h.ff, fun y => ?_, h.few.mono (Nat.le_succ i), fun k hk => Nat.le_succ_of_le (h.fin k hk), fun k hk => Nat.le_succ_of_le (h.fout k hk), ?_, h.ab, h.sa.more hs hAl, h.sb.more hs hBl, ⟨hsm, h.sm.2⟩, ?_, h.zz⟩
  · rw [List.length_append, List.length_singleton]; split <;> omega
  · rw [h.es y, List.mem_append, List.mem_singleton]
    exact ⟨.inl, fun h' => h'.elim id fun e => by rw [e]; exact hS⟩
  · rw [List.length_append, List.length_singleton]; have := h.sn; omega
  · exact (h.q.step h.g h.zz.1 c).step h3 fun k hk e => by have := h.zz; omega
/-- Behind a put that went well. -/
theorem Fz.add (h : Fz w0 w z p gi go m i S A B Q In Out E Sn) (hi : i ≤ 200) (hX : X < 4) (hx : In64 x) (hE : x ∉ E) (c : Chg S w w3) (hs : ∀ k, S' k → S k ∨ w.heap.size ≤ k) (hQ : QS w3 z S' p (upd Q X (Q X ++ [x])) (E ++ [x])) (hf : Few (upd Q X (Q X ++ [x])) (E ++ [x]) (i + 1)) :
    (Instr.lookup 52 (.map (some m)) (.int .i64 x) false).run Try.prog w3 = .ok (.bool false) w3 ∧
      ∃ v a n cc W4, w3.cell? ⟨gi, X + 1, none⟩ = some v ∧ (Builtin.append_ #[25, 25] 25 #[v, .slice (some ⟨w3.heap.size, 0, none⟩) 1 1]).run Try.prog (w3.alloc (.cells #[.int .i64 x] 3)).drew = .ok (.slice a n cc) W4 ∧
      (W4.cell? ⟨gi, X + 1, none⟩ = some v ∧ W4.frozen? ⟨gi, X + 1, none⟩ = false) ∧ (Grow w0 W4 ∧ Grow w0 (W4.setCell ⟨gi, X + 1, none⟩ (.slice a n cc))) ∧
      ∃ W6, (Instr.mapUpdate 52 (.map (some m)) (.int .i64 x) (.bool true)).run Try.prog (W4.setCell ⟨gi, X + 1, none⟩ (.slice a n cc)) = .ok () W6 ∧
        ∃ A', Fz w0 W6 z p gi go m (i + 1) S' A' B (upd Q X (Q X ++ [x])) (upd In (X + 1) (In (X + 1) ++ [x])) Out (E ++ [x]) (Sn ++ [x]) := by
  obtain ⟨n, hm, hn⟩ := h.mp
  have hm3 := hm.chg c h.sm.1
  have hS : x ∉ Sn := fun e => hE ((h.es x).2 e)
  have hl := hm3.look eB_ok hx false
  have e : lookV eB false (goneF Sn x) = .bool false := by unfold goneF; rw [if_neg hS]; rfl
  rw [e] at hl
  obtain ⟨v, hv⟩ := h.fi.chg c h.sa.symm
  obtain ⟨a, cc, W4, h1, h2, h3, h4, h5, A', h6, h7⟩ := hv.adds (W := (w3.alloc (.cells #[.int .i64 x] 3)).drew) (by decide) (show X + 1 < 5 by omega) (by have := h.fin (X + 1) (by omega); omega) (Grow.box w3 _).drew (rd_one w3 x)
  have hm5 := hm3.chg h5 h.sm.2.1
  obtain ⟨W6, k1, k2, k3⟩ := hm5.put eB_ok (show n < maxLen by have := h.sn; unfold maxLen; omega) hx true
  rw [goneF_add] at k2
  have hAl : ∀ k, A k → k < w.heap.size := fun k hk => (h.fi.s hk).2
  have hBl : ∀ k, B k → k < w.heap.size := fun k hk => (h.fo.s hk).2
  have hsm : ¬ S' m := fun hb => (hs m hb).elim h.sm.1 fun e => by have := hm.lt; omega
  have hsA : Apart S' A := h.sa.more hs hAl
  have hsB : Apart S' B := h.sb.more hs hBl
  have ham : ¬ A' m := fun hb => (h7 m hb).elim h.sm.2.1 fun e => by have := hm3.lt; omega
  have hg4 : Grow w0 W4 := (h.q.step h.g h.zz.1 c).step h4 fun k hk hb => by have := (hv.s k hb).1; have := h.zz.1; omega
  have hg5 : Grow w0 (W4.setCell ⟨gi, X + 1, none⟩ (.slice a ((In (X + 1)).length + 1) cc)) := (h.q.step h.g h.zz.1 c).step h5 fun k hk hb => by have := (hv.s k hb).1; have := h.zz.1; omega
  refine ⟨hl, v (X + 1), a, _, cc, W4, h1, h2, h3, ⟨hg4, hg5⟩, W6, k1, A', (hQ.chg h5 hsA).chg k3 (fun k hk e => hsm (by rw [← e]; exact hk)), h6.chg k3 (fun k hk e => ham (by rw [← e]; exact hk)), ((h.fo.chg c h.sb.symm).chg h5 h.ab.symm).chg k3 (fun k hk e => h.sm.2.2 (by rw [← e]; exact hk)), ⟨_, k2, ?_⟩, ff_put h.ff hX, fun y => ?_, hf, few5 h.fin x, fun k hk => Nat.le_succ_of_le (h.fout k hk), ?_, h.ab.more h7 (fun k hk => Nat.lt_of_lt_of_le (hBl k hk) c.size), (hsA.symm.more h7 fun k hk => (hQ.s hk).2).symm, hsB, ⟨hsm, ham, h.sm.2.2⟩, ?_, h.zz⟩
  · rw [List.length_append, List.length_singleton]; split <;> omega
  · rw [List.mem_append, List.mem_append, h.es y]
  · rw [List.length_append, List.length_singleton]; have := h.sn; omega
  · exact hg5.step k3 fun k hk e => by have := h.zz; omega
theorem QL.capacity {v : Value} {xs : List Int} (h : QL w z v xs) : ∃ a c, v = .slice a xs.length c ∧ xs.length ≤ c ∧ L1.Rd w a xs.length xs := by
  obtain ⟨a, c, e, hr⟩ := h.form
  refine ⟨a, c, e, ?_, hr⟩
  rcases h with ⟨h, rfl⟩ | ⟨g, off, cap, cs, h, _, _, h3, _⟩
  · simp
  · rw [e] at h; injection h with _ _ h; omega
/-- The lists of a queue: what went in, what came out. -/
theorem Fz.ends (h : Fz w0 w z p gi go m i S A B Q In Out E Sn) {j : Nat} (hj : j < 4) : ∃ a ca b cb, w.cell? ⟨gi, j + 1, none⟩ = some (.slice a ((Out (j + 1)).length + (Q j).length) ca) ∧ w.cell? ⟨go, j + 1, none⟩ = some (.slice b (Out (j + 1)).length cb) ∧
    (Out (j + 1)).length + (Q j).length ≤ ca ∧ L1.Rd w a (Out (j + 1)).length (Out (j + 1)) ∧ L1.Rd w b (Out (j + 1)).length (Out (j + 1)) := by
  obtain ⟨v, hv⟩ := h.fi
  obtain ⟨u, hu⟩ := h.fo
  obtain ⟨a, ca, e1, h1, r1⟩ := (hv.ls.ql (j + 1) (by omega)).capacity
  obtain ⟨b, cb, e2, h2, r2⟩ := (hu.ls.ql (j + 1) (by omega)).capacity
  have e3 := h.ff j hj
  have e4 : (In (j + 1)).length = (Out (j + 1)).length + (Q j).length := by rw [e3, List.length_append]
  rw [e4] at e1 h1
  refine ⟨a, ca, b, cb, (hv.cell (by omega)).trans (by rw [e1]), (hu.cell (by omega)).trans (by rw [e2]), h1, ⟨rfl, fun hn => ?_⟩, r2⟩
  obtain ⟨x, ex, hx⟩ := r1.2 (by omega)
  refine ⟨x, ex, fun k hk => ?_⟩
  rw [hx k (by omega), e3]
  simp [List.getD_eq_getElem?_getD, List.getElem?_append_left hk]
theorem Fz.grow {w' : World} (h : Fz w0 w z p gi go m i S A B Q In Out E Sn) (c : Grow w w') : Fz w0 w' z p gi go m i S A B Q In Out E Sn := by
  obtain ⟨n, hm, hn⟩ := h.mp
  exact ⟨h.q.grow c, h.fi.grow c, h.fo.grow c, ⟨n, hm.grow c, hn⟩, h.ff, h.es, h.few, h.fin, h.fout, h.sn, h.ab, h.sa, h.sb, h.sm, h.g.trans c, h.zz⟩
end
theorem step_app {P : Program} {ops : Array Oper} {o : Oper} {a : Act} {w : World} {K : Act → World → Prop} {Q : Exit → Act → World → Prop} {E : Prop} (hgd : o.guard = none) (s x : Operand) (t : TypeId)
    (ho : o.op = .call { callee := .builtin .append, args := #[s, x], argTypes := #[t, t] }) (v1 v2 v' : Value) (w' : World) (hs : a.eval s = v1) (hx : a.eval x = v2)
    (hr : (Builtin.append_ #[t, t] o.type #[v1, v2]).run P w = .ok v' w') (h : K (a.put o.dst v') w') : if Region.wanted o (yielded ops a.tmps) = true then Oper.wp P o a w K Q else E := by
  have hw : Region.wanted o (yielded ops a.tmps) = true := by simp [Region.wanted, hgd]
  rw [if_pos hw]
  unfold Oper.wp
  simp [execOp, ho, resolve, invoke, builtin, hs, hx, hr, Result.andThen]
  exact h
end Go.Proofs.Ytgaoodjlcjmomaa.L12

/- Sets of queues: how a law begins: a new set; awake; held. Conditions: none. -/
import Derived.Test.YtgaoodjlcjmomaaL12Re
namespace Go.Proofs.Ytgaoodjlcjmomaa.L12
open Go.ChangeShapes Go.WideShapes Go.ChangeAt Go.RowKit
set_option linter.unusedVariables false

abbrev noQ : Nat → List Int := fun _ => []
abbrev setV : Array Value := #[.slice none 0 0, .slice none 0 0, .slice none 0 0, .slice none 0 0, .map none]
theorem new_set (w : World) : QS (w.alloc (.cells setV 29)) w.heap.size (· = w.heap.size) w.heap.size noQ [] := by
  refine ⟨fun i => if i = 4 then .map none else .slice none 0 0, Blk.new w _ [.slice none 0 0, .slice none 0 0, .slice none 0 0, .slice none 0 0, .map none], ⟨fun i hi => ?_, fun i j hi hj hij k hk => ?_⟩, .inl ⟨rfl, rfl⟩, rfl, fun i hi k hk => ?_, fun m hm => by simp at hm, fun k hk => ?_, fun x hx => (by cases hx), fun i hi x hx => (by cases hx)⟩
  · rw [if_neg (by omega)]
    exact ql_nil _ _
  · rw [if_neg (by omega)] at hk
    cases hk
  · rw [if_neg (by omega)] at hk
    cases hk
  · subst hk
    simp
def hd (n : Int) : Int := max 1 (min n 1000)
theorem hd_bd (n : Int) : 1 ≤ hd n ∧ hd n ≤ 1000 := by unfold hd; omega
theorem in64 {x : Int} (h : -9223372036854775808 ≤ x ∧ x ≤ 9223372036854775807) : In64 x := (show (Lit.int .i64 x).wf = true by simp [Lit.wf, IntKind.min, IntKind.max, IntKind.signed, IntKind.bits]; omega)
theorem hd_in (n : Int) : In64 (hd n) := by
  have := hd_bd n
  exact in64 (by omega)
/-- Not more than N of each. -/
def Few (Q : Nat → List Int) (E : List Int) (N : Nat) : Prop := E.length ≤ N ∧ ∀ i, i < 4 → (Q i).length ≤ N
theorem few_new : Few noQ [] 0 := ⟨Nat.le_refl _, fun _ _ => Nat.le_refl _⟩
theorem few_put {Q : Nat → List Int} {E : List Int} {N : Nat} (h : Few Q E N) (q x : Int) : Few (puQ Q E q x) (puE E q x) (N + 1) := by
  refine ⟨?_, fun i hi => ?_⟩
  · have := h.1
    unfold puE
    split
    · simp; omega
    · omega
  · have := h.2 i hi
    unfold puQ
    split
    · by_cases e : i = pl q
      · rw [e, upd_at, List.length_append, ← e]
        simp; omega
      · rw [upd_ne _ _ e]; omega
    · omega
theorem few_poll {Q : Nat → List Int} {E : List Int} {N : Nat} (h : Few Q E N) (q : Int) : Few (poQ Q q) E N := by
  refine ⟨h.1, fun i hi => ?_⟩
  have := h.2 i hi
  unfold poQ
  split
  · by_cases e : i = pl q
    · rw [e, upd_at, ← e]
      simp; omega
    · rw [upd_ne _ _ e]; omega
  · omega
theorem few_rn {Q : Nat → List Int} {E : List Int} {N : Nat} (h : Few Q E N) (f : Int → Int) : Few (rnQ f Q) (rnE f Q E) N := by
  refine ⟨?_, fun i hi => ?_⟩
  · have := h.1
    unfold rnE
    rw [List.length_map]
    exact Nat.le_trans (List.length_filter_le _ _) this
  · unfold rnQ
    rw [List.length_map]
    exact h.2 i hi
theorem Few.mono {Q : Nat → List Int} {E : List Int} {N M : Nat} (h : Few Q E N) (hm : N ≤ M) : Few Q E M := ⟨Nat.le_trans h.1 hm, fun i hi => Nat.le_trans (h.2 i hi) hm⟩
theorem Few.b {Q : Nat → List Int} {E : List Int} {N : Nat} (h : Few Q E N) (hm : N < 1000000) : E.length < 1000000 ∧ ∀ i, i < 4 → (Q i).length < 1000000 := ⟨by have := h.1; omega, fun i hi => by have := h.2 i hi; omega⟩
theorem QS.step {w0 w w' : World} {z p : Nat} {S : Nat → Prop} {Q : Nat → List Int} {E : List Int} (h : QS w z S p Q E) (g : Grow w0 w) (hz : w0.heap.size ≤ z) (c : Chg S w w') : Grow w0 w' :=
  g.step c fun i hi e => by have := (h.s e).1; omega
section
variable {w : World}
theorem held_any (n : Int) (w : World) : Calls Try.prog 12 #[.int .i64 n] w fun e w' => e = .returned (.int .i64 (hd n)) ∧ w = w' := by
  go_enter Try.func12, Try.ntmps12
  go_wp2
  go_ret
  exact ⟨rfl, rfl⟩
set_option maxRecDepth 100000 in
set_option maxHeartbeats 1000000 in
theorem awake_any (w : World) : Calls Try.prog 10 #[] w fun e w' => e = .returned (.bool true) ∧ Grow w w' := by
  have H0 := hide (new_set w)
  have G0 := hide (Grow.box w (.cells setV 29))
  go_enter Try.func10, Try.ntmps10
  go_wp2_with fail
  refine (put_any H0.out (x := 7) rfl 1 (few_new.b (by omega)).1 (few_new.b (by omega)).2).mono ?_
  rintro e w1 ⟨rfl, c1, S1, h1, s1⟩
  have H1 := hide h1
  have G1 := hide (show Grow w w1 from G0.out.step c1 fun i hi e => by omega)
  have S1' := hide (show ∀ k, S1 k → w.heap.size ≤ k from fun k hk => by have := (h1.s hk).1; omega)
  have F1 := few_put few_new 1 7
  clear h1 c1 s1 G0
  go_wp2_with fail
  refine (put_any H1.out (x := 7) rfl 2 (F1.b (by omega)).1 (F1.b (by omega)).2).mono ?_
  rintro e w2 ⟨rfl, c2, S2, h2, s2⟩
  have H2 := hide h2
  have G2 := hide (show Grow w w2 from G1.out.step c2 fun i hi e => by have := S1'.out i e; omega)
  have S2' := hide (show ∀ k, S2 k → w.heap.size ≤ k from fun k hk => by have := (h2.s hk).1; omega)
  have F2 := few_put F1 2 7
  clear h2 c2 s2 G1 S1' H1 F1
  go_wp2_with fail
  refine (poll_any H2.out 1 (F2.b (by omega)).2).mono ?_
  rintro e w3 ⟨rfl, c3, h3⟩
  have H3 := hide h3
  have G3 := hide (show Grow w w3 from G2.out.step c3 fun i hi e => by have := S2'.out i e; omega)
  have e1 : poV (puQ (puQ noQ [] 1 7) (puE [] 1 7) 2 7) 1 = 7 := by rfl
  have e2 : poX (puQ (puQ noQ [] 1 7) (puE [] 1 7) 2 7) 1 = 0 := by rfl
  have e3 : puB [] 1 7 = true := by rfl
  have e4 : puB (puE [] 1 7) 2 7 = false := by rfl
  rw [e1, e2, e3, e4]
  have HL := hide (show Calls Try.prog 21 #[ptr w.heap.size, .int .i64 1] w3 fun e w' => e = .returned (.int .i64 0) ∧ w3 = w' from len_any H3.out 1)
  clear h3 c3 H0 H2 G2 S2' F2 e1 e2 e3 e4 H3
  go_wp2_with fail
  refine HL.out.mono ?_
  rintro e w4 ⟨rfl, rfl⟩
  go_wp2
  go_ret
  exact ⟨rfl, G3.out⟩
end
end Go.Proofs.Ytgaoodjlcjmomaa.L12

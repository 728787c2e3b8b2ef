/- What Len and Of of a table answer; they change nothing but make new memory. Conditions: the table has fewer than 64 classes. -/
import Derived.Test.YtjofdamobnemcaaL5Tb
namespace Go.Proofs.Ytjofdamobnemcaa.L5
open Go.ChangeShapes Go.WideShapes Go.ChangeAt Go.RowKit
set_option linter.unusedVariables false

section
variable {w w' : World} {base : Nat} {p : Option Addr} {v : Value} {cs : List Cl}
theorem Tb.grow (h : Tb w base p v cs) (c : Grow w w') : Tb w' base p v cs := by
  obtain ⟨h1, h2⟩ := h
  refine ⟨own_grow h1 c, ?_⟩
  rcases h2 with h2 | ⟨g, e, hb, hg⟩
  · exact .inl h2
  · exact .inr ⟨g, e, hb, hg.chg c id⟩
/-- Blocks below the table's own are no matter. -/
theorem Tb.chg {S : Nat → Prop} (h : Tb w base p v cs) (c : Chg S w w') (hs : ∀ i, S i → i < base) : Tb w' base p v cs := by
  obtain ⟨h1, h2⟩ := h
  refine ⟨own_chg h1 c (fun k hk hS => ?_), ?_⟩
  · have := (h1.lt k hk).1
    have := hs k hS
    omega
  · rcases h2 with h2 | ⟨g, e, hb, hg⟩
    · exact .inl h2
    · exact .inr ⟨g, e, hb, hg.chg c (fun hS => by have := hs g hS; omega)⟩
theorem Tb.nil (w : World) (base : Nat) : Tb w base none (.slice none 0 0) [] := ⟨World.ownsRow_nil _ _ _ _, .inl ⟨rfl, rfl⟩⟩
theorem own_two {w : World} {base size n cap : Nat} {e : TypeId} {a : Option Addr} {xs : List Value} (h : w.ownsRow base e size (.slice a n cap) n xs) (hn : 0 < n) : ∃ g, a = some ⟨g, 0, none⟩ ∧ g < w.heap.size ∧ n ≤ cap ∧ cap ≤ maxLen := by
  obtain ⟨g, c, hv, _, h1, h2, h3⟩ := own_form h hn
  injection hv with e1 e2 e3
  subst e3
  exact ⟨g, e1, h1, h2, h3⟩
theorem Tb.at_ {xa : Option Addr} {xc : Nat} (h : Tb w base p (.slice xa cs.length xc) cs) {k : Nat} {c : Cl} (hc : cs[k]? = some c) : ∃ g, xa = some ⟨g, 0, none⟩ ∧ At w g (k * 4) c := by
  have hk : k < cs.length := (List.getElem?_eq_some_iff.1 hc).1
  obtain ⟨g, rfl, _⟩ := own_two h.1 (by omega)
  refine ⟨g, rfl, ?_⟩
  have a0 := clCells_at cs k 0 c hc (by decide)
  have a1 := clCells_at cs k 1 c hc (by decide)
  have a2 := clCells_at cs k 2 c hc (by decide)
  have a3 := clCells_at cs k 3 c hc (by decide)
  refine ⟨?_, ?_, ?_, ?_⟩
  · rw [h.1.cellAt _ (by omega)]; exact a0
  · rw [h.1.cellAt _ (by omega)]; exact a1
  · rw [h.1.cellAt _ (by omega)]; exact a2
  · rw [h.1.cellAt _ (by omega)]; exact a3

set_option maxHeartbeats 400000 in
theorem all_any (h : Tb w base p v cs) :
    Calls Try.prog 48 #[.pointer p] w fun e w' => e = .returned v ∧ w = w' := by
  obtain ⟨xa, xc, rfl⟩ := own_len h.1
  obtain ⟨h1, ⟨rfl, h2⟩ | ⟨g, rfl, hb, hg⟩⟩ := h
  · rw [h2]
    clear h1 h2
    go_enter Try.func48, Try.ntmps48
    go_wp2
    go_ret
    exact ⟨rfl, rfl⟩
  · have g0 : w.cell? ⟨g, 0, none⟩ = some (.slice xa cs.length xc) := hg.cell 0
    clear h1 hg
    go_enter Try.func48, Try.ntmps48
    go_wp2
    go_ret
    exact ⟨rfl, rfl⟩
set_option maxHeartbeats 400000 in
theorem len_any (h : Tb w base p v cs) :
    Calls Try.prog 47 #[.pointer p] w fun e w' => e = .returned (.int .i64 cs.length) ∧ w = w' := by
  obtain ⟨xa, xc, rfl⟩ := own_len h.1
  have H := hide h
  clear h
  go_enter Try.func47, Try.ntmps47
  go_wp2_with (go_at_call 48; refine (all_any H.out).mono ?_; rintro e w' ⟨rfl, rfl⟩)
  go_ret
  exact ⟨rfl, rfl⟩
end

set_option maxHeartbeats 1000000 in
theorem of_out {w : World} {base : Nat} {p : Option Addr} {v : Value} {cs : List Cl} {n : Int} (h : Tb w base p v cs) (hn : n < 1 ∨ (cs.length : Int) < n) :
    Calls Try.prog 32 #[.pointer p, .int .i64 n] w fun e w' => e = .returned (.tuple #[clV 0 0 0 false, .int .i64 4]) ∧ Grow w w' := by
  by_cases h1 : n < 1
  · clear hn
    have HT := hide (h.grow (Grow.box w (.cells [.int .i64 0, .int .i64 0, .int .i64 0, .bool false].toArray 54)))
    clear h
    go_enter Try.func32, Try.ntmps32
    go_wp2_with (first | (go_at_call 47; refine (len_any HT.out).mono ?_; rintro e w' ⟨rfl, rfl⟩) | (go_at_call 48; refine (all_any HT.out).mono ?_; rintro e w' ⟨rfl, rfl⟩))
    refine bodyPost_ret (v := .tuple #[clV 0 0 0 false, .int .i64 4]) (by simp [results, Try.results32, go_sem]) rfl ?_
    exact ⟨rfl, Grow.box _ _⟩
  · have h1' : decide (n < 1) = false := by simpa using h1
    have h2 : (cs.length : Int) < n := by omega
    have h2' : decide ((cs.length : Int) < n) = true := by simpa using h2
    clear hn h2 h1
    have HT := hide (h.grow (Grow.box w (.cells [.int .i64 0, .int .i64 0, .int .i64 0, .bool false].toArray 54)))
    clear h
    go_enter Try.func32, Try.ntmps32
    go_wp2_with (first | (go_at_call 47; refine (len_any HT.out).mono ?_; rintro e w' ⟨rfl, rfl⟩) | (go_at_call 48; refine (all_any HT.out).mono ?_; rintro e w' ⟨rfl, rfl⟩))
    refine bodyPost_ret (v := .tuple #[clV 0 0 0 false, .int .i64 4]) (by simp [results, Try.results32, go_sem]) rfl ?_
    exact ⟨rfl, Grow.box _ _⟩
set_option maxHeartbeats 1000000 in
theorem of_in {w : World} {base : Nat} {p : Option Addr} {v : Value} {cs : List Cl} {n : Int} {k : Nat} {c : Cl} (h : Tb w base p v cs) (hl : cs.length ≤ 100) (hc : cs[k]? = some c) (hn : n = k + 1) :
    Calls Try.prog 32 #[.pointer p, .int .i64 n] w fun e w' => e = .returned (.tuple #[c.v, .int .i64 0]) ∧ Grow w w' := by
  subst hn
  have hk : k < cs.length := (List.getElem?_eq_some_iff.1 hc).1
  have h1' : decide ((k : Int) + 1 < 1) = false := by simp; omega
  have h2' : decide ((cs.length : Int) < (k : Int) + 1) = false := by simp; omega
  obtain ⟨xa, xc, rfl⟩ := own_len h.1
  obtain ⟨g, rfl, a0⟩ := h.at_ hc
  obtain ⟨e0, e1, e2, e3⟩ := a0.chg (Grow.box w (.cells [.int .i64 0, .int .i64 0, .int .i64 0, .bool false].toArray 54)) id
  clear a0 hc
  obtain ⟨K, R, D, f⟩ := c
  dsimp only at e0 e1 e2 e3
  have HT := hide (h.grow (Grow.box w (.cells [.int .i64 0, .int .i64 0, .int .i64 0, .bool false].toArray 54)))
  clear h
  go_enter Try.func32, Try.ntmps32
  go_wp2_with (first | (go_at_call 47; refine (len_any HT.out).mono ?_; rintro e w' ⟨rfl, rfl⟩) | (go_at_call 48; refine (all_any HT.out).mono ?_; rintro e w' ⟨rfl, rfl⟩))
  refine bodyPost_ret (v := .tuple #[clV K R D f, .int .i64 0]) (by simp [results, Try.results32, go_sem]) rfl ?_
  exact ⟨rfl, Grow.box _ _⟩
end Go.Proofs.Ytjofdamobnemcaa.L5

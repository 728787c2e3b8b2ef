/- Graphs: all calls, in short forms. Conditions: the numbers fit an int; a graph has fewer than 1000000 nodes. -/
import Derived.Test.YtjofdamobnemcaaL9Add
import Derived.Test.YtjofdamobnemcaaL9Ids
import Derived.Test.YtjofdamobnemcaaL9Words
import Derived.Test.YtjofdamobnemcaaL9Node
import Derived.Test.YtjofdamobnemcaaL9Aim
import Derived.Test.YtjofdamobnemcaaL9Holds
import Derived.Test.YtjofdamobnemcaaL9Keep
namespace Go.Proofs.Ytjofdamobnemcaa.L9
open Go.ChangeShapes Go.WideShapes Go.ChangeAt Go.RowKit
open Go.Proofs.Ytjofdamobnemcaa.L5 (Cl clV rtB Tb clAt shX shR shD woV hoB IsCls newX isRf)
set_option linter.unusedVariables false

/-- A graph at block p: its blocks are S, all behind z. -/
def GS (w : World) (z : Nat) (S : Nat → Prop) (p : Nat) (cs : List Cl) (L : List Nd) : Prop := ∃ m tb f ow, Gr w z S p m tb f ow cs L
section
variable {w w' : World} {z p : Nat} {S T : Nat → Prop} {cs : List Cl} {L : List Nd} {x : Nd} {i : Int}
theorem GS.chg (h : GS w z S p cs L) (c : Chg T w w') (hT : ∀ k, T k → z ≤ k) (hs : ∀ k, S k → ¬ T k) : GS w' z S p cs L := by
  obtain ⟨m, tb, f, ow, h⟩ := h
  exact ⟨m, tb, f, ow, h.chg c hT hs⟩
theorem GS.grow (h : GS w z S p cs L) (c : Grow w w') : GS w' z S p cs L := h.chg c (fun _ h => h.elim) fun _ _ h => h
theorem GS.s (h : GS w z S p cs L) {k : Nat} (hk : S k) : z ≤ k ∧ k < w.heap.size := by
  obtain ⟨m, tb, f, ow, h⟩ := h
  exact h.s k hk
theorem GS.srt (h : GS w z S p cs L) : Srt L := by
  obtain ⟨m, tb, f, ow, h⟩ := h
  exact h.srt
theorem GS.ok (h : GS w z S p cs L) {x : Nd} (hx : x ∈ L) : x.Ok cs := by
  obtain ⟨m, tb, f, ow, h⟩ := h
  exact h.ok x hx
theorem new_gs {base tb : Nat} {v : Value} (ht : Tb w base (some ⟨tb, 0, none⟩) v cs) (hz : tb < z ∧ ∀ k, v.ownBlock = some k → k < z) (hzw : z ≤ w.heap.size) (hl : cs.length ≤ 100) (hr : cs.all L5.Cl.rt = true) :
    Calls Try.prog 16 #[ptr tb] w fun e w' => ∃ p S, e = .returned (ptr p) ∧ Grow w w' ∧ GS w' z S p cs [] ∧ ∀ k, S k → w.heap.size ≤ k :=
  (new_g ht hz hzw hl hr).mono fun e w' ⟨h1, h2, h3⟩ => ⟨_, _, h1, h2, ⟨_, _, _, _, h3⟩, fun k hk => by omega⟩
theorem add_gs (h : GS w z S p cs L) (hl : L.length < 1000000) (hi : In64 i) (c l : Int) :
    Calls Try.prog 17 #[ptr p, .int .i64 i, .int .i64 c, .int .i64 l] w fun e w' => e = .returned (.int .i64 (adX cs L i c l)) ∧ Chg S w w' ∧ ∃ S', GS w' z S' p cs (adL cs L i c l) ∧ ∀ k, S' k → S k ∨ w.heap.size ≤ k := by
  obtain ⟨m, tb, f, ow, h⟩ := h
  by_cases hX : adX cs L i c l = 0
  · refine (add_yes h hi hX hl).mono fun e w' ⟨h1, h2, S', f', ow', h3, h4⟩ => ⟨by rw [h1, hX], h2, S', ⟨m, tb, f', ow', ?_⟩, fun k hk => ?_⟩
    · unfold adL
      rw [if_pos hX]
      exact h3
    · rcases (h4 k).1 hk with h | h
      · exact .inl h
      · exact .inr h.1
  · refine (add_no h hi rfl hX).mono fun e w' ⟨h1, h2⟩ => ⟨h1, h2.mono fun _ _ h => h.elim, S, ⟨m, tb, f, ow, ?_⟩, fun k hk => .inl hk⟩
    unfold adL
    rw [if_neg hX]
    exact h.grow h2
theorem setref_gs (h : GS w z S p cs L) {k t : Int} (hi : In64 i) (hk : In64 k) (ht : In64 t) :
    Calls Try.prog 19 #[ptr p, .int .i64 i, .int .i64 k, .int .i64 t] w fun e w' => e = .returned (.int .i64 (srX L i k t)) ∧ Chg S w w' ∧ GS w' z S p cs (srL L i k t) := by
  obtain ⟨m, tb, f, ow, h⟩ := h
  exact (setref_any h hi hk ht).mono fun e w' ⟨h1, h2, h3⟩ => ⟨h1, h3, _, _, _, _, h2⟩
theorem node_no (h : GS w z S p cs L) (hi : In64 i) (hn : nd L i = none) :
    Calls Try.prog 40 #[ptr p, .int .i64 i] w fun e w' => e = .returned (.tuple #[.agg #[.int .i64 0, .int .i64 0, .slice none 0 0, .slice none 0 0, .bool false], .int .i64 7]) ∧ Grow w w' := by
  obtain ⟨m, tb, f, ow, h⟩ := h
  exact node_none h hi hn
/-- A node that is told: its lists are new, and apart. -/
def Told (w : World) (base : Nat) (x : Nd) (ar : Option Addr) (cr : Nat) (ad : Option Addr) (cd : Nat) : Prop :=
  w.ownsRow base 3 1 (.slice ar x.refs.length cr) x.refs.length (ints x.refs) ∧ w.ownsRow base 3 1 (.slice ad x.data.length cd) x.data.length (ints x.data) ∧
    ∀ k, (Value.slice ar x.refs.length cr).ownBlock = some k → (Value.slice ad x.data.length cd).ownBlock ≠ some k
abbrev ndV (x : Nd) (ar : Option Addr) (cr : Nat) (ad : Option Addr) (cd : Nat) : Value := .agg #[.int .i64 x.id, .int .i64 x.c, .slice ar x.refs.length cr, .slice ad x.data.length cd, .bool x.fin]
theorem node_yes (h : GS w z S p cs L) (hi : In64 i) (hn : nd L i = some x) :
    Calls Try.prog 40 #[ptr p, .int .i64 i] w fun e w' => ∃ ar cr ad cd, e = .returned (.tuple #[ndV x ar cr ad cd, .int .i64 0]) ∧ Told w' w.heap.size x ar cr ad cd ∧ Grow w w' := by
  obtain ⟨m, tb, f, ow, h⟩ := h
  exact (node_some h hi hn).mono fun e w' ⟨ar, cr, ad, cd, h1, h2, h3, h4, h5⟩ => ⟨ar, cr, ad, cd, h1, ⟨h2, h3, h4⟩, h5⟩
theorem aim_gs (h : GS w z S p cs L) (hi : In64 i) :
    Calls Try.prog 42 #[ptr p, .int .i64 i] w fun e w' => e = .returned (.tuple #[.int .i64 (aimX cs L i).1, .int .i64 (aimX cs L i).2]) ∧ Grow w w' := by
  obtain ⟨m, tb, f, ow, h⟩ := h
  exact aim_any h hi
theorem holds_gs (h : GS w z S p cs L) (hi : In64 i) :
    Calls Try.prog 41 #[ptr p, .int .i64 i] w fun e w' => ∃ a cap, e = .returned (.slice a (hldX cs L i).length cap) ∧ w'.ownsRow w.heap.size 3 1 (.slice a (hldX cs L i).length cap) (hldX cs L i).length (ints (hldX cs L i)) ∧ Grow w w' := by
  obtain ⟨m, tb, f, ow, h⟩ := h
  exact holds_g h hi
theorem ids_gs (h : GS w z S p cs L) (hl : L.length < 1000000) :
    Calls Try.prog 69 #[ptr p] w fun e w' => ∃ a cap, e = .returned (.slice a L.length cap) ∧ w'.ownsRow w.heap.size 3 1 (.slice a L.length cap) L.length (ints (L.map Nd.id)) ∧ Grow w w' := by
  obtain ⟨m, tb, f, ow, h⟩ := h
  exact (ids_any h hl).mono fun e w' ⟨v, h1, h2, h3⟩ => by
    obtain ⟨a, cap, rfl⟩ := own_len h2
    exact ⟨a, cap, h1, h2, h3⟩
theorem adL_len (cs : List Cl) (L : List Nd) (i c l : Int) : (adL cs L i c l).length ≤ L.length + 1 := by
  unfold adL
  split
  · rw [ins_len]; omega
  · omega
theorem updN_len (L : List Nd) (i : Int) (g : Nd → Nd) : (updN L i g).length = L.length := by simp [updN]
theorem srL_len (L : List Nd) (i k t : Int) : (srL L i k t).length = L.length := by
  unfold srL
  split
  · exact updN_len _ _ _
  · rfl
theorem snL_len (L : List Nd) (i k t : Int) : (snL L i k t).length = L.length := by
  unfold snL
  split
  · exact updN_len _ _ _
  · rfl
theorem dnL_len (L : List Nd) (i : Int) : (dnL L i).length = L.length := by
  unfold dnL
  split
  · exact updN_len _ _ _
  · rfl
end
end Go.Proofs.Ytjofdamobnemcaa.L9

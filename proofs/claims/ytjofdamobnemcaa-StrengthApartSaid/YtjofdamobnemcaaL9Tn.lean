/- A node that is told, in a box of the caller's: reading it, writing into its lists. Conditions: none. -/
import Derived.Test.YtjofdamobnemcaaL9Same
namespace Go.Proofs.Ytjofdamobnemcaa.L9
open Go.ChangeShapes Go.WideShapes Go.ChangeAt Go.RowKit
open Go.Proofs.Ytjofdamobnemcaa.L5 (Cl)
set_option linter.unusedVariables false

abbrev tnC (i c : Int) (f : Bool) (n m : Nat) (a : Option Addr) (ca : Nat) (b : Option Addr) (cb : Nat) : List Value := [.int .i64 i, .int .i64 c, .slice a n ca, .slice b m cb, .bool f]
/-- In box t: a node with lists rs, ds of its own; all of it lies in [lo, hi). -/
structure Tn (W : World) (t : Nat) (i c : Int) (f : Bool) (n m : Nat) (a : Option Addr) (ca : Nat) (b : Option Addr) (cb : Nat) (rs ds : List Int) (lo hi : Nat) : Prop where
  blk : Blk W t 45 (tnC i c f n m a ca b cb)
  r : W.ownsRow lo 3 1 (.slice a n ca) n (ints rs)
  d : W.ownsRow lo 3 1 (.slice b m cb) m (ints ds)
  ap : ∀ k, (Value.slice a n ca).ownBlock = some k → (Value.slice b m cb).ownBlock ≠ some k
  tl : lo ≤ t ∧ t < hi
  rl : ∀ k, (Value.slice a n ca).ownBlock = some k → k < t
  dl : ∀ k, (Value.slice b m cb).ownBlock = some k → k < t
section
variable {W W' : World} {t : Nat} {i c : Int} {f : Bool} {n m : Nat} {a : Option Addr} {ca : Nat} {b : Option Addr} {cb : Nat} {rs ds : List Int} {lo hi k : Nat} {S : Nat → Prop}
theorem Tn.chg (h : Tn W t i c f n m a ca b cb rs ds lo hi) (g : Chg S W W') (hs : ∀ k, lo ≤ k → k < hi → ¬ S k) : Tn W' t i c f n m a ca b cb rs ds lo hi :=
  ⟨h.blk.chg g (hs t h.tl.1 h.tl.2), own_chg h.r g (fun k hk => hs k (h.r.lt k hk).1 (Nat.lt_trans (h.rl k hk) h.tl.2)), own_chg h.d g (fun k hk => hs k (h.d.lt k hk).1 (Nat.lt_trans (h.dl k hk) h.tl.2)), h.ap, h.tl, h.rl, h.dl⟩
theorem Tn.grow (h : Tn W t i c f n m a ca b cb rs ds lo hi) (g : Grow W W') : Tn W' t i c f n m a ca b cb rs ds lo hi := h.chg g fun _ _ _ => id
theorem Tn.rdR (h : Tn W t i c f n m a ca b cb rs ds lo hi) : L1.Rd W a n rs := own_rd h.r
theorem Tn.rdD (h : Tn W t i c f n m a ca b cb rs ds lo hi) : L1.Rd W b m ds := own_rd h.d
theorem own_at {base : Nat} {xs : List Int} (h : W.ownsRow base 3 1 (.slice a n ca) n (ints xs)) (hk : k < n) : ∃ g, a = some ⟨g, 0, none⟩ ∧ base ≤ g ∧ g < W.heap.size ∧ (Value.slice a n ca).ownBlock = some g ∧ W.cell? ⟨g, k, none⟩ = some (.int .i64 (xs.getD k 0)) := by
  have hl : xs.length = n := by have := h.1; rw [ints_length] at this; omega
  obtain ⟨g, cap, e, h1, h2, _, _, hc⟩ := own_ints h (by omega)
  injection e with e1 e2 e3
  subst e1
  exact ⟨g, rfl, h1, h2, rfl, hc k hk⟩
theorem Tn.setR (h : Tn W t i c f n m a ca b cb rs ds lo hi) (hk : k < n) (v : Int) : ∃ g, a = some ⟨g, 0, none⟩ ∧ lo ≤ g ∧ g < hi ∧ W.cell? ⟨g, k, none⟩ = some (.int .i64 (rs.getD k 0)) ∧ W.frozen? ⟨g, k, none⟩ = false ∧
    Tn (W.setCell ⟨g, k, none⟩ (.int .i64 v)) t i c f n m a ca b cb (rs.set k v) ds lo hi := by
  obtain ⟨g, rfl, h1, h2, h3, h4⟩ := own_at h.r hk
  have hgt := h.rl g h3
  refine ⟨g, rfl, h1, Nat.lt_trans hgt h.tl.2, h4, h.r.frozenAt k, h.blk.far (by show t ≠ g; omega) _, ?_, own_chg h.d ((Chg.refl _ _).set1 (g := g) k _) (fun j hj e => by subst e; exact h.ap _ h3 hj), h.ap, h.tl, h.rl, h.dl⟩
  rw [← ints_set]
  exact (h.r.stored k (.int .i64 v)).1
theorem Tn.setD (h : Tn W t i c f n m a ca b cb rs ds lo hi) (hk : k < m) (v : Int) : ∃ g, b = some ⟨g, 0, none⟩ ∧ lo ≤ g ∧ g < hi ∧ W.cell? ⟨g, k, none⟩ = some (.int .i64 (ds.getD k 0)) ∧ W.frozen? ⟨g, k, none⟩ = false ∧
    Tn (W.setCell ⟨g, k, none⟩ (.int .i64 v)) t i c f n m a ca b cb rs (ds.set k v) lo hi := by
  obtain ⟨g, rfl, h1, h2, h3, h4⟩ := own_at h.d hk
  have hgt := h.dl g h3
  refine ⟨g, rfl, h1, Nat.lt_trans hgt h.tl.2, h4, h.d.frozenAt k, h.blk.far (by show t ≠ g; omega) _, own_chg h.r ((Chg.refl _ _).set1 (g := g) k _) (fun j hj e => by subst e; exact h.ap _ hj h3), ?_, h.ap, h.tl, h.rl, h.dl⟩
  rw [← ints_set]
  exact (h.d.stored k (.int .i64 v)).1
theorem Tn.cells (h : Tn W t i c f n m a ca b cb rs ds lo hi) : W.cell? ⟨t, 0, none⟩ = some (.int .i64 i) ∧ W.cell? ⟨t, 1, none⟩ = some (.int .i64 c) ∧ W.cell? ⟨t, 2, none⟩ = some (.slice a n ca) ∧ W.cell? ⟨t, 3, none⟩ = some (.slice b m cb) ∧ W.cell? ⟨t, 4, none⟩ = some (.bool f) :=
  ⟨h.blk.cell 0, h.blk.cell 1, h.blk.cell 2, h.blk.cell 3, h.blk.cell 4⟩
variable {w : World} {z p : Nat} {cs : List Cl} {L : List Nd} {x : Nd} {j : Int}
/-- Node, and the box behind it. -/
theorem node_tn (h : GS w z S p cs L) (hi : In64 j) (hn : nd L j = some ⟨i, c, rs, ds, f⟩) (h1 : rs.length = n) (h2 : ds.length = m) :
    Calls Try.prog 40 #[ptr p, .int .i64 j] w fun e w' => ∃ a ca b cb, e = .returned (.tuple #[.agg #[.int .i64 i, .int .i64 c, .slice a n ca, .slice b m cb, .bool f], .int .i64 0]) ∧ Grow w w' ∧
      Tn (w'.alloc (.cells #[.int .i64 i, .int .i64 c, .slice a n ca, .slice b m cb, .bool f] 45)) w'.heap.size i c f n m a ca b cb rs ds w.heap.size (w'.heap.size + 1) := by
  subst h1 h2
  refine (node_yes h hi hn).mono ?_
  rintro e w' ⟨a, ca, b, cb, rfl, ⟨t1, t2, t3⟩, c'⟩
  have hg := Grow.box w' (.cells (tnC i c f rs.length ds.length a ca b cb).toArray 45)
  refine ⟨a, ca, b, cb, rfl, c', Blk.new w' _ (tnC i c f _ _ a ca b cb), own_grow t1 hg, own_grow t2 hg, t3, ⟨c'.size, by omega⟩, fun k hk => (t1.lt k hk).2, fun k hk => (t2.lt k hk).2⟩
end
end Go.Proofs.Ytjofdamobnemcaa.L9

/- The graph and the plain one, both at once; 'same' answers true. Conditions: fewer than 1000000 nodes and classes; the classes can be. -/
import Derived.Test.YtjofdamobnemcaaL9RefA
import Derived.Test.YtjofdamobnemcaaL9RefH
import Derived.Test.YtjofdamobnemcaaL9RefK
namespace Go.Proofs.Ytjofdamobnemcaa.L9
open Go.ChangeShapes Go.WideShapes Go.ChangeAt Go.RowKit
open Go.Proofs.Ytjofdamobnemcaa.L5 (Cl clAt IsCls newX isRf)
set_option linter.unusedVariables false
theorem blk_rd {W : World} {b n : Nat} {xs : List Int} (h : Blk W b 3 (ints xs)) (hn : xs.length = n) : L1.Rd W (some ⟨b, 0, none⟩) n xs :=
  ⟨hn, fun _ => ⟨_, rfl, fun i hi => by rw [addr_add, Nat.zero_add]; exact (h.cell i).trans (ints_get _ _ (by rw [hn]; exact hi))⟩⟩
theorem nil_rd (W : World) : L1.Rd W none 0 [] := ⟨rfl, fun h => absurd h (by omega)⟩
section
variable {w w' : World} {z p q : Nat} {S T S' T' : Nat → Prop} {cv : Value} {L L' : List Nd} {i : Int} {cs : List Cl} {a : Option Addr} {len cap : Nat}
/-- The same graph, twice. -/
def Bo (W : World) (z p q : Nat) (cv : Value) (cs : List Cl) (L : List Nd) : Prop := ∃ S T, GS W z S p cs L ∧ RG W z T q cv L ∧ ∀ k, S k → ¬ T k
theorem Bo.grow (h : Bo w z p q cv cs L) (g : Grow w w') : Bo w' z p q cv cs L := by
  obtain ⟨S, T, h1, h2, h3⟩ := h
  exact ⟨S, T, h1.grow g, h2.grow g, h3⟩
theorem Bo.two {W W3 W4 : World} {S3 T4 : Nat → Prop} (hg : GS W z S p cs L) (hr : RG W z T q cv L) (hd : ∀ k, S k → ¬ T k) (c3 : Chg S W W3) (h3 : GS W3 z S3 p cs L') (s3 : ∀ k, S3 k → S k ∨ W.heap.size ≤ k)
    (c4 : Chg T W3 W4) (h4 : RG W4 z T4 q cv L') (t4 : ∀ k, T4 k → T k ∨ W3.heap.size ≤ k) : Bo W4 z p q cv cs L' ∧ Chg (fun k => z ≤ k) W W4 := by
  have d1 : ∀ k, S3 k → ¬ T k := fun k hk ht => by
    rcases s3 k hk with h | h
    · exact hd k h ht
    · have := (hr.t ht).2; omega
  refine ⟨⟨S3, T4, h3.chg c4 (fun k hk => (hr.t hk).1) d1, h4, fun k hk ht => ?_⟩, (c3.mono fun k _ hk => (hg.s hk).1).step c4 fun k _ hk => (hr.t hk).1⟩
  rcases t4 k ht with h | h
  · exact d1 k hk h
  · have := (h3.s hk).2; omega
theorem hldX_len (ho : Lok cs L) : (hldX cs L i).length ≤ 1099511627776 := by
  unfold hldX
  cases hn : nd L i with
  | none => simp
  | some x =>
    have := hld_len (isRf (kd (clAt cs x.c))) x.refs
    have := (ho.2 x (nd_some hn).1).rl
    show (hld (isRf (kd (clAt cs x.c))) x.refs).length ≤ _
    omega
end
end Go.Proofs.Ytjofdamobnemcaa.L9

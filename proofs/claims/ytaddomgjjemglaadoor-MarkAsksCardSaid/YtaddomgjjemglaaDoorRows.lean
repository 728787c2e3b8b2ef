/-
  NARROWER THAN 'FOR EVERY INPUT', by the rows' own cells (each row's printed sentence says how): MarkReaches: laid · MarkOrder: laid · MarkGrows: laid · MarkAsks: laid · MarkChain: laid · MarkOdd: laid · MarkRings: laid.
  DERIVED. THE GIVEN ROWS OF THIS SEAT. 7 by the template 'for every input the law returns true; each argument reads behind the call as it read before'; 0 by the template 'total and deterministic' (their statements: YtaddomgjjemglaaDoorTotals.lean).
  GIVEN WITH THE SEED: the statements are not yours to turn. If you find one false, say at which input.
  Laid BY PROGRAM, IN A SANDBOX (cutbox-rows.mjs): the forced cells as the released guide's own fill.sh prints them over the translation 252235814490020d… (all of the seat's roots in one cut). By AI agents, Wed Nov 11 2026. No macro, syntax, notation, axiom, sorry.
-/
import Derived.Test.YtaddomgjjemglaaDoorChecked
import GoSem.Claim
import GoSem.ClaimJoined
import GoSem.ClaimMapViews
import Derived.JoinedTies
import Derived.KernelRfl
namespace Go.Proofs.YtaddomgjjemglaaDoor
/- THE CELL 'sum', in the pinned program and in every row, IS THE sha256 OF THE DUMP (.gsa) THAT YtaddomgjjemglaaDoorProg.lean LOADS. Nothing in Lean hashes anything: it is a label: what it is worth is what the hold of that sum in a sandbox is worth. -/
noncomputable def Tryd.pinned : Pinned := { name := "ytaddomgjjemglaadoor", sum := "252235814490020dbc3cc9af0d5854cbf2e7d71225e92f3d27c0ea2706563295", checked := Tryd.checked }
namespace Rows
def none {H : Type} : Left H := { results := [], args := [] }

/- WHAT THE LISTED PACKAGE-LEVEL VARIABLES READ AS WHEN THE CALL BEGINS. Each datum BY PROGRAM (the guide's laid-datum.mjs) off the statement by which the dump's own 'gosem.cut.vars' lays the variable. In a bare row this is a premise. The card (YtaddomgjjemglaaDoorCards.lean) ties it to the program's text. -/
def laid_math_bits_deBruijn64tab {H : Type} : DataW H := .agg [.lit (.int .u8 0), .lit (.int .u8 1), .lit (.int .u8 56), .lit (.int .u8 2), .lit (.int .u8 57), .lit (.int .u8 49), .lit (.int .u8 28), .lit (.int .u8 3), .lit (.int .u8 61), .lit (.int .u8 58), .lit (.int .u8 42), .lit (.int .u8 50), .lit (.int .u8 38), .lit (.int .u8 29), .lit (.int .u8 17), .lit (.int .u8 4), .lit (.int .u8 62), .lit (.int .u8 47), .lit (.int .u8 59), .lit (.int .u8 36), .lit (.int .u8 45), .lit (.int .u8 43), .lit (.int .u8 51), .lit (.int .u8 22), .lit (.int .u8 53), .lit (.int .u8 39), .lit (.int .u8 33), .lit (.int .u8 30), .lit (.int .u8 24), .lit (.int .u8 18), .lit (.int .u8 12), .lit (.int .u8 5), .lit (.int .u8 63), .lit (.int .u8 55), .lit (.int .u8 48), .lit (.int .u8 27), .lit (.int .u8 60), .lit (.int .u8 41), .lit (.int .u8 37), .lit (.int .u8 16), .lit (.int .u8 46), .lit (.int .u8 35), .lit (.int .u8 44), .lit (.int .u8 21), .lit (.int .u8 52), .lit (.int .u8 32), .lit (.int .u8 23), .lit (.int .u8 11), .lit (.int .u8 54), .lit (.int .u8 26), .lit (.int .u8 40), .lit (.int .u8 15), .lit (.int .u8 34), .lit (.int .u8 20), .lit (.int .u8 31), .lit (.int .u8 10), .lit (.int .u8 25), .lit (.int .u8 14), .lit (.int .u8 19), .lit (.int .u8 9), .lit (.int .u8 13), .lit (.int .u8 8), .lit (.int .u8 7), .lit (.int .u8 6)]

/-- 'gleaninglaw14.MarkReaches': WHATEVER THE INPUT: true; the input reads as it did. -/
def markReachesSpec : ChangeSpec := { name := "markReaches", fn := fun _ => fun
  | [d1, d2, d3, d4] => { results := [.lit (.bool true)], args := [d1, d2, d3, d4] }
  | _ => none }
def markReachesRow : OpenClaim := { program := "ytaddomgjjemglaadoor", sum := "252235814490020dbc3cc9af0d5854cbf2e7d71225e92f3d27c0ea2706563295", func := "gleaning/gleaninglaw14.MarkReaches", spec := "markReaches", unfollowed := true, recurses := true, named := ["math/bits.deBruijn64tab"], apart := false, laid := [("math/bits.deBruijn64tab", laid_math_bits_deBruijn64tab)] }
def MarkReachesSaid : Prop := markReachesRow.holds Tryd.pinned (OpenSpec.ofChange markReachesSpec)

/-- ITS FALSE NEIGHBOUR: 'it returns false'. Refute it at one input. -/
def markReachesWrong : ChangeSpec := { name := "markReaches", fn := fun _ => fun
  | [d1, d2, d3, d4] => { results := [.lit (.bool false)], args := [d1, d2, d3, d4] }
  | _ => none }
def MarkReachesWrongFalsely : Prop := markReachesRow.holds Tryd.pinned (OpenSpec.ofChange markReachesWrong)

/-- 'gleaninglaw14.MarkOrder': WHATEVER THE INPUT: true; the input reads as it did. -/
def markOrderSpec : ChangeSpec := { name := "markOrder", fn := fun _ => fun
  | [d1, d2, d3, d4, d5] => { results := [.lit (.bool true)], args := [d1, d2, d3, d4, d5] }
  | _ => none }
def markOrderRow : OpenClaim := { program := "ytaddomgjjemglaadoor", sum := "252235814490020dbc3cc9af0d5854cbf2e7d71225e92f3d27c0ea2706563295", func := "gleaning/gleaninglaw14.MarkOrder", spec := "markOrder", unfollowed := true, recurses := true, named := ["math/bits.deBruijn64tab"], apart := false, laid := [("math/bits.deBruijn64tab", laid_math_bits_deBruijn64tab)] }
def MarkOrderSaid : Prop := markOrderRow.holds Tryd.pinned (OpenSpec.ofChange markOrderSpec)

/-- ITS FALSE NEIGHBOUR: 'it returns false'. Refute it at one input. -/
def markOrderWrong : ChangeSpec := { name := "markOrder", fn := fun _ => fun
  | [d1, d2, d3, d4, d5] => { results := [.lit (.bool false)], args := [d1, d2, d3, d4, d5] }
  | _ => none }
def MarkOrderWrongFalsely : Prop := markOrderRow.holds Tryd.pinned (OpenSpec.ofChange markOrderWrong)

/-- 'gleaninglaw14.MarkGrows': WHATEVER THE INPUT: true; the input reads as it did. -/
def markGrowsSpec : ChangeSpec := { name := "markGrows", fn := fun _ => fun
  | [d1, d2, d3, d4, d5] => { results := [.lit (.bool true)], args := [d1, d2, d3, d4, d5] }
  | _ => none }
def markGrowsRow : OpenClaim := { program := "ytaddomgjjemglaadoor", sum := "252235814490020dbc3cc9af0d5854cbf2e7d71225e92f3d27c0ea2706563295", func := "gleaning/gleaninglaw14.MarkGrows", spec := "markGrows", unfollowed := true, recurses := true, named := ["math/bits.deBruijn64tab"], apart := false, laid := [("math/bits.deBruijn64tab", laid_math_bits_deBruijn64tab)] }
def MarkGrowsSaid : Prop := markGrowsRow.holds Tryd.pinned (OpenSpec.ofChange markGrowsSpec)

/-- ITS FALSE NEIGHBOUR: 'it returns false'. Refute it at one input. -/
def markGrowsWrong : ChangeSpec := { name := "markGrows", fn := fun _ => fun
  | [d1, d2, d3, d4, d5] => { results := [.lit (.bool false)], args := [d1, d2, d3, d4, d5] }
  | _ => none }
def MarkGrowsWrongFalsely : Prop := markGrowsRow.holds Tryd.pinned (OpenSpec.ofChange markGrowsWrong)

/-- 'gleaninglaw14.MarkAsks': WHATEVER THE INPUT: true; the input reads as it did. -/
def markAsksSpec : ChangeSpec := { name := "markAsks", fn := fun _ => fun
  | [d1, d2, d3, d4] => { results := [.lit (.bool true)], args := [d1, d2, d3, d4] }
  | _ => none }
def markAsksRow : OpenClaim := { program := "ytaddomgjjemglaadoor", sum := "252235814490020dbc3cc9af0d5854cbf2e7d71225e92f3d27c0ea2706563295", func := "gleaning/gleaninglaw14.MarkAsks", spec := "markAsks", unfollowed := true, recurses := true, named := ["math/bits.deBruijn64tab"], apart := false, laid := [("math/bits.deBruijn64tab", laid_math_bits_deBruijn64tab)] }
def MarkAsksSaid : Prop := markAsksRow.holds Tryd.pinned (OpenSpec.ofChange markAsksSpec)

/-- ITS FALSE NEIGHBOUR: 'it returns false'. Refute it at one input. -/
def markAsksWrong : ChangeSpec := { name := "markAsks", fn := fun _ => fun
  | [d1, d2, d3, d4] => { results := [.lit (.bool false)], args := [d1, d2, d3, d4] }
  | _ => none }
def MarkAsksWrongFalsely : Prop := markAsksRow.holds Tryd.pinned (OpenSpec.ofChange markAsksWrong)

/-- 'gleaninglaw14.MarkChain': WHATEVER THE INPUT: true; the input reads as it did. -/
def markChainSpec : ChangeSpec := { name := "markChain", fn := fun _ => fun
  | [d1, d2, d3, d4] => { results := [.lit (.bool true)], args := [d1, d2, d3, d4] }
  | _ => none }
def markChainRow : OpenClaim := { program := "ytaddomgjjemglaadoor", sum := "252235814490020dbc3cc9af0d5854cbf2e7d71225e92f3d27c0ea2706563295", func := "gleaning/gleaninglaw14.MarkChain", spec := "markChain", unfollowed := true, recurses := true, named := ["math/bits.deBruijn64tab"], apart := false, laid := [("math/bits.deBruijn64tab", laid_math_bits_deBruijn64tab)] }
def MarkChainSaid : Prop := markChainRow.holds Tryd.pinned (OpenSpec.ofChange markChainSpec)

/-- ITS FALSE NEIGHBOUR: 'it returns false'. Refute it at one input. -/
def markChainWrong : ChangeSpec := { name := "markChain", fn := fun _ => fun
  | [d1, d2, d3, d4] => { results := [.lit (.bool false)], args := [d1, d2, d3, d4] }
  | _ => none }
def MarkChainWrongFalsely : Prop := markChainRow.holds Tryd.pinned (OpenSpec.ofChange markChainWrong)

/-- 'gleaninglaw14.MarkOdd': WHATEVER THE INPUT: true; the input reads as it did. -/
def markOddSpec : ChangeSpec := { name := "markOdd", fn := fun _ => fun
  | [d1, d2, d3] => { results := [.lit (.bool true)], args := [d1, d2, d3] }
  | _ => none }
def markOddRow : OpenClaim := { program := "ytaddomgjjemglaadoor", sum := "252235814490020dbc3cc9af0d5854cbf2e7d71225e92f3d27c0ea2706563295", func := "gleaning/gleaninglaw14.MarkOdd", spec := "markOdd", unfollowed := true, recurses := true, named := ["math/bits.deBruijn64tab"], apart := false, laid := [("math/bits.deBruijn64tab", laid_math_bits_deBruijn64tab)] }
def MarkOddSaid : Prop := markOddRow.holds Tryd.pinned (OpenSpec.ofChange markOddSpec)

/-- ITS FALSE NEIGHBOUR: 'it returns false'. Refute it at one input. -/
def markOddWrong : ChangeSpec := { name := "markOdd", fn := fun _ => fun
  | [d1, d2, d3] => { results := [.lit (.bool false)], args := [d1, d2, d3] }
  | _ => none }
def MarkOddWrongFalsely : Prop := markOddRow.holds Tryd.pinned (OpenSpec.ofChange markOddWrong)

/-- 'gleaninglaw14.MarkRings': WHATEVER THE INPUT: true; the input reads as it did. -/
def markRingsSpec : ChangeSpec := { name := "markRings", fn := fun _ => fun
  | [d1, d2, d3, d4] => { results := [.lit (.bool true)], args := [d1, d2, d3, d4] }
  | _ => none }
def markRingsRow : OpenClaim := { program := "ytaddomgjjemglaadoor", sum := "252235814490020dbc3cc9af0d5854cbf2e7d71225e92f3d27c0ea2706563295", func := "gleaning/gleaninglaw14.MarkRings", spec := "markRings", unfollowed := true, recurses := true, named := ["math/bits.deBruijn64tab"], apart := false, laid := [("math/bits.deBruijn64tab", laid_math_bits_deBruijn64tab)] }
def MarkRingsSaid : Prop := markRingsRow.holds Tryd.pinned (OpenSpec.ofChange markRingsSpec)

/-- ITS FALSE NEIGHBOUR: 'it returns false'. Refute it at one input. -/
def markRingsWrong : ChangeSpec := { name := "markRings", fn := fun _ => fun
  | [d1, d2, d3, d4] => { results := [.lit (.bool false)], args := [d1, d2, d3, d4] }
  | _ => none }
def MarkRingsWrongFalsely : Prop := markRingsRow.holds Tryd.pinned (OpenSpec.ofChange markRingsWrong)

/- THE SECOND FORM. 'bulk': how many values and letters a reading holds, each counted each time it is reached (what is shared counts as often as it is met; a slice's spare places count too). A statement '..UptoSaid' is the law's where the arguments, and the package variables that the reading takes, are together of bulk at most 1048576: NARROWER than '..Said'. Prove '..Said' where nothing that the law and all that it calls make is longer than what came in: it says more and counts as full. Else prove '..UptoSaid'. A law counts once. -/
mutual
def uptoBulk {H : Type} : DataW H → Nat
  | .lit (.string bytes) => bytes.length + 1
  | .lit _ => 1
  | .nil => 1
  | .ptr d => uptoBulk d + 1
  | .slice elems spare => uptoBulkAll elems + uptoBulkAll spare + 1
  | .agg parts => uptoBulkAll parts + 1
  | .iface _ d => uptoBulk d + 1
  | .map entries => uptoBulkEntries entries + 1
  | .held _ => 1
def uptoBulkAll {H : Type} : List (DataW H) → Nat
  | [] => 0
  | d :: r => uptoBulk d + uptoBulkAll r
def uptoBulkEntries {H : Type} : List (Lit × DataW H) → Nat
  | [] => 0
  | x :: r => uptoBulkEntry x + uptoBulkEntries r
def uptoBulkEntry {H : Type} : Lit × DataW H → Nat
  | (.string bytes, d) => bytes.length + uptoBulk d + 1
  | (_, d) => uptoBulk d + 1
 end
def uptoSmall : (H : Type) → List (DataW H) → Bool := fun _ ds => decide (uptoBulkAll ds ≤ 1048576)
def OpenSpec.upto (s : _root_.Go.ChangeSpec) : _root_.Go.OpenSpec := { _root_.Go.OpenSpec.ofChange s with cond := some uptoSmall }

/-- 'gleaninglaw14.MarkReaches', WHERE WHAT IT READS IS OF BULK AT MOST 1048576: true; the input reads as it did. -/
def markReachesUptoRow : OpenClaim := { program := "ytaddomgjjemglaadoor", sum := "252235814490020dbc3cc9af0d5854cbf2e7d71225e92f3d27c0ea2706563295", func := "gleaning/gleaninglaw14.MarkReaches", spec := "markReaches", unfollowed := true, recurses := true, named := ["math/bits.deBruijn64tab"], apart := false, laid := [("math/bits.deBruijn64tab", laid_math_bits_deBruijn64tab)], narrowed := true }
def MarkReachesUptoSaid : Prop := markReachesUptoRow.holds Tryd.pinned (OpenSpec.upto markReachesSpec)

/-- 'gleaninglaw14.MarkOrder', WHERE WHAT IT READS IS OF BULK AT MOST 1048576: true; the input reads as it did. -/
def markOrderUptoRow : OpenClaim := { program := "ytaddomgjjemglaadoor", sum := "252235814490020dbc3cc9af0d5854cbf2e7d71225e92f3d27c0ea2706563295", func := "gleaning/gleaninglaw14.MarkOrder", spec := "markOrder", unfollowed := true, recurses := true, named := ["math/bits.deBruijn64tab"], apart := false, laid := [("math/bits.deBruijn64tab", laid_math_bits_deBruijn64tab)], narrowed := true }
def MarkOrderUptoSaid : Prop := markOrderUptoRow.holds Tryd.pinned (OpenSpec.upto markOrderSpec)

/-- 'gleaninglaw14.MarkGrows', WHERE WHAT IT READS IS OF BULK AT MOST 1048576: true; the input reads as it did. -/
def markGrowsUptoRow : OpenClaim := { program := "ytaddomgjjemglaadoor", sum := "252235814490020dbc3cc9af0d5854cbf2e7d71225e92f3d27c0ea2706563295", func := "gleaning/gleaninglaw14.MarkGrows", spec := "markGrows", unfollowed := true, recurses := true, named := ["math/bits.deBruijn64tab"], apart := false, laid := [("math/bits.deBruijn64tab", laid_math_bits_deBruijn64tab)], narrowed := true }
def MarkGrowsUptoSaid : Prop := markGrowsUptoRow.holds Tryd.pinned (OpenSpec.upto markGrowsSpec)

/-- 'gleaninglaw14.MarkAsks', WHERE WHAT IT READS IS OF BULK AT MOST 1048576: true; the input reads as it did. -/
def markAsksUptoRow : OpenClaim := { program := "ytaddomgjjemglaadoor", sum := "252235814490020dbc3cc9af0d5854cbf2e7d71225e92f3d27c0ea2706563295", func := "gleaning/gleaninglaw14.MarkAsks", spec := "markAsks", unfollowed := true, recurses := true, named := ["math/bits.deBruijn64tab"], apart := false, laid := [("math/bits.deBruijn64tab", laid_math_bits_deBruijn64tab)], narrowed := true }
def MarkAsksUptoSaid : Prop := markAsksUptoRow.holds Tryd.pinned (OpenSpec.upto markAsksSpec)

/-- 'gleaninglaw14.MarkChain', WHERE WHAT IT READS IS OF BULK AT MOST 1048576: true; the input reads as it did. -/
def markChainUptoRow : OpenClaim := { program := "ytaddomgjjemglaadoor", sum := "252235814490020dbc3cc9af0d5854cbf2e7d71225e92f3d27c0ea2706563295", func := "gleaning/gleaninglaw14.MarkChain", spec := "markChain", unfollowed := true, recurses := true, named := ["math/bits.deBruijn64tab"], apart := false, laid := [("math/bits.deBruijn64tab", laid_math_bits_deBruijn64tab)], narrowed := true }
def MarkChainUptoSaid : Prop := markChainUptoRow.holds Tryd.pinned (OpenSpec.upto markChainSpec)

/-- 'gleaninglaw14.MarkOdd', WHERE WHAT IT READS IS OF BULK AT MOST 1048576: true; the input reads as it did. -/
def markOddUptoRow : OpenClaim := { program := "ytaddomgjjemglaadoor", sum := "252235814490020dbc3cc9af0d5854cbf2e7d71225e92f3d27c0ea2706563295", func := "gleaning/gleaninglaw14.MarkOdd", spec := "markOdd", unfollowed := true, recurses := true, named := ["math/bits.deBruijn64tab"], apart := false, laid := [("math/bits.deBruijn64tab", laid_math_bits_deBruijn64tab)], narrowed := true }
def MarkOddUptoSaid : Prop := markOddUptoRow.holds Tryd.pinned (OpenSpec.upto markOddSpec)

/-- 'gleaninglaw14.MarkRings', WHERE WHAT IT READS IS OF BULK AT MOST 1048576: true; the input reads as it did. -/
def markRingsUptoRow : OpenClaim := { program := "ytaddomgjjemglaadoor", sum := "252235814490020dbc3cc9af0d5854cbf2e7d71225e92f3d27c0ea2706563295", func := "gleaning/gleaninglaw14.MarkRings", spec := "markRings", unfollowed := true, recurses := true, named := ["math/bits.deBruijn64tab"], apart := false, laid := [("math/bits.deBruijn64tab", laid_math_bits_deBruijn64tab)], narrowed := true }
def MarkRingsUptoSaid : Prop := markRingsUptoRow.holds Tryd.pinned (OpenSpec.upto markRingsSpec)

end Rows
end Go.Proofs.YtaddomgjjemglaaDoor

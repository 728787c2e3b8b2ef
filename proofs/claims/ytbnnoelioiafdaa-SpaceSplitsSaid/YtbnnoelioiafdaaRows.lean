/-
  No cell of these rows narrows 'for every input' (looked for: loops, veiled, ifaces, maps, wideKeys, modest, calm, conditions, laid).
  DERIVED. THE GIVEN ROWS OF THIS SEAT. 6 by the template 'for every input the law returns true; each argument reads behind the call as it read before'; 0 by the template 'total and deterministic' (their statements: YtbnnoelioiafdaaTotals.lean).
  GIVEN WITH THE SEED: the statements are not yours to turn. If you find one false, say at which input.
  Laid BY PROGRAM, IN A SANDBOX (cutbox-rows.mjs): the forced cells as the released guide's own fill.sh prints them over the translation 24647bdc1fb177fc… (all of the seat's roots in one cut). By AI agents, Wed Nov 11 2026. No macro, syntax, notation, axiom, sorry.
-/
import Derived.Test.YtbnnoelioiafdaaChecked
import GoSem.Claim
import GoSem.ClaimJoined
import GoSem.ClaimMapViews
import Derived.JoinedTies
import Derived.KernelRfl
namespace Go.Proofs.Ytbnnoelioiafdaa
/- THE CELL 'sum', in the pinned program and in every row, IS THE sha256 OF THE DUMP (.gsa) THAT YtbnnoelioiafdaaProg.lean LOADS. Nothing in Lean hashes anything: it is a label: what it is worth is what the hold of that sum in a sandbox is worth. -/
noncomputable def Try.pinned : Pinned := { name := "ytbnnoelioiafdaa", sum := "24647bdc1fb177fc5ec063b100874fbcde0cad6709d9da86f5986a1de5c288e7", checked := Try.checked }
namespace Rows
def none {H : Type} : Left H := { results := [], args := [] }

/-- 'gleaninglaw02.SpaceTells': WHATEVER THE INPUT: true; the input reads as it did. -/
def spaceTellsSpec : ChangeSpec := { name := "spaceTells", fn := fun _ => fun
  | [d1, d2, d3, d4, d5] => { results := [.lit (.bool true)], args := [d1, d2, d3, d4, d5] }
  | _ => none }
def spaceTellsRow : OpenClaim := { program := "ytbnnoelioiafdaa", sum := "24647bdc1fb177fc5ec063b100874fbcde0cad6709d9da86f5986a1de5c288e7", func := "gleaning/gleaninglaw02.SpaceTells", spec := "spaceTells", apart := false }
def SpaceTellsSaid : Prop := spaceTellsRow.holds Try.pinned (OpenSpec.ofChange spaceTellsSpec)

/-- ITS FALSE NEIGHBOUR: 'it returns false'. Refute it at one input. -/
def spaceTellsWrong : ChangeSpec := { name := "spaceTells", fn := fun _ => fun
  | [d1, d2, d3, d4, d5] => { results := [.lit (.bool false)], args := [d1, d2, d3, d4, d5] }
  | _ => none }
def SpaceTellsWrongFalsely : Prop := spaceTellsRow.holds Try.pinned (OpenSpec.ofChange spaceTellsWrong)

/-- 'gleaninglaw02.SpaceTakes': WHATEVER THE INPUT: true; the input reads as it did. -/
def spaceTakesSpec : ChangeSpec := { name := "spaceTakes", fn := fun _ => fun
  | [d1, d2, d3] => { results := [.lit (.bool true)], args := [d1, d2, d3] }
  | _ => none }
def spaceTakesRow : OpenClaim := { program := "ytbnnoelioiafdaa", sum := "24647bdc1fb177fc5ec063b100874fbcde0cad6709d9da86f5986a1de5c288e7", func := "gleaning/gleaninglaw02.SpaceTakes", spec := "spaceTakes", apart := false }
def SpaceTakesSaid : Prop := spaceTakesRow.holds Try.pinned (OpenSpec.ofChange spaceTakesSpec)

/-- ITS FALSE NEIGHBOUR: 'it returns false'. Refute it at one input. -/
def spaceTakesWrong : ChangeSpec := { name := "spaceTakes", fn := fun _ => fun
  | [d1, d2, d3] => { results := [.lit (.bool false)], args := [d1, d2, d3] }
  | _ => none }
def SpaceTakesWrongFalsely : Prop := spaceTakesRow.holds Try.pinned (OpenSpec.ofChange spaceTakesWrong)

/-- 'gleaninglaw02.SpaceSplits': WHATEVER THE INPUT: true; the input reads as it did. -/
def spaceSplitsSpec : ChangeSpec := { name := "spaceSplits", fn := fun _ => fun
  | [d1, d2] => { results := [.lit (.bool true)], args := [d1, d2] }
  | _ => none }
def spaceSplitsRow : OpenClaim := { program := "ytbnnoelioiafdaa", sum := "24647bdc1fb177fc5ec063b100874fbcde0cad6709d9da86f5986a1de5c288e7", func := "gleaning/gleaninglaw02.SpaceSplits", spec := "spaceSplits", apart := false }
def SpaceSplitsSaid : Prop := spaceSplitsRow.holds Try.pinned (OpenSpec.ofChange spaceSplitsSpec)

/-- ITS FALSE NEIGHBOUR: 'it returns false'. Refute it at one input. -/
def spaceSplitsWrong : ChangeSpec := { name := "spaceSplits", fn := fun _ => fun
  | [d1, d2] => { results := [.lit (.bool false)], args := [d1, d2] }
  | _ => none }
def SpaceSplitsWrongFalsely : Prop := spaceSplitsRow.holds Try.pinned (OpenSpec.ofChange spaceSplitsWrong)

/-- 'gleaninglaw02.SpaceEach': WHATEVER THE INPUT: true; the input reads as it did. -/
def spaceEachSpec : ChangeSpec := { name := "spaceEach", fn := fun _ => fun
  | [d1, d2] => { results := [.lit (.bool true)], args := [d1, d2] }
  | _ => none }
def spaceEachRow : OpenClaim := { program := "ytbnnoelioiafdaa", sum := "24647bdc1fb177fc5ec063b100874fbcde0cad6709d9da86f5986a1de5c288e7", func := "gleaning/gleaninglaw02.SpaceEach", spec := "spaceEach", apart := false }
def SpaceEachSaid : Prop := spaceEachRow.holds Try.pinned (OpenSpec.ofChange spaceEachSpec)

/-- ITS FALSE NEIGHBOUR: 'it returns false'. Refute it at one input. -/
def spaceEachWrong : ChangeSpec := { name := "spaceEach", fn := fun _ => fun
  | [d1, d2] => { results := [.lit (.bool false)], args := [d1, d2] }
  | _ => none }
def SpaceEachWrongFalsely : Prop := spaceEachRow.holds Try.pinned (OpenSpec.ofChange spaceEachWrong)

/-- 'gleaninglaw02.SpaceApart': WHATEVER THE INPUT: true; the input reads as it did. -/
def spaceApartSpec : ChangeSpec := { name := "spaceApart", fn := fun _ => fun
  | [d1, d2, d3] => { results := [.lit (.bool true)], args := [d1, d2, d3] }
  | _ => none }
def spaceApartRow : OpenClaim := { program := "ytbnnoelioiafdaa", sum := "24647bdc1fb177fc5ec063b100874fbcde0cad6709d9da86f5986a1de5c288e7", func := "gleaning/gleaninglaw02.SpaceApart", spec := "spaceApart", apart := false }
def SpaceApartSaid : Prop := spaceApartRow.holds Try.pinned (OpenSpec.ofChange spaceApartSpec)

/-- ITS FALSE NEIGHBOUR: 'it returns false'. Refute it at one input. -/
def spaceApartWrong : ChangeSpec := { name := "spaceApart", fn := fun _ => fun
  | [d1, d2, d3] => { results := [.lit (.bool false)], args := [d1, d2, d3] }
  | _ => none }
def SpaceApartWrongFalsely : Prop := spaceApartRow.holds Try.pinned (OpenSpec.ofChange spaceApartWrong)

/-- 'gleaninglaw02.SpaceWrong': WHATEVER THE INPUT: true; the input reads as it did. -/
def spaceWrongSpec : ChangeSpec := { name := "spaceWrong", fn := fun _ => fun
  | [d1, d2] => { results := [.lit (.bool true)], args := [d1, d2] }
  | _ => none }
def spaceWrongRow : OpenClaim := { program := "ytbnnoelioiafdaa", sum := "24647bdc1fb177fc5ec063b100874fbcde0cad6709d9da86f5986a1de5c288e7", func := "gleaning/gleaninglaw02.SpaceWrong", spec := "spaceWrong", apart := false }
def SpaceWrongSaid : Prop := spaceWrongRow.holds Try.pinned (OpenSpec.ofChange spaceWrongSpec)

/-- ITS FALSE NEIGHBOUR: 'it returns false'. Refute it at one input. -/
def spaceWrongWrong : ChangeSpec := { name := "spaceWrong", fn := fun _ => fun
  | [d1, d2] => { results := [.lit (.bool false)], args := [d1, d2] }
  | _ => none }
def SpaceWrongWrongFalsely : Prop := spaceWrongRow.holds Try.pinned (OpenSpec.ofChange spaceWrongWrong)

/- THE SECOND FORM. 'bulk': how many values and letters a reading holds, each counted each time it is reached (what is shared counts as often as it is met; a slice's spare places count too). A statement '..UptoSaid' is the law's where the arguments, and the package variables that the reading takes, are together of bulk at most 1048576: NARROWER than '..Said'. Prove '..Said' where nothing that the law and all that it calls make is longer than what came in: it says more and counts as full. Else prove '..UptoSaid'. A law counts once. -/
mutual
def uptoBulk {H : Type} : DataW H → Nat
  | .lit (.string bytes) => bytes.length + 1
  | .lit _ => 1
  | .nil => 1
  | .ptr d => uptoBulk d + 1
  | .slice elems spare => uptoBulkAll elems + uptoBulkAll spare + 1
  | .agg parts => uptoBulkAll parts + 1
  | .iface _ d => uptoBulk d + 1
  | .map entries => uptoBulkEntries entries + 1
  | .held _ => 1
def uptoBulkAll {H : Type} : List (DataW H) → Nat
  | [] => 0
  | d :: r => uptoBulk d + uptoBulkAll r
def uptoBulkEntries {H : Type} : List (Lit × DataW H) → Nat
  | [] => 0
  | x :: r => uptoBulkEntry x + uptoBulkEntries r
def uptoBulkEntry {H : Type} : Lit × DataW H → Nat
  | (.string bytes, d) => bytes.length + uptoBulk d + 1
  | (_, d) => uptoBulk d + 1
 end
def uptoSmall : (H : Type) → List (DataW H) → Bool := fun _ ds => decide (uptoBulkAll ds ≤ 1048576)
def OpenSpec.upto (s : _root_.Go.ChangeSpec) : _root_.Go.OpenSpec := { _root_.Go.OpenSpec.ofChange s with cond := some uptoSmall }

/-- 'gleaninglaw02.SpaceTells', WHERE WHAT IT READS IS OF BULK AT MOST 1048576: true; the input reads as it did. -/
def spaceTellsUptoRow : OpenClaim := { program := "ytbnnoelioiafdaa", sum := "24647bdc1fb177fc5ec063b100874fbcde0cad6709d9da86f5986a1de5c288e7", func := "gleaning/gleaninglaw02.SpaceTells", spec := "spaceTells", apart := false, narrowed := true }
def SpaceTellsUptoSaid : Prop := spaceTellsUptoRow.holds Try.pinned (OpenSpec.upto spaceTellsSpec)

/-- 'gleaninglaw02.SpaceTakes', WHERE WHAT IT READS IS OF BULK AT MOST 1048576: true; the input reads as it did. -/
def spaceTakesUptoRow : OpenClaim := { program := "ytbnnoelioiafdaa", sum := "24647bdc1fb177fc5ec063b100874fbcde0cad6709d9da86f5986a1de5c288e7", func := "gleaning/gleaninglaw02.SpaceTakes", spec := "spaceTakes", apart := false, narrowed := true }
def SpaceTakesUptoSaid : Prop := spaceTakesUptoRow.holds Try.pinned (OpenSpec.upto spaceTakesSpec)

/-- 'gleaninglaw02.SpaceSplits', WHERE WHAT IT READS IS OF BULK AT MOST 1048576: true; the input reads as it did. -/
def spaceSplitsUptoRow : OpenClaim := { program := "ytbnnoelioiafdaa", sum := "24647bdc1fb177fc5ec063b100874fbcde0cad6709d9da86f5986a1de5c288e7", func := "gleaning/gleaninglaw02.SpaceSplits", spec := "spaceSplits", apart := false, narrowed := true }
def SpaceSplitsUptoSaid : Prop := spaceSplitsUptoRow.holds Try.pinned (OpenSpec.upto spaceSplitsSpec)

/-- 'gleaninglaw02.SpaceEach', WHERE WHAT IT READS IS OF BULK AT MOST 1048576: true; the input reads as it did. -/
def spaceEachUptoRow : OpenClaim := { program := "ytbnnoelioiafdaa", sum := "24647bdc1fb177fc5ec063b100874fbcde0cad6709d9da86f5986a1de5c288e7", func := "gleaning/gleaninglaw02.SpaceEach", spec := "spaceEach", apart := false, narrowed := true }
def SpaceEachUptoSaid : Prop := spaceEachUptoRow.holds Try.pinned (OpenSpec.upto spaceEachSpec)

/-- 'gleaninglaw02.SpaceApart', WHERE WHAT IT READS IS OF BULK AT MOST 1048576: true; the input reads as it did. -/
def spaceApartUptoRow : OpenClaim := { program := "ytbnnoelioiafdaa", sum := "24647bdc1fb177fc5ec063b100874fbcde0cad6709d9da86f5986a1de5c288e7", func := "gleaning/gleaninglaw02.SpaceApart", spec := "spaceApart", apart := false, narrowed := true }
def SpaceApartUptoSaid : Prop := spaceApartUptoRow.holds Try.pinned (OpenSpec.upto spaceApartSpec)

/-- 'gleaninglaw02.SpaceWrong', WHERE WHAT IT READS IS OF BULK AT MOST 1048576: true; the input reads as it did. -/
def spaceWrongUptoRow : OpenClaim := { program := "ytbnnoelioiafdaa", sum := "24647bdc1fb177fc5ec063b100874fbcde0cad6709d9da86f5986a1de5c288e7", func := "gleaning/gleaninglaw02.SpaceWrong", spec := "spaceWrong", apart := false, narrowed := true }
def SpaceWrongUptoSaid : Prop := spaceWrongUptoRow.holds Try.pinned (OpenSpec.upto spaceWrongSpec)

end Rows
end Go.Proofs.Ytbnnoelioiafdaa

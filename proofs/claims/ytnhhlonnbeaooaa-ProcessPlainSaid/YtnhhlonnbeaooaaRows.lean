/-
  No cell of these rows narrows 'for every input' (looked for: loops, veiled, ifaces, maps, wideKeys, modest, calm, conditions, laid).
  DERIVED. THE GIVEN ROWS OF THIS SEAT. 6 by the template 'for every input the law returns true; each argument reads behind the call as it read before'; 0 by the template 'total and deterministic' (their statements: YtnhhlonnbeaooaaTotals.lean).
  GIVEN WITH THE SEED: the statements are not yours to turn. If you find one false, say at which input.
  Laid BY PROGRAM, IN A SANDBOX (cutbox-rows.mjs): the forced cells as the released guide's own fill.sh prints them over the translation a713d03743eacd3c… (all of the seat's roots in one cut). By AI agents, Wed Nov 11 2026. No macro, syntax, notation, axiom, sorry.
-/
import Derived.Test.YtnhhlonnbeaooaaChecked
import GoSem.Claim
import GoSem.ClaimJoined
import GoSem.ClaimMapViews
import Derived.JoinedTies
import Derived.KernelRfl
namespace Go.Proofs.Ytnhhlonnbeaooaa
/- THE CELL 'sum', in the pinned program and in every row, IS THE sha256 OF THE DUMP (.gsa) THAT YtnhhlonnbeaooaaProg.lean LOADS. Nothing in Lean hashes anything: it is a label: what it is worth is what the hold of that sum in a sandbox is worth. -/
noncomputable def Try.pinned : Pinned := { name := "ytnhhlonnbeaooaa", sum := "a713d03743eacd3cc4c860de8e1aada20bca660fde5001ad6d1cbf6107685b64", checked := Try.checked }
namespace Rows
def none {H : Type} : Left H := { results := [], args := [] }

/-- 'gleaninglaw13.ProcessStrong': WHATEVER THE INPUT: true; the input reads as it did. -/
def processStrongSpec : ChangeSpec := { name := "processStrong", fn := fun _ => fun
  | [d1, d2, d3, d4] => { results := [.lit (.bool true)], args := [d1, d2, d3, d4] }
  | _ => none }
def processStrongRow : OpenClaim := { program := "ytnhhlonnbeaooaa", sum := "a713d03743eacd3cc4c860de8e1aada20bca660fde5001ad6d1cbf6107685b64", func := "gleaning/gleaninglaw13.ProcessStrong", spec := "processStrong", inPlace := ["slices.overlaps[int]"], unfollowed := true, recurses := true, apart := false }
def ProcessStrongSaid : Prop := processStrongRow.holds Try.pinned (OpenSpec.ofChange processStrongSpec)

/-- ITS FALSE NEIGHBOUR: 'it returns false'. Refute it at one input. -/
def processStrongWrong : ChangeSpec := { name := "processStrong", fn := fun _ => fun
  | [d1, d2, d3, d4] => { results := [.lit (.bool false)], args := [d1, d2, d3, d4] }
  | _ => none }
def ProcessStrongWrongFalsely : Prop := processStrongRow.holds Try.pinned (OpenSpec.ofChange processStrongWrong)

/-- 'gleaninglaw13.ProcessCloses': WHATEVER THE INPUT: true; the input reads as it did. -/
def processClosesSpec : ChangeSpec := { name := "processCloses", fn := fun _ => fun
  | [d1, d2, d3] => { results := [.lit (.bool true)], args := [d1, d2, d3] }
  | _ => none }
def processClosesRow : OpenClaim := { program := "ytnhhlonnbeaooaa", sum := "a713d03743eacd3cc4c860de8e1aada20bca660fde5001ad6d1cbf6107685b64", func := "gleaning/gleaninglaw13.ProcessCloses", spec := "processCloses", inPlace := ["slices.overlaps[int]"], unfollowed := true, recurses := true, apart := false }
def ProcessClosesSaid : Prop := processClosesRow.holds Try.pinned (OpenSpec.ofChange processClosesSpec)

/-- ITS FALSE NEIGHBOUR: 'it returns false'. Refute it at one input. -/
def processClosesWrong : ChangeSpec := { name := "processCloses", fn := fun _ => fun
  | [d1, d2, d3] => { results := [.lit (.bool false)], args := [d1, d2, d3] }
  | _ => none }
def ProcessClosesWrongFalsely : Prop := processClosesRow.holds Try.pinned (OpenSpec.ofChange processClosesWrong)

/-- 'gleaninglaw13.ProcessAgain': WHATEVER THE INPUT: true; the input reads as it did. -/
def processAgainSpec : ChangeSpec := { name := "processAgain", fn := fun _ => fun
  | [d1, d2, d3] => { results := [.lit (.bool true)], args := [d1, d2, d3] }
  | _ => none }
def processAgainRow : OpenClaim := { program := "ytnhhlonnbeaooaa", sum := "a713d03743eacd3cc4c860de8e1aada20bca660fde5001ad6d1cbf6107685b64", func := "gleaning/gleaninglaw13.ProcessAgain", spec := "processAgain", inPlace := ["slices.overlaps[int]"], unfollowed := true, recurses := true, apart := false }
def ProcessAgainSaid : Prop := processAgainRow.holds Try.pinned (OpenSpec.ofChange processAgainSpec)

/-- ITS FALSE NEIGHBOUR: 'it returns false'. Refute it at one input. -/
def processAgainWrong : ChangeSpec := { name := "processAgain", fn := fun _ => fun
  | [d1, d2, d3] => { results := [.lit (.bool false)], args := [d1, d2, d3] }
  | _ => none }
def ProcessAgainWrongFalsely : Prop := processAgainRow.holds Try.pinned (OpenSpec.ofChange processAgainWrong)

/-- 'gleaninglaw13.ProcessPlain': WHATEVER THE INPUT: true; the input reads as it did. -/
def processPlainSpec : ChangeSpec := { name := "processPlain", fn := fun _ => fun
  | [d1, d2, d3] => { results := [.lit (.bool true)], args := [d1, d2, d3] }
  | _ => none }
def processPlainRow : OpenClaim := { program := "ytnhhlonnbeaooaa", sum := "a713d03743eacd3cc4c860de8e1aada20bca660fde5001ad6d1cbf6107685b64", func := "gleaning/gleaninglaw13.ProcessPlain", spec := "processPlain", inPlace := ["slices.overlaps[int]"], unfollowed := true, recurses := true, apart := false }
def ProcessPlainSaid : Prop := processPlainRow.holds Try.pinned (OpenSpec.ofChange processPlainSpec)

/-- ITS FALSE NEIGHBOUR: 'it returns false'. Refute it at one input. -/
def processPlainWrong : ChangeSpec := { name := "processPlain", fn := fun _ => fun
  | [d1, d2, d3] => { results := [.lit (.bool false)], args := [d1, d2, d3] }
  | _ => none }
def ProcessPlainWrongFalsely : Prop := processPlainRow.holds Try.pinned (OpenSpec.ofChange processPlainWrong)

/-- 'gleaninglaw13.ProcessSoft': WHATEVER THE INPUT: true; the input reads as it did. -/
def processSoftSpec : ChangeSpec := { name := "processSoft", fn := fun _ => fun
  | [d1, d2, d3, d4] => { results := [.lit (.bool true)], args := [d1, d2, d3, d4] }
  | _ => none }
def processSoftRow : OpenClaim := { program := "ytnhhlonnbeaooaa", sum := "a713d03743eacd3cc4c860de8e1aada20bca660fde5001ad6d1cbf6107685b64", func := "gleaning/gleaninglaw13.ProcessSoft", spec := "processSoft", inPlace := ["slices.overlaps[int]"], unfollowed := true, recurses := true, apart := false }
def ProcessSoftSaid : Prop := processSoftRow.holds Try.pinned (OpenSpec.ofChange processSoftSpec)

/-- ITS FALSE NEIGHBOUR: 'it returns false'. Refute it at one input. -/
def processSoftWrong : ChangeSpec := { name := "processSoft", fn := fun _ => fun
  | [d1, d2, d3, d4] => { results := [.lit (.bool false)], args := [d1, d2, d3, d4] }
  | _ => none }
def ProcessSoftWrongFalsely : Prop := processSoftRow.holds Try.pinned (OpenSpec.ofChange processSoftWrong)

/-- 'gleaninglaw13.ProcessFinal': WHATEVER THE INPUT: true; the input reads as it did. -/
def processFinalSpec : ChangeSpec := { name := "processFinal", fn := fun _ => fun
  | [d1, d2] => { results := [.lit (.bool true)], args := [d1, d2] }
  | _ => none }
def processFinalRow : OpenClaim := { program := "ytnhhlonnbeaooaa", sum := "a713d03743eacd3cc4c860de8e1aada20bca660fde5001ad6d1cbf6107685b64", func := "gleaning/gleaninglaw13.ProcessFinal", spec := "processFinal", inPlace := ["slices.overlaps[int]"], unfollowed := true, recurses := true, apart := false }
def ProcessFinalSaid : Prop := processFinalRow.holds Try.pinned (OpenSpec.ofChange processFinalSpec)

/-- ITS FALSE NEIGHBOUR: 'it returns false'. Refute it at one input. -/
def processFinalWrong : ChangeSpec := { name := "processFinal", fn := fun _ => fun
  | [d1, d2] => { results := [.lit (.bool false)], args := [d1, d2] }
  | _ => none }
def ProcessFinalWrongFalsely : Prop := processFinalRow.holds Try.pinned (OpenSpec.ofChange processFinalWrong)

/- THE SECOND FORM. 'bulk': how many values and letters a reading holds, each counted each time it is reached (what is shared counts as often as it is met; a slice's spare places count too). A statement '..UptoSaid' is the law's where the arguments, and the package variables that the reading takes, are together of bulk at most 1048576: NARROWER than '..Said'. Prove '..Said' where nothing that the law and all that it calls make is longer than what came in: it says more and counts as full. Else prove '..UptoSaid'. A law counts once. -/
mutual
def uptoBulk {H : Type} : DataW H → Nat
  | .lit (.string bytes) => bytes.length + 1
  | .lit _ => 1
  | .nil => 1
  | .ptr d => uptoBulk d + 1
  | .slice elems spare => uptoBulkAll elems + uptoBulkAll spare + 1
  | .agg parts => uptoBulkAll parts + 1
  | .iface _ d => uptoBulk d + 1
  | .map entries => uptoBulkEntries entries + 1
  | .held _ => 1
def uptoBulkAll {H : Type} : List (DataW H) → Nat
  | [] => 0
  | d :: r => uptoBulk d + uptoBulkAll r
def uptoBulkEntries {H : Type} : List (Lit × DataW H) → Nat
  | [] => 0
  | x :: r => uptoBulkEntry x + uptoBulkEntries r
def uptoBulkEntry {H : Type} : Lit × DataW H → Nat
  | (.string bytes, d) => bytes.length + uptoBulk d + 1
  | (_, d) => uptoBulk d + 1
 end
def uptoSmall : (H : Type) → List (DataW H) → Bool := fun _ ds => decide (uptoBulkAll ds ≤ 1048576)
def OpenSpec.upto (s : _root_.Go.ChangeSpec) : _root_.Go.OpenSpec := { _root_.Go.OpenSpec.ofChange s with cond := some uptoSmall }

/-- 'gleaninglaw13.ProcessStrong', WHERE WHAT IT READS IS OF BULK AT MOST 1048576: true; the input reads as it did. -/
def processStrongUptoRow : OpenClaim := { program := "ytnhhlonnbeaooaa", sum := "a713d03743eacd3cc4c860de8e1aada20bca660fde5001ad6d1cbf6107685b64", func := "gleaning/gleaninglaw13.ProcessStrong", spec := "processStrong", inPlace := ["slices.overlaps[int]"], unfollowed := true, recurses := true, apart := false, narrowed := true }
def ProcessStrongUptoSaid : Prop := processStrongUptoRow.holds Try.pinned (OpenSpec.upto processStrongSpec)

/-- 'gleaninglaw13.ProcessCloses', WHERE WHAT IT READS IS OF BULK AT MOST 1048576: true; the input reads as it did. -/
def processClosesUptoRow : OpenClaim := { program := "ytnhhlonnbeaooaa", sum := "a713d03743eacd3cc4c860de8e1aada20bca660fde5001ad6d1cbf6107685b64", func := "gleaning/gleaninglaw13.ProcessCloses", spec := "processCloses", inPlace := ["slices.overlaps[int]"], unfollowed := true, recurses := true, apart := false, narrowed := true }
def ProcessClosesUptoSaid : Prop := processClosesUptoRow.holds Try.pinned (OpenSpec.upto processClosesSpec)

/-- 'gleaninglaw13.ProcessAgain', WHERE WHAT IT READS IS OF BULK AT MOST 1048576: true; the input reads as it did. -/
def processAgainUptoRow : OpenClaim := { program := "ytnhhlonnbeaooaa", sum := "a713d03743eacd3cc4c860de8e1aada20bca660fde5001ad6d1cbf6107685b64", func := "gleaning/gleaninglaw13.ProcessAgain", spec := "processAgain", inPlace := ["slices.overlaps[int]"], unfollowed := true, recurses := true, apart := false, narrowed := true }
def ProcessAgainUptoSaid : Prop := processAgainUptoRow.holds Try.pinned (OpenSpec.upto processAgainSpec)

/-- 'gleaninglaw13.ProcessPlain', WHERE WHAT IT READS IS OF BULK AT MOST 1048576: true; the input reads as it did. -/
def processPlainUptoRow : OpenClaim := { program := "ytnhhlonnbeaooaa", sum := "a713d03743eacd3cc4c860de8e1aada20bca660fde5001ad6d1cbf6107685b64", func := "gleaning/gleaninglaw13.ProcessPlain", spec := "processPlain", inPlace := ["slices.overlaps[int]"], unfollowed := true, recurses := true, apart := false, narrowed := true }
def ProcessPlainUptoSaid : Prop := processPlainUptoRow.holds Try.pinned (OpenSpec.upto processPlainSpec)

/-- 'gleaninglaw13.ProcessSoft', WHERE WHAT IT READS IS OF BULK AT MOST 1048576: true; the input reads as it did. -/
def processSoftUptoRow : OpenClaim := { program := "ytnhhlonnbeaooaa", sum := "a713d03743eacd3cc4c860de8e1aada20bca660fde5001ad6d1cbf6107685b64", func := "gleaning/gleaninglaw13.ProcessSoft", spec := "processSoft", inPlace := ["slices.overlaps[int]"], unfollowed := true, recurses := true, apart := false, narrowed := true }
def ProcessSoftUptoSaid : Prop := processSoftUptoRow.holds Try.pinned (OpenSpec.upto processSoftSpec)

/-- 'gleaninglaw13.ProcessFinal', WHERE WHAT IT READS IS OF BULK AT MOST 1048576: true; the input reads as it did. -/
def processFinalUptoRow : OpenClaim := { program := "ytnhhlonnbeaooaa", sum := "a713d03743eacd3cc4c860de8e1aada20bca660fde5001ad6d1cbf6107685b64", func := "gleaning/gleaninglaw13.ProcessFinal", spec := "processFinal", inPlace := ["slices.overlaps[int]"], unfollowed := true, recurses := true, apart := false, narrowed := true }
def ProcessFinalUptoSaid : Prop := processFinalUptoRow.holds Try.pinned (OpenSpec.upto processFinalSpec)

end Rows
end Go.Proofs.Ytnhhlonnbeaooaa

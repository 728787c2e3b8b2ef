/-
  No cell of these rows narrows 'for every input' (looked for: loops, veiled, ifaces, maps, wideKeys, modest, calm, conditions, laid).
  DERIVED. THE GIVEN ROWS OF THIS SEAT. 4 by the template 'for every input the law returns true; each argument reads behind the call as it read before'; 0 by the template 'total and deterministic' (their statements: YtogfjclmohpjkaaGreatTotals.lean).
  GIVEN WITH THE SEED: the statements are not yours to turn. If you find one false, say at which input.
  Laid BY PROGRAM, IN A SANDBOX (cutbox-rows.mjs): the forced cells as the released guide's own fill.sh prints them over the translation 458366eb95e5185f… (all of the seat's roots in one cut). By AI agents, Wed Nov 11 2026. No macro, syntax, notation, axiom, sorry.
-/
import Derived.Test.YtogfjclmohpjkaaGreatChecked
import GoSem.Claim
import GoSem.ClaimJoined
import GoSem.ClaimMapViews
import Derived.JoinedTies
import Derived.KernelRfl
namespace Go.Proofs.YtogfjclmohpjkaaGreat
/- THE CELL 'sum', in the pinned program and in every row, IS THE sha256 OF THE DUMP (.gsa) THAT YtogfjclmohpjkaaGreatProg.lean LOADS. Nothing in Lean hashes anything: it is a label: what it is worth is what the hold of that sum in a sandbox is worth. -/
noncomputable def Tryz.pinned : Pinned := { name := "ytogfjclmohpjkaagreat", sum := "458366eb95e5185f2ece5821567581510da248ec1157a0ae9b3a5f9297f2535f", checked := Tryz.checked }
namespace Rows
def none {H : Type} : Left H := { results := [], args := [] }

/-- 'gleaninglaw15.ScavengeKeeps': WHATEVER THE INPUT: true; the input reads as it did. -/
def scavengeKeepsSpec : ChangeSpec := { name := "scavengeKeeps", fn := fun _ => fun
  | [d] => { results := [.lit (.bool true)], args := [d] }
  | _ => none }
def scavengeKeepsRow : OpenClaim := { program := "ytogfjclmohpjkaagreat", sum := "458366eb95e5185f2ece5821567581510da248ec1157a0ae9b3a5f9297f2535f", func := "gleaning/gleaninglaw15.ScavengeKeeps", spec := "scavengeKeeps", unfollowed := true, recurses := true, apart := false }
def ScavengeKeepsSaid : Prop := scavengeKeepsRow.holds Tryz.pinned (OpenSpec.ofChange scavengeKeepsSpec)

/-- ITS FALSE NEIGHBOUR: 'it returns false'. Refute it at one input. -/
def scavengeKeepsWrong : ChangeSpec := { name := "scavengeKeeps", fn := fun _ => fun
  | [d] => { results := [.lit (.bool false)], args := [d] }
  | _ => none }
def ScavengeKeepsWrongFalsely : Prop := scavengeKeepsRow.holds Tryz.pinned (OpenSpec.ofChange scavengeKeepsWrong)

/-- 'gleaninglaw15.ScavengeHeads': WHATEVER THE INPUT: true; the input reads as it did. -/
def scavengeHeadsSpec : ChangeSpec := { name := "scavengeHeads", fn := fun _ => fun
  | [d1, d2] => { results := [.lit (.bool true)], args := [d1, d2] }
  | _ => none }
def scavengeHeadsRow : OpenClaim := { program := "ytogfjclmohpjkaagreat", sum := "458366eb95e5185f2ece5821567581510da248ec1157a0ae9b3a5f9297f2535f", func := "gleaning/gleaninglaw15.ScavengeHeads", spec := "scavengeHeads", unfollowed := true, recurses := true, apart := false }
def ScavengeHeadsSaid : Prop := scavengeHeadsRow.holds Tryz.pinned (OpenSpec.ofChange scavengeHeadsSpec)

/-- ITS FALSE NEIGHBOUR: 'it returns false'. Refute it at one input. -/
def scavengeHeadsWrong : ChangeSpec := { name := "scavengeHeads", fn := fun _ => fun
  | [d1, d2] => { results := [.lit (.bool false)], args := [d1, d2] }
  | _ => none }
def ScavengeHeadsWrongFalsely : Prop := scavengeHeadsRow.holds Tryz.pinned (OpenSpec.ofChange scavengeHeadsWrong)

/-- 'gleaninglaw15.ScavengeNone': WHATEVER THE INPUT: true; the input reads as it did. -/
def scavengeNoneSpec : ChangeSpec := { name := "scavengeNone", fn := fun _ => fun
  | [d] => { results := [.lit (.bool true)], args := [d] }
  | _ => none }
def scavengeNoneRow : OpenClaim := { program := "ytogfjclmohpjkaagreat", sum := "458366eb95e5185f2ece5821567581510da248ec1157a0ae9b3a5f9297f2535f", func := "gleaning/gleaninglaw15.ScavengeNone", spec := "scavengeNone", unfollowed := true, recurses := true, apart := false }
def ScavengeNoneSaid : Prop := scavengeNoneRow.holds Tryz.pinned (OpenSpec.ofChange scavengeNoneSpec)

/-- ITS FALSE NEIGHBOUR: 'it returns false'. Refute it at one input. -/
def scavengeNoneWrong : ChangeSpec := { name := "scavengeNone", fn := fun _ => fun
  | [d] => { results := [.lit (.bool false)], args := [d] }
  | _ => none }
def ScavengeNoneWrongFalsely : Prop := scavengeNoneRow.holds Tryz.pinned (OpenSpec.ofChange scavengeNoneWrong)

/-- 'gleaninglaw15.ScavengeRoots': WHATEVER THE INPUT: true; the input reads as it did. -/
def scavengeRootsSpec : ChangeSpec := { name := "scavengeRoots", fn := fun _ => fun
  | [d1, d2] => { results := [.lit (.bool true)], args := [d1, d2] }
  | _ => none }
def scavengeRootsRow : OpenClaim := { program := "ytogfjclmohpjkaagreat", sum := "458366eb95e5185f2ece5821567581510da248ec1157a0ae9b3a5f9297f2535f", func := "gleaning/gleaninglaw15.ScavengeRoots", spec := "scavengeRoots", unfollowed := true, recurses := true, apart := false }
def ScavengeRootsSaid : Prop := scavengeRootsRow.holds Tryz.pinned (OpenSpec.ofChange scavengeRootsSpec)

/-- ITS FALSE NEIGHBOUR: 'it returns false'. Refute it at one input. -/
def scavengeRootsWrong : ChangeSpec := { name := "scavengeRoots", fn := fun _ => fun
  | [d1, d2] => { results := [.lit (.bool false)], args := [d1, d2] }
  | _ => none }
def ScavengeRootsWrongFalsely : Prop := scavengeRootsRow.holds Tryz.pinned (OpenSpec.ofChange scavengeRootsWrong)

/- THE SECOND FORM. 'bulk': how many values and letters a reading holds, each counted each time it is reached (what is shared counts as often as it is met; a slice's spare places count too). A statement '..UptoSaid' is the law's where the arguments, and the package variables that the reading takes, are together of bulk at most 1048576: NARROWER than '..Said'. Prove '..Said' where nothing that the law and all that it calls make is longer than what came in: it says more and counts as full. Else prove '..UptoSaid'. A law counts once. -/
mutual
def uptoBulk {H : Type} : DataW H → Nat
  | .lit (.string bytes) => bytes.length + 1
  | .lit _ => 1
  | .nil => 1
  | .ptr d => uptoBulk d + 1
  | .slice elems spare => uptoBulkAll elems + uptoBulkAll spare + 1
  | .agg parts => uptoBulkAll parts + 1
  | .iface _ d => uptoBulk d + 1
  | .map entries => uptoBulkEntries entries + 1
  | .held _ => 1
def uptoBulkAll {H : Type} : List (DataW H) → Nat
  | [] => 0
  | d :: r => uptoBulk d + uptoBulkAll r
def uptoBulkEntries {H : Type} : List (Lit × DataW H) → Nat
  | [] => 0
  | x :: r => uptoBulkEntry x + uptoBulkEntries r
def uptoBulkEntry {H : Type} : Lit × DataW H → Nat
  | (.string bytes, d) => bytes.length + uptoBulk d + 1
  | (_, d) => uptoBulk d + 1
 end
def uptoSmall : (H : Type) → List (DataW H) → Bool := fun _ ds => decide (uptoBulkAll ds ≤ 1048576)
def OpenSpec.upto (s : _root_.Go.ChangeSpec) : _root_.Go.OpenSpec := { _root_.Go.OpenSpec.ofChange s with cond := some uptoSmall }

/-- 'gleaninglaw15.ScavengeKeeps', WHERE WHAT IT READS IS OF BULK AT MOST 1048576: true; the input reads as it did. -/
def scavengeKeepsUptoRow : OpenClaim := { program := "ytogfjclmohpjkaagreat", sum := "458366eb95e5185f2ece5821567581510da248ec1157a0ae9b3a5f9297f2535f", func := "gleaning/gleaninglaw15.ScavengeKeeps", spec := "scavengeKeeps", unfollowed := true, recurses := true, apart := false, narrowed := true }
def ScavengeKeepsUptoSaid : Prop := scavengeKeepsUptoRow.holds Tryz.pinned (OpenSpec.upto scavengeKeepsSpec)

/-- 'gleaninglaw15.ScavengeHeads', WHERE WHAT IT READS IS OF BULK AT MOST 1048576: true; the input reads as it did. -/
def scavengeHeadsUptoRow : OpenClaim := { program := "ytogfjclmohpjkaagreat", sum := "458366eb95e5185f2ece5821567581510da248ec1157a0ae9b3a5f9297f2535f", func := "gleaning/gleaninglaw15.ScavengeHeads", spec := "scavengeHeads", unfollowed := true, recurses := true, apart := false, narrowed := true }
def ScavengeHeadsUptoSaid : Prop := scavengeHeadsUptoRow.holds Tryz.pinned (OpenSpec.upto scavengeHeadsSpec)

/-- 'gleaninglaw15.ScavengeNone', WHERE WHAT IT READS IS OF BULK AT MOST 1048576: true; the input reads as it did. -/
def scavengeNoneUptoRow : OpenClaim := { program := "ytogfjclmohpjkaagreat", sum := "458366eb95e5185f2ece5821567581510da248ec1157a0ae9b3a5f9297f2535f", func := "gleaning/gleaninglaw15.ScavengeNone", spec := "scavengeNone", unfollowed := true, recurses := true, apart := false, narrowed := true }
def ScavengeNoneUptoSaid : Prop := scavengeNoneUptoRow.holds Tryz.pinned (OpenSpec.upto scavengeNoneSpec)

/-- 'gleaninglaw15.ScavengeRoots', WHERE WHAT IT READS IS OF BULK AT MOST 1048576: true; the input reads as it did. -/
def scavengeRootsUptoRow : OpenClaim := { program := "ytogfjclmohpjkaagreat", sum := "458366eb95e5185f2ece5821567581510da248ec1157a0ae9b3a5f9297f2535f", func := "gleaning/gleaninglaw15.ScavengeRoots", spec := "scavengeRoots", unfollowed := true, recurses := true, apart := false, narrowed := true }
def ScavengeRootsUptoSaid : Prop := scavengeRootsUptoRow.holds Tryz.pinned (OpenSpec.upto scavengeRootsSpec)

end Rows
end Go.Proofs.YtogfjclmohpjkaaGreat

/-
  No cell of these rows narrows 'for every input' (looked for: loops, veiled, ifaces, maps, wideKeys, modest, calm, conditions, laid).
  DERIVED. THE GIVEN ROWS OF THIS SEAT. 5 by the template 'for every input the law returns true; each argument reads behind the call as it read before'; 0 by the template 'total and deterministic' (their statements: YthgijkikaboegaaTotals.lean).
  GIVEN WITH THE SEED: the statements are not yours to turn. If you find one false, say at which input.
  Laid BY PROGRAM, IN A SANDBOX (cutbox-rows.mjs): the forced cells as the released guide's own fill.sh prints them over the translation dd7dc8d7a838ef5d… (all of the seat's roots in one cut). By AI agents, Wed Nov 11 2026. No macro, syntax, notation, axiom, sorry.
-/
import Derived.Test.YthgijkikaboegaaChecked
import GoSem.Claim
import GoSem.ClaimJoined
import GoSem.ClaimMapViews
import Derived.JoinedTies
import Derived.KernelRfl
namespace Go.Proofs.Ythgijkikaboegaa
/- THE CELL 'sum', in the pinned program and in every row, IS THE sha256 OF THE DUMP (.gsa) THAT YthgijkikaboegaaProg.lean LOADS. Nothing in Lean hashes anything: it is a label: what it is worth is what the hold of that sum in a sandbox is worth. -/
noncomputable def Try.pinned : Pinned := { name := "ythgijkikaboegaa", sum := "dd7dc8d7a838ef5d9324a35a5905ae724c49a838219e9a8101beb23698e1be47", checked := Try.checked }
namespace Rows
def none {H : Type} : Left H := { results := [], args := [] }

/-- 'gleaninglaw05.ClassTells': WHATEVER THE INPUT: true; the input reads as it did. -/
def classTellsSpec : ChangeSpec := { name := "classTells", fn := fun _ => fun
  | [d1, d2, d3, d4] => { results := [.lit (.bool true)], args := [d1, d2, d3, d4] }
  | _ => none }
def classTellsRow : OpenClaim := { program := "ythgijkikaboegaa", sum := "dd7dc8d7a838ef5d9324a35a5905ae724c49a838219e9a8101beb23698e1be47", func := "gleaning/gleaninglaw05.ClassTells", spec := "classTells", apart := false }
def ClassTellsSaid : Prop := classTellsRow.holds Try.pinned (OpenSpec.ofChange classTellsSpec)

/-- ITS FALSE NEIGHBOUR: 'it returns false'. Refute it at one input. -/
def classTellsWrong : ChangeSpec := { name := "classTells", fn := fun _ => fun
  | [d1, d2, d3, d4] => { results := [.lit (.bool false)], args := [d1, d2, d3, d4] }
  | _ => none }
def ClassTellsWrongFalsely : Prop := classTellsRow.holds Try.pinned (OpenSpec.ofChange classTellsWrong)

/-- 'gleaninglaw05.ClassWords': WHATEVER THE INPUT: true; the input reads as it did. -/
def classWordsSpec : ChangeSpec := { name := "classWords", fn := fun _ => fun
  | [d1, d2, d3] => { results := [.lit (.bool true)], args := [d1, d2, d3] }
  | _ => none }
def classWordsRow : OpenClaim := { program := "ythgijkikaboegaa", sum := "dd7dc8d7a838ef5d9324a35a5905ae724c49a838219e9a8101beb23698e1be47", func := "gleaning/gleaninglaw05.ClassWords", spec := "classWords", apart := false }
def ClassWordsSaid : Prop := classWordsRow.holds Try.pinned (OpenSpec.ofChange classWordsSpec)

/-- ITS FALSE NEIGHBOUR: 'it returns false'. Refute it at one input. -/
def classWordsWrong : ChangeSpec := { name := "classWords", fn := fun _ => fun
  | [d1, d2, d3] => { results := [.lit (.bool false)], args := [d1, d2, d3] }
  | _ => none }
def ClassWordsWrongFalsely : Prop := classWordsRow.holds Try.pinned (OpenSpec.ofChange classWordsWrong)

/-- 'gleaninglaw05.ClassOwn': WHATEVER THE INPUT: true; the input reads as it did. -/
def classOwnSpec : ChangeSpec := { name := "classOwn", fn := fun _ => fun
  | [d1, d2] => { results := [.lit (.bool true)], args := [d1, d2] }
  | _ => none }
def classOwnRow : OpenClaim := { program := "ythgijkikaboegaa", sum := "dd7dc8d7a838ef5d9324a35a5905ae724c49a838219e9a8101beb23698e1be47", func := "gleaning/gleaninglaw05.ClassOwn", spec := "classOwn", apart := false }
def ClassOwnSaid : Prop := classOwnRow.holds Try.pinned (OpenSpec.ofChange classOwnSpec)

/-- ITS FALSE NEIGHBOUR: 'it returns false'. Refute it at one input. -/
def classOwnWrong : ChangeSpec := { name := "classOwn", fn := fun _ => fun
  | [d1, d2] => { results := [.lit (.bool false)], args := [d1, d2] }
  | _ => none }
def ClassOwnWrongFalsely : Prop := classOwnRow.holds Try.pinned (OpenSpec.ofChange classOwnWrong)

/-- 'gleaninglaw05.ClassHolds': WHATEVER THE INPUT: true; the input reads as it did. -/
def classHoldsSpec : ChangeSpec := { name := "classHolds", fn := fun _ => fun
  | [d1, d2, d3] => { results := [.lit (.bool true)], args := [d1, d2, d3] }
  | _ => none }
def classHoldsRow : OpenClaim := { program := "ythgijkikaboegaa", sum := "dd7dc8d7a838ef5d9324a35a5905ae724c49a838219e9a8101beb23698e1be47", func := "gleaning/gleaninglaw05.ClassHolds", spec := "classHolds", apart := false }
def ClassHoldsSaid : Prop := classHoldsRow.holds Try.pinned (OpenSpec.ofChange classHoldsSpec)

/-- ITS FALSE NEIGHBOUR: 'it returns false'. Refute it at one input. -/
def classHoldsWrong : ChangeSpec := { name := "classHolds", fn := fun _ => fun
  | [d1, d2, d3] => { results := [.lit (.bool false)], args := [d1, d2, d3] }
  | _ => none }
def ClassHoldsWrongFalsely : Prop := classHoldsRow.holds Try.pinned (OpenSpec.ofChange classHoldsWrong)

/-- 'gleaninglaw05.ClassEach': WHATEVER THE INPUT: true; the input reads as it did. -/
def classEachSpec : ChangeSpec := { name := "classEach", fn := fun _ => fun
  | [d] => { results := [.lit (.bool true)], args := [d] }
  | _ => none }
def classEachRow : OpenClaim := { program := "ythgijkikaboegaa", sum := "dd7dc8d7a838ef5d9324a35a5905ae724c49a838219e9a8101beb23698e1be47", func := "gleaning/gleaninglaw05.ClassEach", spec := "classEach", apart := false }
def ClassEachSaid : Prop := classEachRow.holds Try.pinned (OpenSpec.ofChange classEachSpec)

/-- ITS FALSE NEIGHBOUR: 'it returns false'. Refute it at one input. -/
def classEachWrong : ChangeSpec := { name := "classEach", fn := fun _ => fun
  | [d] => { results := [.lit (.bool false)], args := [d] }
  | _ => none }
def ClassEachWrongFalsely : Prop := classEachRow.holds Try.pinned (OpenSpec.ofChange classEachWrong)

/- THE SECOND FORM. 'bulk': how many values and letters a reading holds, each counted each time it is reached (what is shared counts as often as it is met; a slice's spare places count too). A statement '..UptoSaid' is the law's where the arguments, and the package variables that the reading takes, are together of bulk at most 1048576: NARROWER than '..Said'. Prove '..Said' where nothing that the law and all that it calls make is longer than what came in: it says more and counts as full. Else prove '..UptoSaid'. A law counts once. -/
mutual
def uptoBulk {H : Type} : DataW H → Nat
  | .lit (.string bytes) => bytes.length + 1
  | .lit _ => 1
  | .nil => 1
  | .ptr d => uptoBulk d + 1
  | .slice elems spare => uptoBulkAll elems + uptoBulkAll spare + 1
  | .agg parts => uptoBulkAll parts + 1
  | .iface _ d => uptoBulk d + 1
  | .map entries => uptoBulkEntries entries + 1
  | .held _ => 1
def uptoBulkAll {H : Type} : List (DataW H) → Nat
  | [] => 0
  | d :: r => uptoBulk d + uptoBulkAll r
def uptoBulkEntries {H : Type} : List (Lit × DataW H) → Nat
  | [] => 0
  | x :: r => uptoBulkEntry x + uptoBulkEntries r
def uptoBulkEntry {H : Type} : Lit × DataW H → Nat
  | (.string bytes, d) => bytes.length + uptoBulk d + 1
  | (_, d) => uptoBulk d + 1
 end
def uptoSmall : (H : Type) → List (DataW H) → Bool := fun _ ds => decide (uptoBulkAll ds ≤ 1048576)
def OpenSpec.upto (s : _root_.Go.ChangeSpec) : _root_.Go.OpenSpec := { _root_.Go.OpenSpec.ofChange s with cond := some uptoSmall }

/-- 'gleaninglaw05.ClassTells', WHERE WHAT IT READS IS OF BULK AT MOST 1048576: true; the input reads as it did. -/
def classTellsUptoRow : OpenClaim := { program := "ythgijkikaboegaa", sum := "dd7dc8d7a838ef5d9324a35a5905ae724c49a838219e9a8101beb23698e1be47", func := "gleaning/gleaninglaw05.ClassTells", spec := "classTells", apart := false, narrowed := true }
def ClassTellsUptoSaid : Prop := classTellsUptoRow.holds Try.pinned (OpenSpec.upto classTellsSpec)

/-- 'gleaninglaw05.ClassWords', WHERE WHAT IT READS IS OF BULK AT MOST 1048576: true; the input reads as it did. -/
def classWordsUptoRow : OpenClaim := { program := "ythgijkikaboegaa", sum := "dd7dc8d7a838ef5d9324a35a5905ae724c49a838219e9a8101beb23698e1be47", func := "gleaning/gleaninglaw05.ClassWords", spec := "classWords", apart := false, narrowed := true }
def ClassWordsUptoSaid : Prop := classWordsUptoRow.holds Try.pinned (OpenSpec.upto classWordsSpec)

/-- 'gleaninglaw05.ClassOwn', WHERE WHAT IT READS IS OF BULK AT MOST 1048576: true; the input reads as it did. -/
def classOwnUptoRow : OpenClaim := { program := "ythgijkikaboegaa", sum := "dd7dc8d7a838ef5d9324a35a5905ae724c49a838219e9a8101beb23698e1be47", func := "gleaning/gleaninglaw05.ClassOwn", spec := "classOwn", apart := false, narrowed := true }
def ClassOwnUptoSaid : Prop := classOwnUptoRow.holds Try.pinned (OpenSpec.upto classOwnSpec)

/-- 'gleaninglaw05.ClassHolds', WHERE WHAT IT READS IS OF BULK AT MOST 1048576: true; the input reads as it did. -/
def classHoldsUptoRow : OpenClaim := { program := "ythgijkikaboegaa", sum := "dd7dc8d7a838ef5d9324a35a5905ae724c49a838219e9a8101beb23698e1be47", func := "gleaning/gleaninglaw05.ClassHolds", spec := "classHolds", apart := false, narrowed := true }
def ClassHoldsUptoSaid : Prop := classHoldsUptoRow.holds Try.pinned (OpenSpec.upto classHoldsSpec)

/-- 'gleaninglaw05.ClassEach', WHERE WHAT IT READS IS OF BULK AT MOST 1048576: true; the input reads as it did. -/
def classEachUptoRow : OpenClaim := { program := "ythgijkikaboegaa", sum := "dd7dc8d7a838ef5d9324a35a5905ae724c49a838219e9a8101beb23698e1be47", func := "gleaning/gleaninglaw05.ClassEach", spec := "classEach", apart := false, narrowed := true }
def ClassEachUptoSaid : Prop := classEachUptoRow.holds Try.pinned (OpenSpec.upto classEachSpec)

end Rows
end Go.Proofs.Ythgijkikaboegaa

/-
  No cell of these rows narrows 'for every input' (looked for: loops, veiled, ifaces, maps, wideKeys, modest, calm, conditions, laid).
  DERIVED. THE GIVEN ROWS OF THIS SEAT. 6 by the template 'for every input the law returns true; each argument reads behind the call as it read before'; 0 by the template 'total and deterministic' (their statements: YthikaebibodpiaaTotals.lean).
  GIVEN WITH THE SEED: the statements are not yours to turn. If you find one false, say at which input.
  Laid BY PROGRAM, IN A SANDBOX (cutbox-rows.mjs): the forced cells as the released guide's own fill.sh prints them over the translation a1bd3a176977eed6… (all of the seat's roots in one cut). By AI agents, Wed Nov 11 2026. No macro, syntax, notation, axiom, sorry.
-/
import Derived.Test.YthikaebibodpiaaChecked
import GoSem.Claim
import GoSem.ClaimJoined
import GoSem.ClaimMapViews
import Derived.JoinedTies
import Derived.KernelRfl
namespace Go.Proofs.Ythikaebibodpiaa
/- THE CELL 'sum', in the pinned program and in every row, IS THE sha256 OF THE DUMP (.gsa) THAT YthikaebibodpiaaProg.lean LOADS. Nothing in Lean hashes anything: it is a label: what it is worth is what the hold of that sum in a sandbox is worth. -/
noncomputable def Try.pinned : Pinned := { name := "ythikaebibodpiaa", sum := "a1bd3a176977eed64369ceff43802aa06a2e5f61510020a795a4351326fc804d", checked := Try.checked }
namespace Rows
def none {H : Type} : Left H := { results := [], args := [] }

/-- 'gleaninglaw10.StrengthApart': WHATEVER THE INPUT: true; the input reads as it did. -/
def strengthApartSpec : ChangeSpec := { name := "strengthApart", fn := fun _ => fun
  | [d1, d2] => { results := [.lit (.bool true)], args := [d1, d2] }
  | _ => none }
def strengthApartRow : OpenClaim := { program := "ythikaebibodpiaa", sum := "a1bd3a176977eed64369ceff43802aa06a2e5f61510020a795a4351326fc804d", func := "gleaning/gleaninglaw10.StrengthApart", spec := "strengthApart", unfollowed := true, recurses := true, apart := false }
def StrengthApartSaid : Prop := strengthApartRow.holds Try.pinned (OpenSpec.ofChange strengthApartSpec)

/-- ITS FALSE NEIGHBOUR: 'it returns false'. Refute it at one input. -/
def strengthApartWrong : ChangeSpec := { name := "strengthApart", fn := fun _ => fun
  | [d1, d2] => { results := [.lit (.bool false)], args := [d1, d2] }
  | _ => none }
def StrengthApartWrongFalsely : Prop := strengthApartRow.holds Try.pinned (OpenSpec.ofChange strengthApartWrong)

/-- 'gleaninglaw11.PolicyTells': WHATEVER THE INPUT: true; the input reads as it did. -/
def policyTellsSpec : ChangeSpec := { name := "policyTells", fn := fun _ => fun
  | [d1, d2, d3, d4] => { results := [.lit (.bool true)], args := [d1, d2, d3, d4] }
  | _ => none }
def policyTellsRow : OpenClaim := { program := "ythikaebibodpiaa", sum := "a1bd3a176977eed64369ceff43802aa06a2e5f61510020a795a4351326fc804d", func := "gleaning/gleaninglaw11.PolicyTells", spec := "policyTells", apart := false }
def PolicyTellsSaid : Prop := policyTellsRow.holds Try.pinned (OpenSpec.ofChange policyTellsSpec)

/-- ITS FALSE NEIGHBOUR: 'it returns false'. Refute it at one input. -/
def policyTellsWrong : ChangeSpec := { name := "policyTells", fn := fun _ => fun
  | [d1, d2, d3, d4] => { results := [.lit (.bool false)], args := [d1, d2, d3, d4] }
  | _ => none }
def PolicyTellsWrongFalsely : Prop := policyTellsRow.holds Try.pinned (OpenSpec.ofChange policyTellsWrong)

/-- 'gleaninglaw11.PolicyOrder': WHATEVER THE INPUT: true; the input reads as it did. -/
def policyOrderSpec : ChangeSpec := { name := "policyOrder", fn := fun _ => fun
  | [d1, d2, d3] => { results := [.lit (.bool true)], args := [d1, d2, d3] }
  | _ => none }
def policyOrderRow : OpenClaim := { program := "ythikaebibodpiaa", sum := "a1bd3a176977eed64369ceff43802aa06a2e5f61510020a795a4351326fc804d", func := "gleaning/gleaninglaw11.PolicyOrder", spec := "policyOrder", apart := false }
def PolicyOrderSaid : Prop := policyOrderRow.holds Try.pinned (OpenSpec.ofChange policyOrderSpec)

/-- ITS FALSE NEIGHBOUR: 'it returns false'. Refute it at one input. -/
def policyOrderWrong : ChangeSpec := { name := "policyOrder", fn := fun _ => fun
  | [d1, d2, d3] => { results := [.lit (.bool false)], args := [d1, d2, d3] }
  | _ => none }
def PolicyOrderWrongFalsely : Prop := policyOrderRow.holds Try.pinned (OpenSpec.ofChange policyOrderWrong)

/-- 'gleaninglaw11.PolicyKeeps': WHATEVER THE INPUT: true; the input reads as it did. -/
def policyKeepsSpec : ChangeSpec := { name := "policyKeeps", fn := fun _ => fun
  | [d1, d2, d3, d4, d5] => { results := [.lit (.bool true)], args := [d1, d2, d3, d4, d5] }
  | _ => none }
def policyKeepsRow : OpenClaim := { program := "ythikaebibodpiaa", sum := "a1bd3a176977eed64369ceff43802aa06a2e5f61510020a795a4351326fc804d", func := "gleaning/gleaninglaw11.PolicyKeeps", spec := "policyKeeps", apart := false }
def PolicyKeepsSaid : Prop := policyKeepsRow.holds Try.pinned (OpenSpec.ofChange policyKeepsSpec)

/-- ITS FALSE NEIGHBOUR: 'it returns false'. Refute it at one input. -/
def policyKeepsWrong : ChangeSpec := { name := "policyKeeps", fn := fun _ => fun
  | [d1, d2, d3, d4, d5] => { results := [.lit (.bool false)], args := [d1, d2, d3, d4, d5] }
  | _ => none }
def PolicyKeepsWrongFalsely : Prop := policyKeepsRow.holds Try.pinned (OpenSpec.ofChange policyKeepsWrong)

/-- 'gleaninglaw11.PolicyHeld': WHATEVER THE INPUT: true; the input reads as it did. -/
def policyHeldSpec : ChangeSpec := { name := "policyHeld", fn := fun _ => fun
  | [d1, d2, d3, d4] => { results := [.lit (.bool true)], args := [d1, d2, d3, d4] }
  | _ => none }
def policyHeldRow : OpenClaim := { program := "ythikaebibodpiaa", sum := "a1bd3a176977eed64369ceff43802aa06a2e5f61510020a795a4351326fc804d", func := "gleaning/gleaninglaw11.PolicyHeld", spec := "policyHeld", apart := false }
def PolicyHeldSaid : Prop := policyHeldRow.holds Try.pinned (OpenSpec.ofChange policyHeldSpec)

/-- ITS FALSE NEIGHBOUR: 'it returns false'. Refute it at one input. -/
def policyHeldWrong : ChangeSpec := { name := "policyHeld", fn := fun _ => fun
  | [d1, d2, d3, d4] => { results := [.lit (.bool false)], args := [d1, d2, d3, d4] }
  | _ => none }
def PolicyHeldWrongFalsely : Prop := policyHeldRow.holds Try.pinned (OpenSpec.ofChange policyHeldWrong)

/-- 'gleaninglaw11.PolicyEdge': WHATEVER THE INPUT: true; the input reads as it did. -/
def policyEdgeSpec : ChangeSpec := { name := "policyEdge", fn := fun _ => fun
  | [d1, d2, d3] => { results := [.lit (.bool true)], args := [d1, d2, d3] }
  | _ => none }
def policyEdgeRow : OpenClaim := { program := "ythikaebibodpiaa", sum := "a1bd3a176977eed64369ceff43802aa06a2e5f61510020a795a4351326fc804d", func := "gleaning/gleaninglaw11.PolicyEdge", spec := "policyEdge", apart := false }
def PolicyEdgeSaid : Prop := policyEdgeRow.holds Try.pinned (OpenSpec.ofChange policyEdgeSpec)

/-- ITS FALSE NEIGHBOUR: 'it returns false'. Refute it at one input. -/
def policyEdgeWrong : ChangeSpec := { name := "policyEdge", fn := fun _ => fun
  | [d1, d2, d3] => { results := [.lit (.bool false)], args := [d1, d2, d3] }
  | _ => none }
def PolicyEdgeWrongFalsely : Prop := policyEdgeRow.holds Try.pinned (OpenSpec.ofChange policyEdgeWrong)

/- THE SECOND FORM. 'bulk': how many values and letters a reading holds, each counted each time it is reached (what is shared counts as often as it is met; a slice's spare places count too). A statement '..UptoSaid' is the law's where the arguments, and the package variables that the reading takes, are together of bulk at most 1048576: NARROWER than '..Said'. Prove '..Said' where nothing that the law and all that it calls make is longer than what came in: it says more and counts as full. Else prove '..UptoSaid'. A law counts once. -/
mutual
def uptoBulk {H : Type} : DataW H → Nat
  | .lit (.string bytes) => bytes.length + 1
  | .lit _ => 1
  | .nil => 1
  | .ptr d => uptoBulk d + 1
  | .slice elems spare => uptoBulkAll elems + uptoBulkAll spare + 1
  | .agg parts => uptoBulkAll parts + 1
  | .iface _ d => uptoBulk d + 1
  | .map entries => uptoBulkEntries entries + 1
  | .held _ => 1
def uptoBulkAll {H : Type} : List (DataW H) → Nat
  | [] => 0
  | d :: r => uptoBulk d + uptoBulkAll r
def uptoBulkEntries {H : Type} : List (Lit × DataW H) → Nat
  | [] => 0
  | x :: r => uptoBulkEntry x + uptoBulkEntries r
def uptoBulkEntry {H : Type} : Lit × DataW H → Nat
  | (.string bytes, d) => bytes.length + uptoBulk d + 1
  | (_, d) => uptoBulk d + 1
 end
def uptoSmall : (H : Type) → List (DataW H) → Bool := fun _ ds => decide (uptoBulkAll ds ≤ 1048576)
def OpenSpec.upto (s : _root_.Go.ChangeSpec) : _root_.Go.OpenSpec := { _root_.Go.OpenSpec.ofChange s with cond := some uptoSmall }

/-- 'gleaninglaw10.StrengthApart', WHERE WHAT IT READS IS OF BULK AT MOST 1048576: true; the input reads as it did. -/
def strengthApartUptoRow : OpenClaim := { program := "ythikaebibodpiaa", sum := "a1bd3a176977eed64369ceff43802aa06a2e5f61510020a795a4351326fc804d", func := "gleaning/gleaninglaw10.StrengthApart", spec := "strengthApart", unfollowed := true, recurses := true, apart := false, narrowed := true }
def StrengthApartUptoSaid : Prop := strengthApartUptoRow.holds Try.pinned (OpenSpec.upto strengthApartSpec)

/-- 'gleaninglaw11.PolicyTells', WHERE WHAT IT READS IS OF BULK AT MOST 1048576: true; the input reads as it did. -/
def policyTellsUptoRow : OpenClaim := { program := "ythikaebibodpiaa", sum := "a1bd3a176977eed64369ceff43802aa06a2e5f61510020a795a4351326fc804d", func := "gleaning/gleaninglaw11.PolicyTells", spec := "policyTells", apart := false, narrowed := true }
def PolicyTellsUptoSaid : Prop := policyTellsUptoRow.holds Try.pinned (OpenSpec.upto policyTellsSpec)

/-- 'gleaninglaw11.PolicyOrder', WHERE WHAT IT READS IS OF BULK AT MOST 1048576: true; the input reads as it did. -/
def policyOrderUptoRow : OpenClaim := { program := "ythikaebibodpiaa", sum := "a1bd3a176977eed64369ceff43802aa06a2e5f61510020a795a4351326fc804d", func := "gleaning/gleaninglaw11.PolicyOrder", spec := "policyOrder", apart := false, narrowed := true }
def PolicyOrderUptoSaid : Prop := policyOrderUptoRow.holds Try.pinned (OpenSpec.upto policyOrderSpec)

/-- 'gleaninglaw11.PolicyKeeps', WHERE WHAT IT READS IS OF BULK AT MOST 1048576: true; the input reads as it did. -/
def policyKeepsUptoRow : OpenClaim := { program := "ythikaebibodpiaa", sum := "a1bd3a176977eed64369ceff43802aa06a2e5f61510020a795a4351326fc804d", func := "gleaning/gleaninglaw11.PolicyKeeps", spec := "policyKeeps", apart := false, narrowed := true }
def PolicyKeepsUptoSaid : Prop := policyKeepsUptoRow.holds Try.pinned (OpenSpec.upto policyKeepsSpec)

/-- 'gleaninglaw11.PolicyHeld', WHERE WHAT IT READS IS OF BULK AT MOST 1048576: true; the input reads as it did. -/
def policyHeldUptoRow : OpenClaim := { program := "ythikaebibodpiaa", sum := "a1bd3a176977eed64369ceff43802aa06a2e5f61510020a795a4351326fc804d", func := "gleaning/gleaninglaw11.PolicyHeld", spec := "policyHeld", apart := false, narrowed := true }
def PolicyHeldUptoSaid : Prop := policyHeldUptoRow.holds Try.pinned (OpenSpec.upto policyHeldSpec)

/-- 'gleaninglaw11.PolicyEdge', WHERE WHAT IT READS IS OF BULK AT MOST 1048576: true; the input reads as it did. -/
def policyEdgeUptoRow : OpenClaim := { program := "ythikaebibodpiaa", sum := "a1bd3a176977eed64369ceff43802aa06a2e5f61510020a795a4351326fc804d", func := "gleaning/gleaninglaw11.PolicyEdge", spec := "policyEdge", apart := false, narrowed := true }
def PolicyEdgeUptoSaid : Prop := policyEdgeUptoRow.holds Try.pinned (OpenSpec.upto policyEdgeSpec)

end Rows
end Go.Proofs.Ythikaebibodpiaa

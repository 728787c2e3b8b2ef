/-
  NARROWER THAN 'FOR EVERY INPUT', by the rows' own cells (each row's printed sentence says how): CardPlays: laid · CardTakes: laid · CardNear: laid · CardNil: laid · CardOnce: laid · CardWhole: laid.
  DERIVED. THE GIVEN ROWS OF THIS SEAT. 6 by the template 'for every input the law returns true; each argument reads behind the call as it read before'; 0 by the template 'total and deterministic' (their statements: YtbigdgabjjpffaaDoorTotals.lean).
  GIVEN WITH THE SEED: the statements are not yours to turn. If you find one false, say at which input.
  Laid BY PROGRAM, IN A SANDBOX (cutbox-rows.mjs): the forced cells as the released guide's own fill.sh prints them over the translation 901bf7e7285abad1… (all of the seat's roots in one cut). By AI agents, Wed Nov 11 2026. No macro, syntax, notation, axiom, sorry.
-/
import Derived.Test.YtbigdgabjjpffaaDoorChecked
import GoSem.Claim
import GoSem.ClaimJoined
import GoSem.ClaimMapViews
import Derived.JoinedTies
import Derived.KernelRfl
namespace Go.Proofs.YtbigdgabjjpffaaDoor
/- THE CELL 'sum', in the pinned program and in every row, IS THE sha256 OF THE DUMP (.gsa) THAT YtbigdgabjjpffaaDoorProg.lean LOADS. Nothing in Lean hashes anything: it is a label: what it is worth is what the hold of that sum in a sandbox is worth. -/
noncomputable def Tryd.pinned : Pinned := { name := "ytbigdgabjjpffaadoor", sum := "901bf7e7285abad1c08899219948a6e6cedc9f7927ebf84ad5f45f45d578ceb8", checked := Tryd.checked }
namespace Rows
def none {H : Type} : Left H := { results := [], args := [] }

/- WHAT THE LISTED PACKAGE-LEVEL VARIABLES READ AS WHEN THE CALL BEGINS. Each datum BY PROGRAM (the guide's laid-datum.mjs) off the statement by which the dump's own 'gosem.cut.vars' lays the variable. In a bare row this is a premise. The card (YtbigdgabjjpffaaDoorCards.lean) ties it to the program's text. -/
def laid_math_bits_deBruijn64tab {H : Type} : DataW H := .agg [.lit (.int .u8 0), .lit (.int .u8 1), .lit (.int .u8 56), .lit (.int .u8 2), .lit (.int .u8 57), .lit (.int .u8 49), .lit (.int .u8 28), .lit (.int .u8 3), .lit (.int .u8 61), .lit (.int .u8 58), .lit (.int .u8 42), .lit (.int .u8 50), .lit (.int .u8 38), .lit (.int .u8 29), .lit (.int .u8 17), .lit (.int .u8 4), .lit (.int .u8 62), .lit (.int .u8 47), .lit (.int .u8 59), .lit (.int .u8 36), .lit (.int .u8 45), .lit (.int .u8 43), .lit (.int .u8 51), .lit (.int .u8 22), .lit (.int .u8 53), .lit (.int .u8 39), .lit (.int .u8 33), .lit (.int .u8 30), .lit (.int .u8 24), .lit (.int .u8 18), .lit (.int .u8 12), .lit (.int .u8 5), .lit (.int .u8 63), .lit (.int .u8 55), .lit (.int .u8 48), .lit (.int .u8 27), .lit (.int .u8 60), .lit (.int .u8 41), .lit (.int .u8 37), .lit (.int .u8 16), .lit (.int .u8 46), .lit (.int .u8 35), .lit (.int .u8 44), .lit (.int .u8 21), .lit (.int .u8 52), .lit (.int .u8 32), .lit (.int .u8 23), .lit (.int .u8 11), .lit (.int .u8 54), .lit (.int .u8 26), .lit (.int .u8 40), .lit (.int .u8 15), .lit (.int .u8 34), .lit (.int .u8 20), .lit (.int .u8 31), .lit (.int .u8 10), .lit (.int .u8 25), .lit (.int .u8 14), .lit (.int .u8 19), .lit (.int .u8 9), .lit (.int .u8 13), .lit (.int .u8 8), .lit (.int .u8 7), .lit (.int .u8 6)]

/-- 'gleaninglaw07.CardPlays': WHATEVER THE INPUT: true; the input reads as it did. -/
def cardPlaysSpec : ChangeSpec := { name := "cardPlays", fn := fun _ => fun
  | [d1, d2, d3] => { results := [.lit (.bool true)], args := [d1, d2, d3] }
  | _ => none }
def cardPlaysRow : OpenClaim := { program := "ytbigdgabjjpffaadoor", sum := "901bf7e7285abad1c08899219948a6e6cedc9f7927ebf84ad5f45f45d578ceb8", func := "gleaning/gleaninglaw07.CardPlays", spec := "cardPlays", named := ["math/bits.deBruijn64tab"], apart := false, laid := [("math/bits.deBruijn64tab", laid_math_bits_deBruijn64tab)] }
def CardPlaysSaid : Prop := cardPlaysRow.holds Tryd.pinned (OpenSpec.ofChange cardPlaysSpec)

/-- ITS FALSE NEIGHBOUR: 'it returns false'. Refute it at one input. -/
def cardPlaysWrong : ChangeSpec := { name := "cardPlays", fn := fun _ => fun
  | [d1, d2, d3] => { results := [.lit (.bool false)], args := [d1, d2, d3] }
  | _ => none }
def CardPlaysWrongFalsely : Prop := cardPlaysRow.holds Tryd.pinned (OpenSpec.ofChange cardPlaysWrong)

/-- 'gleaninglaw07.CardTakes': WHATEVER THE INPUT: true; the input reads as it did. -/
def cardTakesSpec : ChangeSpec := { name := "cardTakes", fn := fun _ => fun
  | [d1, d2, d3] => { results := [.lit (.bool true)], args := [d1, d2, d3] }
  | _ => none }
def cardTakesRow : OpenClaim := { program := "ytbigdgabjjpffaadoor", sum := "901bf7e7285abad1c08899219948a6e6cedc9f7927ebf84ad5f45f45d578ceb8", func := "gleaning/gleaninglaw07.CardTakes", spec := "cardTakes", named := ["math/bits.deBruijn64tab"], apart := false, laid := [("math/bits.deBruijn64tab", laid_math_bits_deBruijn64tab)] }
def CardTakesSaid : Prop := cardTakesRow.holds Tryd.pinned (OpenSpec.ofChange cardTakesSpec)

/-- ITS FALSE NEIGHBOUR: 'it returns false'. Refute it at one input. -/
def cardTakesWrong : ChangeSpec := { name := "cardTakes", fn := fun _ => fun
  | [d1, d2, d3] => { results := [.lit (.bool false)], args := [d1, d2, d3] }
  | _ => none }
def CardTakesWrongFalsely : Prop := cardTakesRow.holds Tryd.pinned (OpenSpec.ofChange cardTakesWrong)

/-- 'gleaninglaw07.CardNear': WHATEVER THE INPUT: true; the input reads as it did. -/
def cardNearSpec : ChangeSpec := { name := "cardNear", fn := fun _ => fun
  | [d1, d2, d3, d4] => { results := [.lit (.bool true)], args := [d1, d2, d3, d4] }
  | _ => none }
def cardNearRow : OpenClaim := { program := "ytbigdgabjjpffaadoor", sum := "901bf7e7285abad1c08899219948a6e6cedc9f7927ebf84ad5f45f45d578ceb8", func := "gleaning/gleaninglaw07.CardNear", spec := "cardNear", named := ["math/bits.deBruijn64tab"], apart := false, laid := [("math/bits.deBruijn64tab", laid_math_bits_deBruijn64tab)] }
def CardNearSaid : Prop := cardNearRow.holds Tryd.pinned (OpenSpec.ofChange cardNearSpec)

/-- ITS FALSE NEIGHBOUR: 'it returns false'. Refute it at one input. -/
def cardNearWrong : ChangeSpec := { name := "cardNear", fn := fun _ => fun
  | [d1, d2, d3, d4] => { results := [.lit (.bool false)], args := [d1, d2, d3, d4] }
  | _ => none }
def CardNearWrongFalsely : Prop := cardNearRow.holds Tryd.pinned (OpenSpec.ofChange cardNearWrong)

/-- 'gleaninglaw07.CardNil': WHATEVER THE INPUT: true; the input reads as it did. -/
def cardNilSpec : ChangeSpec := { name := "cardNil", fn := fun _ => fun
  | [d] => { results := [.lit (.bool true)], args := [d] }
  | _ => none }
def cardNilRow : OpenClaim := { program := "ytbigdgabjjpffaadoor", sum := "901bf7e7285abad1c08899219948a6e6cedc9f7927ebf84ad5f45f45d578ceb8", func := "gleaning/gleaninglaw07.CardNil", spec := "cardNil", named := ["math/bits.deBruijn64tab"], apart := false, laid := [("math/bits.deBruijn64tab", laid_math_bits_deBruijn64tab)] }
def CardNilSaid : Prop := cardNilRow.holds Tryd.pinned (OpenSpec.ofChange cardNilSpec)

/-- ITS FALSE NEIGHBOUR: 'it returns false'. Refute it at one input. -/
def cardNilWrong : ChangeSpec := { name := "cardNil", fn := fun _ => fun
  | [d] => { results := [.lit (.bool false)], args := [d] }
  | _ => none }
def CardNilWrongFalsely : Prop := cardNilRow.holds Tryd.pinned (OpenSpec.ofChange cardNilWrong)

/-- 'gleaninglaw07.CardOnce': WHATEVER THE INPUT: true; the input reads as it did. -/
def cardOnceSpec : ChangeSpec := { name := "cardOnce", fn := fun _ => fun
  | [d1, d2, d3] => { results := [.lit (.bool true)], args := [d1, d2, d3] }
  | _ => none }
def cardOnceRow : OpenClaim := { program := "ytbigdgabjjpffaadoor", sum := "901bf7e7285abad1c08899219948a6e6cedc9f7927ebf84ad5f45f45d578ceb8", func := "gleaning/gleaninglaw07.CardOnce", spec := "cardOnce", named := ["math/bits.deBruijn64tab"], apart := false, laid := [("math/bits.deBruijn64tab", laid_math_bits_deBruijn64tab)] }
def CardOnceSaid : Prop := cardOnceRow.holds Tryd.pinned (OpenSpec.ofChange cardOnceSpec)

/-- ITS FALSE NEIGHBOUR: 'it returns false'. Refute it at one input. -/
def cardOnceWrong : ChangeSpec := { name := "cardOnce", fn := fun _ => fun
  | [d1, d2, d3] => { results := [.lit (.bool false)], args := [d1, d2, d3] }
  | _ => none }
def CardOnceWrongFalsely : Prop := cardOnceRow.holds Tryd.pinned (OpenSpec.ofChange cardOnceWrong)

/-- 'gleaninglaw07.CardWhole': WHATEVER THE INPUT: true; the input reads as it did. -/
def cardWholeSpec : ChangeSpec := { name := "cardWhole", fn := fun _ => fun
  | [d1, d2] => { results := [.lit (.bool true)], args := [d1, d2] }
  | _ => none }
def cardWholeRow : OpenClaim := { program := "ytbigdgabjjpffaadoor", sum := "901bf7e7285abad1c08899219948a6e6cedc9f7927ebf84ad5f45f45d578ceb8", func := "gleaning/gleaninglaw07.CardWhole", spec := "cardWhole", named := ["math/bits.deBruijn64tab"], apart := false, laid := [("math/bits.deBruijn64tab", laid_math_bits_deBruijn64tab)] }
def CardWholeSaid : Prop := cardWholeRow.holds Tryd.pinned (OpenSpec.ofChange cardWholeSpec)

/-- ITS FALSE NEIGHBOUR: 'it returns false'. Refute it at one input. -/
def cardWholeWrong : ChangeSpec := { name := "cardWhole", fn := fun _ => fun
  | [d1, d2] => { results := [.lit (.bool false)], args := [d1, d2] }
  | _ => none }
def CardWholeWrongFalsely : Prop := cardWholeRow.holds Tryd.pinned (OpenSpec.ofChange cardWholeWrong)

/- THE SECOND FORM. 'bulk': how many values and letters a reading holds, each counted each time it is reached (what is shared counts as often as it is met; a slice's spare places count too). A statement '..UptoSaid' is the law's where the arguments, and the package variables that the reading takes, are together of bulk at most 1048576: NARROWER than '..Said'. Prove '..Said' where nothing that the law and all that it calls make is longer than what came in: it says more and counts as full. Else prove '..UptoSaid'. A law counts once. -/
mutual
def uptoBulk {H : Type} : DataW H → Nat
  | .lit (.string bytes) => bytes.length + 1
  | .lit _ => 1
  | .nil => 1
  | .ptr d => uptoBulk d + 1
  | .slice elems spare => uptoBulkAll elems + uptoBulkAll spare + 1
  | .agg parts => uptoBulkAll parts + 1
  | .iface _ d => uptoBulk d + 1
  | .map entries => uptoBulkEntries entries + 1
  | .held _ => 1
def uptoBulkAll {H : Type} : List (DataW H) → Nat
  | [] => 0
  | d :: r => uptoBulk d + uptoBulkAll r
def uptoBulkEntries {H : Type} : List (Lit × DataW H) → Nat
  | [] => 0
  | x :: r => uptoBulkEntry x + uptoBulkEntries r
def uptoBulkEntry {H : Type} : Lit × DataW H → Nat
  | (.string bytes, d) => bytes.length + uptoBulk d + 1
  | (_, d) => uptoBulk d + 1
 end
def uptoSmall : (H : Type) → List (DataW H) → Bool := fun _ ds => decide (uptoBulkAll ds ≤ 1048576)
def OpenSpec.upto (s : _root_.Go.ChangeSpec) : _root_.Go.OpenSpec := { _root_.Go.OpenSpec.ofChange s with cond := some uptoSmall }

/-- 'gleaninglaw07.CardPlays', WHERE WHAT IT READS IS OF BULK AT MOST 1048576: true; the input reads as it did. -/
def cardPlaysUptoRow : OpenClaim := { program := "ytbigdgabjjpffaadoor", sum := "901bf7e7285abad1c08899219948a6e6cedc9f7927ebf84ad5f45f45d578ceb8", func := "gleaning/gleaninglaw07.CardPlays", spec := "cardPlays", named := ["math/bits.deBruijn64tab"], apart := false, laid := [("math/bits.deBruijn64tab", laid_math_bits_deBruijn64tab)], narrowed := true }
def CardPlaysUptoSaid : Prop := cardPlaysUptoRow.holds Tryd.pinned (OpenSpec.upto cardPlaysSpec)

/-- 'gleaninglaw07.CardTakes', WHERE WHAT IT READS IS OF BULK AT MOST 1048576: true; the input reads as it did. -/
def cardTakesUptoRow : OpenClaim := { program := "ytbigdgabjjpffaadoor", sum := "901bf7e7285abad1c08899219948a6e6cedc9f7927ebf84ad5f45f45d578ceb8", func := "gleaning/gleaninglaw07.CardTakes", spec := "cardTakes", named := ["math/bits.deBruijn64tab"], apart := false, laid := [("math/bits.deBruijn64tab", laid_math_bits_deBruijn64tab)], narrowed := true }
def CardTakesUptoSaid : Prop := cardTakesUptoRow.holds Tryd.pinned (OpenSpec.upto cardTakesSpec)

/-- 'gleaninglaw07.CardNear', WHERE WHAT IT READS IS OF BULK AT MOST 1048576: true; the input reads as it did. -/
def cardNearUptoRow : OpenClaim := { program := "ytbigdgabjjpffaadoor", sum := "901bf7e7285abad1c08899219948a6e6cedc9f7927ebf84ad5f45f45d578ceb8", func := "gleaning/gleaninglaw07.CardNear", spec := "cardNear", named := ["math/bits.deBruijn64tab"], apart := false, laid := [("math/bits.deBruijn64tab", laid_math_bits_deBruijn64tab)], narrowed := true }
def CardNearUptoSaid : Prop := cardNearUptoRow.holds Tryd.pinned (OpenSpec.upto cardNearSpec)

/-- 'gleaninglaw07.CardNil', WHERE WHAT IT READS IS OF BULK AT MOST 1048576: true; the input reads as it did. -/
def cardNilUptoRow : OpenClaim := { program := "ytbigdgabjjpffaadoor", sum := "901bf7e7285abad1c08899219948a6e6cedc9f7927ebf84ad5f45f45d578ceb8", func := "gleaning/gleaninglaw07.CardNil", spec := "cardNil", named := ["math/bits.deBruijn64tab"], apart := false, laid := [("math/bits.deBruijn64tab", laid_math_bits_deBruijn64tab)], narrowed := true }
def CardNilUptoSaid : Prop := cardNilUptoRow.holds Tryd.pinned (OpenSpec.upto cardNilSpec)

/-- 'gleaninglaw07.CardOnce', WHERE WHAT IT READS IS OF BULK AT MOST 1048576: true; the input reads as it did. -/
def cardOnceUptoRow : OpenClaim := { program := "ytbigdgabjjpffaadoor", sum := "901bf7e7285abad1c08899219948a6e6cedc9f7927ebf84ad5f45f45d578ceb8", func := "gleaning/gleaninglaw07.CardOnce", spec := "cardOnce", named := ["math/bits.deBruijn64tab"], apart := false, laid := [("math/bits.deBruijn64tab", laid_math_bits_deBruijn64tab)], narrowed := true }
def CardOnceUptoSaid : Prop := cardOnceUptoRow.holds Tryd.pinned (OpenSpec.upto cardOnceSpec)

/-- 'gleaninglaw07.CardWhole', WHERE WHAT IT READS IS OF BULK AT MOST 1048576: true; the input reads as it did. -/
def cardWholeUptoRow : OpenClaim := { program := "ytbigdgabjjpffaadoor", sum := "901bf7e7285abad1c08899219948a6e6cedc9f7927ebf84ad5f45f45d578ceb8", func := "gleaning/gleaninglaw07.CardWhole", spec := "cardWhole", named := ["math/bits.deBruijn64tab"], apart := false, laid := [("math/bits.deBruijn64tab", laid_math_bits_deBruijn64tab)], narrowed := true }
def CardWholeUptoSaid : Prop := cardWholeUptoRow.holds Tryd.pinned (OpenSpec.upto cardWholeSpec)

end Rows
end Go.Proofs.YtbigdgabjjpffaaDoor

/-
  No cell of these rows narrows 'for every input' (looked for: loops, veiled, ifaces, maps, wideKeys, modest, calm, conditions, laid).
  DERIVED. THE GIVEN ROWS OF THIS SEAT. 6 by the template 'for every input the law returns true; each argument reads behind the call as it read before'; 0 by the template 'total and deterministic' (their statements: YtmklmoahkcekiaaTotals.lean).
  GIVEN WITH THE SEED: the statements are not yours to turn. If you find one false, say at which input.
  Laid BY PROGRAM, IN A SANDBOX (cutbox-rows.mjs): the forced cells as the released guide's own fill.sh prints them over the translation 6c08e664791464da… (all of the seat's roots in one cut). By AI agents, Wed Nov 11 2026. No macro, syntax, notation, axiom, sorry.
-/
import Derived.Test.YtmklmoahkcekiaaChecked
import GoSem.Claim
import GoSem.ClaimJoined
import GoSem.ClaimMapViews
import Derived.JoinedTies
import Derived.KernelRfl
namespace Go.Proofs.Ytmklmoahkcekiaa
/- THE CELL 'sum', in the pinned program and in every row, IS THE sha256 OF THE DUMP (.gsa) THAT YtmklmoahkcekiaaProg.lean LOADS. Nothing in Lean hashes anything: it is a label: what it is worth is what the hold of that sum in a sandbox is worth. -/
noncomputable def Try.pinned : Pinned := { name := "ytmklmoahkcekiaa", sum := "6c08e664791464da2ec3e976ddc1b0d3514cda981f83e64d4e0ca20b45e696d3", checked := Try.checked }
namespace Rows
def none {H : Type} : Left H := { results := [], args := [] }

/-- 'gleaninglaw08.HandlePlays': WHATEVER THE INPUT: true; the input reads as it did. -/
def handlePlaysSpec : ChangeSpec := { name := "handlePlays", fn := fun _ => fun
  | [d] => { results := [.lit (.bool true)], args := [d] }
  | _ => none }
def handlePlaysRow : OpenClaim := { program := "ytmklmoahkcekiaa", sum := "6c08e664791464da2ec3e976ddc1b0d3514cda981f83e64d4e0ca20b45e696d3", func := "gleaning/gleaninglaw08.HandlePlays", spec := "handlePlays", unfollowed := true, recurses := true, apart := false }
def HandlePlaysSaid : Prop := handlePlaysRow.holds Try.pinned (OpenSpec.ofChange handlePlaysSpec)

/-- ITS FALSE NEIGHBOUR: 'it returns false'. Refute it at one input. -/
def handlePlaysWrong : ChangeSpec := { name := "handlePlays", fn := fun _ => fun
  | [d] => { results := [.lit (.bool false)], args := [d] }
  | _ => none }
def HandlePlaysWrongFalsely : Prop := handlePlaysRow.holds Try.pinned (OpenSpec.ofChange handlePlaysWrong)

/-- 'gleaninglaw08.HandleOnce': WHATEVER THE INPUT: true; the input reads as it did. -/
def handleOnceSpec : ChangeSpec := { name := "handleOnce", fn := fun _ => fun
  | [d] => { results := [.lit (.bool true)], args := [d] }
  | _ => none }
def handleOnceRow : OpenClaim := { program := "ytmklmoahkcekiaa", sum := "6c08e664791464da2ec3e976ddc1b0d3514cda981f83e64d4e0ca20b45e696d3", func := "gleaning/gleaninglaw08.HandleOnce", spec := "handleOnce", unfollowed := true, recurses := true, apart := false }
def HandleOnceSaid : Prop := handleOnceRow.holds Try.pinned (OpenSpec.ofChange handleOnceSpec)

/-- ITS FALSE NEIGHBOUR: 'it returns false'. Refute it at one input. -/
def handleOnceWrong : ChangeSpec := { name := "handleOnce", fn := fun _ => fun
  | [d] => { results := [.lit (.bool false)], args := [d] }
  | _ => none }
def HandleOnceWrongFalsely : Prop := handleOnceRow.holds Try.pinned (OpenSpec.ofChange handleOnceWrong)

/-- 'gleaninglaw08.HandleEach': WHATEVER THE INPUT: true; the input reads as it did. -/
def handleEachSpec : ChangeSpec := { name := "handleEach", fn := fun _ => fun
  | [d1, d2] => { results := [.lit (.bool true)], args := [d1, d2] }
  | _ => none }
def handleEachRow : OpenClaim := { program := "ytmklmoahkcekiaa", sum := "6c08e664791464da2ec3e976ddc1b0d3514cda981f83e64d4e0ca20b45e696d3", func := "gleaning/gleaninglaw08.HandleEach", spec := "handleEach", unfollowed := true, recurses := true, apart := false }
def HandleEachSaid : Prop := handleEachRow.holds Try.pinned (OpenSpec.ofChange handleEachSpec)

/-- ITS FALSE NEIGHBOUR: 'it returns false'. Refute it at one input. -/
def handleEachWrong : ChangeSpec := { name := "handleEach", fn := fun _ => fun
  | [d1, d2] => { results := [.lit (.bool false)], args := [d1, d2] }
  | _ => none }
def HandleEachWrongFalsely : Prop := handleEachRow.holds Try.pinned (OpenSpec.ofChange handleEachWrong)

/-- 'gleaninglaw08.HandleNil': WHATEVER THE INPUT: true; the input reads as it did. -/
def handleNilSpec : ChangeSpec := { name := "handleNil", fn := fun _ => fun
  | [d1, d2] => { results := [.lit (.bool true)], args := [d1, d2] }
  | _ => none }
def handleNilRow : OpenClaim := { program := "ytmklmoahkcekiaa", sum := "6c08e664791464da2ec3e976ddc1b0d3514cda981f83e64d4e0ca20b45e696d3", func := "gleaning/gleaninglaw08.HandleNil", spec := "handleNil", unfollowed := true, recurses := true, apart := false }
def HandleNilSaid : Prop := handleNilRow.holds Try.pinned (OpenSpec.ofChange handleNilSpec)

/-- ITS FALSE NEIGHBOUR: 'it returns false'. Refute it at one input. -/
def handleNilWrong : ChangeSpec := { name := "handleNil", fn := fun _ => fun
  | [d1, d2] => { results := [.lit (.bool false)], args := [d1, d2] }
  | _ => none }
def HandleNilWrongFalsely : Prop := handleNilRow.holds Try.pinned (OpenSpec.ofChange handleNilWrong)

/-- 'gleaninglaw08.HandlePlaces': WHATEVER THE INPUT: true; the input reads as it did. -/
def handlePlacesSpec : ChangeSpec := { name := "handlePlaces", fn := fun _ => fun
  | [d] => { results := [.lit (.bool true)], args := [d] }
  | _ => none }
def handlePlacesRow : OpenClaim := { program := "ytmklmoahkcekiaa", sum := "6c08e664791464da2ec3e976ddc1b0d3514cda981f83e64d4e0ca20b45e696d3", func := "gleaning/gleaninglaw08.HandlePlaces", spec := "handlePlaces", unfollowed := true, recurses := true, apart := false }
def HandlePlacesSaid : Prop := handlePlacesRow.holds Try.pinned (OpenSpec.ofChange handlePlacesSpec)

/-- ITS FALSE NEIGHBOUR: 'it returns false'. Refute it at one input. -/
def handlePlacesWrong : ChangeSpec := { name := "handlePlaces", fn := fun _ => fun
  | [d] => { results := [.lit (.bool false)], args := [d] }
  | _ => none }
def HandlePlacesWrongFalsely : Prop := handlePlacesRow.holds Try.pinned (OpenSpec.ofChange handlePlacesWrong)

/-- 'gleaninglaw08.HandleKeeps': WHATEVER THE INPUT: true; the input reads as it did. -/
def handleKeepsSpec : ChangeSpec := { name := "handleKeeps", fn := fun _ => fun
  | [d1, d2] => { results := [.lit (.bool true)], args := [d1, d2] }
  | _ => none }
def handleKeepsRow : OpenClaim := { program := "ytmklmoahkcekiaa", sum := "6c08e664791464da2ec3e976ddc1b0d3514cda981f83e64d4e0ca20b45e696d3", func := "gleaning/gleaninglaw08.HandleKeeps", spec := "handleKeeps", unfollowed := true, recurses := true, apart := false }
def HandleKeepsSaid : Prop := handleKeepsRow.holds Try.pinned (OpenSpec.ofChange handleKeepsSpec)

/-- ITS FALSE NEIGHBOUR: 'it returns false'. Refute it at one input. -/
def handleKeepsWrong : ChangeSpec := { name := "handleKeeps", fn := fun _ => fun
  | [d1, d2] => { results := [.lit (.bool false)], args := [d1, d2] }
  | _ => none }
def HandleKeepsWrongFalsely : Prop := handleKeepsRow.holds Try.pinned (OpenSpec.ofChange handleKeepsWrong)

/- THE SECOND FORM. 'bulk': how many values and letters a reading holds, each counted each time it is reached (what is shared counts as often as it is met; a slice's spare places count too). A statement '..UptoSaid' is the law's where the arguments, and the package variables that the reading takes, are together of bulk at most 1048576: NARROWER than '..Said'. Prove '..Said' where nothing that the law and all that it calls make is longer than what came in: it says more and counts as full. Else prove '..UptoSaid'. A law counts once. -/
mutual
def uptoBulk {H : Type} : DataW H → Nat
  | .lit (.string bytes) => bytes.length + 1
  | .lit _ => 1
  | .nil => 1
  | .ptr d => uptoBulk d + 1
  | .slice elems spare => uptoBulkAll elems + uptoBulkAll spare + 1
  | .agg parts => uptoBulkAll parts + 1
  | .iface _ d => uptoBulk d + 1
  | .map entries => uptoBulkEntries entries + 1
  | .held _ => 1
def uptoBulkAll {H : Type} : List (DataW H) → Nat
  | [] => 0
  | d :: r => uptoBulk d + uptoBulkAll r
def uptoBulkEntries {H : Type} : List (Lit × DataW H) → Nat
  | [] => 0
  | x :: r => uptoBulkEntry x + uptoBulkEntries r
def uptoBulkEntry {H : Type} : Lit × DataW H → Nat
  | (.string bytes, d) => bytes.length + uptoBulk d + 1
  | (_, d) => uptoBulk d + 1
 end
def uptoSmall : (H : Type) → List (DataW H) → Bool := fun _ ds => decide (uptoBulkAll ds ≤ 1048576)
def OpenSpec.upto (s : _root_.Go.ChangeSpec) : _root_.Go.OpenSpec := { _root_.Go.OpenSpec.ofChange s with cond := some uptoSmall }

/-- 'gleaninglaw08.HandlePlays', WHERE WHAT IT READS IS OF BULK AT MOST 1048576: true; the input reads as it did. -/
def handlePlaysUptoRow : OpenClaim := { program := "ytmklmoahkcekiaa", sum := "6c08e664791464da2ec3e976ddc1b0d3514cda981f83e64d4e0ca20b45e696d3", func := "gleaning/gleaninglaw08.HandlePlays", spec := "handlePlays", unfollowed := true, recurses := true, apart := false, narrowed := true }
def HandlePlaysUptoSaid : Prop := handlePlaysUptoRow.holds Try.pinned (OpenSpec.upto handlePlaysSpec)

/-- 'gleaninglaw08.HandleOnce', WHERE WHAT IT READS IS OF BULK AT MOST 1048576: true; the input reads as it did. -/
def handleOnceUptoRow : OpenClaim := { program := "ytmklmoahkcekiaa", sum := "6c08e664791464da2ec3e976ddc1b0d3514cda981f83e64d4e0ca20b45e696d3", func := "gleaning/gleaninglaw08.HandleOnce", spec := "handleOnce", unfollowed := true, recurses := true, apart := false, narrowed := true }
def HandleOnceUptoSaid : Prop := handleOnceUptoRow.holds Try.pinned (OpenSpec.upto handleOnceSpec)

/-- 'gleaninglaw08.HandleEach', WHERE WHAT IT READS IS OF BULK AT MOST 1048576: true; the input reads as it did. -/
def handleEachUptoRow : OpenClaim := { program := "ytmklmoahkcekiaa", sum := "6c08e664791464da2ec3e976ddc1b0d3514cda981f83e64d4e0ca20b45e696d3", func := "gleaning/gleaninglaw08.HandleEach", spec := "handleEach", unfollowed := true, recurses := true, apart := false, narrowed := true }
def HandleEachUptoSaid : Prop := handleEachUptoRow.holds Try.pinned (OpenSpec.upto handleEachSpec)

/-- 'gleaninglaw08.HandleNil', WHERE WHAT IT READS IS OF BULK AT MOST 1048576: true; the input reads as it did. -/
def handleNilUptoRow : OpenClaim := { program := "ytmklmoahkcekiaa", sum := "6c08e664791464da2ec3e976ddc1b0d3514cda981f83e64d4e0ca20b45e696d3", func := "gleaning/gleaninglaw08.HandleNil", spec := "handleNil", unfollowed := true, recurses := true, apart := false, narrowed := true }
def HandleNilUptoSaid : Prop := handleNilUptoRow.holds Try.pinned (OpenSpec.upto handleNilSpec)

/-- 'gleaninglaw08.HandlePlaces', WHERE WHAT IT READS IS OF BULK AT MOST 1048576: true; the input reads as it did. -/
def handlePlacesUptoRow : OpenClaim := { program := "ytmklmoahkcekiaa", sum := "6c08e664791464da2ec3e976ddc1b0d3514cda981f83e64d4e0ca20b45e696d3", func := "gleaning/gleaninglaw08.HandlePlaces", spec := "handlePlaces", unfollowed := true, recurses := true, apart := false, narrowed := true }
def HandlePlacesUptoSaid : Prop := handlePlacesUptoRow.holds Try.pinned (OpenSpec.upto handlePlacesSpec)

/-- 'gleaninglaw08.HandleKeeps', WHERE WHAT IT READS IS OF BULK AT MOST 1048576: true; the input reads as it did. -/
def handleKeepsUptoRow : OpenClaim := { program := "ytmklmoahkcekiaa", sum := "6c08e664791464da2ec3e976ddc1b0d3514cda981f83e64d4e0ca20b45e696d3", func := "gleaning/gleaninglaw08.HandleKeeps", spec := "handleKeeps", unfollowed := true, recurses := true, apart := false, narrowed := true }
def HandleKeepsUptoSaid : Prop := handleKeepsUptoRow.holds Try.pinned (OpenSpec.upto handleKeepsSpec)

end Rows
end Go.Proofs.Ytmklmoahkcekiaa

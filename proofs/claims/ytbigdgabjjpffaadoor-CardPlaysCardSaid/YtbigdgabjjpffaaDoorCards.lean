/-
  DERIVED. GIVEN WITH THE SEED: THE CARDS: each row of YtbigdgabjjpffaaDoorRows.lean that lists a variable, with what it lists TIED to the program's text (the seventh form; the later family's looks); each row that meets fmt, with fmt's text TOLD by the authors' own Lean function (tested against real Go, not proved from fmt's source: count such statements apart). THE CARD IS WHAT COUNTS. Prove the row's statement (the work); the ties are given (YtbigdgabjjpffaaDoorTie.lean); close each card by the builder's one call (the guide's Derived/Test/ToyasCard.lean, 'card_holds'). Laid BY PROGRAM, IN A SANDBOX (cutbox-door.mjs). By AI agents, Wed Nov 11 2026. No macro, syntax, notation, axiom, sorry.
-/
import Derived.Test.YtbigdgabjjpffaaDoorRows
import GoSem.ClaimSeven
namespace Go.Proofs.YtbigdgabjjpffaaDoor
namespace Rows

/-- THE TIED CARD OF 'gleaninglaw07.CardPlays'. -/
def cardPlaysCard : Claim7 := { stood := { row := cardPlaysRow, standIns := [], harness := (true, "7a314cb4cf25a9b05f5bff8257dd108c524ef5aa1769ffff5b91f6e8a4848ddb"), looks := false }, kinds := [], alts := [], laidByText := true, laidKinds := [.data], laidTests := true, laidLooks := .later }
def CardPlaysCardSaid : Prop := Claim7.holds Tryd.pinned (.plain (OpenSpec.ofChange cardPlaysSpec)) cardPlaysCard

/-- THE TIED CARD OF 'gleaninglaw07.CardTakes'. -/
def cardTakesCard : Claim7 := { stood := { row := cardTakesRow, standIns := [], harness := (true, "7a314cb4cf25a9b05f5bff8257dd108c524ef5aa1769ffff5b91f6e8a4848ddb"), looks := false }, kinds := [], alts := [], laidByText := true, laidKinds := [.data], laidTests := true, laidLooks := .later }
def CardTakesCardSaid : Prop := Claim7.holds Tryd.pinned (.plain (OpenSpec.ofChange cardTakesSpec)) cardTakesCard

/-- THE TIED CARD OF 'gleaninglaw07.CardNear'. -/
def cardNearCard : Claim7 := { stood := { row := cardNearRow, standIns := [], harness := (true, "7a314cb4cf25a9b05f5bff8257dd108c524ef5aa1769ffff5b91f6e8a4848ddb"), looks := false }, kinds := [], alts := [], laidByText := true, laidKinds := [.data], laidTests := true, laidLooks := .later }
def CardNearCardSaid : Prop := Claim7.holds Tryd.pinned (.plain (OpenSpec.ofChange cardNearSpec)) cardNearCard

/-- THE TIED CARD OF 'gleaninglaw07.CardNil'. -/
def cardNilCard : Claim7 := { stood := { row := cardNilRow, standIns := [], harness := (true, "7a314cb4cf25a9b05f5bff8257dd108c524ef5aa1769ffff5b91f6e8a4848ddb"), looks := false }, kinds := [], alts := [], laidByText := true, laidKinds := [.data], laidTests := true, laidLooks := .later }
def CardNilCardSaid : Prop := Claim7.holds Tryd.pinned (.plain (OpenSpec.ofChange cardNilSpec)) cardNilCard

/-- THE TIED CARD OF 'gleaninglaw07.CardOnce'. -/
def cardOnceCard : Claim7 := { stood := { row := cardOnceRow, standIns := [], harness := (true, "7a314cb4cf25a9b05f5bff8257dd108c524ef5aa1769ffff5b91f6e8a4848ddb"), looks := false }, kinds := [], alts := [], laidByText := true, laidKinds := [.data], laidTests := true, laidLooks := .later }
def CardOnceCardSaid : Prop := Claim7.holds Tryd.pinned (.plain (OpenSpec.ofChange cardOnceSpec)) cardOnceCard

/-- THE TIED CARD OF 'gleaninglaw07.CardWhole'. -/
def cardWholeCard : Claim7 := { stood := { row := cardWholeRow, standIns := [], harness := (true, "7a314cb4cf25a9b05f5bff8257dd108c524ef5aa1769ffff5b91f6e8a4848ddb"), looks := false }, kinds := [], alts := [], laidByText := true, laidKinds := [.data], laidTests := true, laidLooks := .later }
def CardWholeCardSaid : Prop := Claim7.holds Tryd.pinned (.plain (OpenSpec.ofChange cardWholeSpec)) cardWholeCard

/-- THE SECOND FORM's CARD OF 'gleaninglaw07.CardPlays'. -/
def cardPlaysUptoCard : Claim7 := { stood := { row := cardPlaysUptoRow, standIns := [], harness := (true, "7a314cb4cf25a9b05f5bff8257dd108c524ef5aa1769ffff5b91f6e8a4848ddb"), looks := false }, kinds := [], alts := [], laidByText := true, laidKinds := [.data], laidTests := true, laidLooks := .later }
def CardPlaysUptoCardSaid : Prop := Claim7.holds Tryd.pinned (.plain (OpenSpec.upto cardPlaysSpec)) cardPlaysUptoCard

/-- THE SECOND FORM's CARD OF 'gleaninglaw07.CardTakes'. -/
def cardTakesUptoCard : Claim7 := { stood := { row := cardTakesUptoRow, standIns := [], harness := (true, "7a314cb4cf25a9b05f5bff8257dd108c524ef5aa1769ffff5b91f6e8a4848ddb"), looks := false }, kinds := [], alts := [], laidByText := true, laidKinds := [.data], laidTests := true, laidLooks := .later }
def CardTakesUptoCardSaid : Prop := Claim7.holds Tryd.pinned (.plain (OpenSpec.upto cardTakesSpec)) cardTakesUptoCard

/-- THE SECOND FORM's CARD OF 'gleaninglaw07.CardNear'. -/
def cardNearUptoCard : Claim7 := { stood := { row := cardNearUptoRow, standIns := [], harness := (true, "7a314cb4cf25a9b05f5bff8257dd108c524ef5aa1769ffff5b91f6e8a4848ddb"), looks := false }, kinds := [], alts := [], laidByText := true, laidKinds := [.data], laidTests := true, laidLooks := .later }
def CardNearUptoCardSaid : Prop := Claim7.holds Tryd.pinned (.plain (OpenSpec.upto cardNearSpec)) cardNearUptoCard

/-- THE SECOND FORM's CARD OF 'gleaninglaw07.CardNil'. -/
def cardNilUptoCard : Claim7 := { stood := { row := cardNilUptoRow, standIns := [], harness := (true, "7a314cb4cf25a9b05f5bff8257dd108c524ef5aa1769ffff5b91f6e8a4848ddb"), looks := false }, kinds := [], alts := [], laidByText := true, laidKinds := [.data], laidTests := true, laidLooks := .later }
def CardNilUptoCardSaid : Prop := Claim7.holds Tryd.pinned (.plain (OpenSpec.upto cardNilSpec)) cardNilUptoCard

/-- THE SECOND FORM's CARD OF 'gleaninglaw07.CardOnce'. -/
def cardOnceUptoCard : Claim7 := { stood := { row := cardOnceUptoRow, standIns := [], harness := (true, "7a314cb4cf25a9b05f5bff8257dd108c524ef5aa1769ffff5b91f6e8a4848ddb"), looks := false }, kinds := [], alts := [], laidByText := true, laidKinds := [.data], laidTests := true, laidLooks := .later }
def CardOnceUptoCardSaid : Prop := Claim7.holds Tryd.pinned (.plain (OpenSpec.upto cardOnceSpec)) cardOnceUptoCard

/-- THE SECOND FORM's CARD OF 'gleaninglaw07.CardWhole'. -/
def cardWholeUptoCard : Claim7 := { stood := { row := cardWholeUptoRow, standIns := [], harness := (true, "7a314cb4cf25a9b05f5bff8257dd108c524ef5aa1769ffff5b91f6e8a4848ddb"), looks := false }, kinds := [], alts := [], laidByText := true, laidKinds := [.data], laidTests := true, laidLooks := .later }
def CardWholeUptoCardSaid : Prop := Claim7.holds Tryd.pinned (.plain (OpenSpec.upto cardWholeSpec)) cardWholeUptoCard
end Rows
end Go.Proofs.YtbigdgabjjpffaaDoor

/-
  DERIVED. GIVEN WITH THE SEED: THE CARDS: each row of YtobecefikkgelaaDoorRows.lean that lists a variable, with what it lists TIED to the program's text (the seventh form; the later family's looks); each row that meets fmt, with fmt's text TOLD by the authors' own Lean function (tested against real Go, not proved from fmt's source: count such statements apart). THE CARD IS WHAT COUNTS. Prove the row's statement (the work); the ties are given (YtobecefikkgelaaDoorTie.lean); close each card by the builder's one call (the guide's Derived/Test/ToyasCard.lean, 'card_holds'). Laid BY PROGRAM, IN A SANDBOX (cutbox-door.mjs). By AI agents, Wed Nov 11 2026. No macro, syntax, notation, axiom, sorry.
-/
import Derived.Test.YtobecefikkgelaaDoorRows
import GoSem.ClaimSeven
namespace Go.Proofs.YtobecefikkgelaaDoor
namespace Rows

/-- THE TIED CARD OF 'gleaninglaw03.BitsPlay'. -/
def bitsPlayCard : Claim7 := { stood := { row := bitsPlayRow, standIns := [], harness := (true, "84448d5dfe3dcd009808fd87e234ffd57ec4c378e16464e418966190ef57b83d"), looks := false }, kinds := [], alts := [], laidByText := true, laidKinds := [.data], laidTests := true, laidLooks := .later }
def BitsPlayCardSaid : Prop := Claim7.holds Tryd.pinned (.plain (OpenSpec.ofChange bitsPlaySpec)) bitsPlayCard

/-- THE TIED CARD OF 'gleaninglaw03.BitsWalk'. -/
def bitsWalkCard : Claim7 := { stood := { row := bitsWalkRow, standIns := [], harness := (true, "84448d5dfe3dcd009808fd87e234ffd57ec4c378e16464e418966190ef57b83d"), looks := false }, kinds := [], alts := [], laidByText := true, laidKinds := [.data], laidTests := true, laidLooks := .later }
def BitsWalkCardSaid : Prop := Claim7.holds Tryd.pinned (.plain (OpenSpec.ofChange bitsWalkSpec)) bitsWalkCard

/-- THE TIED CARD OF 'gleaninglaw03.BitsBack'. -/
def bitsBackCard : Claim7 := { stood := { row := bitsBackRow, standIns := [], harness := (true, "84448d5dfe3dcd009808fd87e234ffd57ec4c378e16464e418966190ef57b83d"), looks := false }, kinds := [], alts := [], laidByText := true, laidKinds := [.data], laidTests := true, laidLooks := .later }
def BitsBackCardSaid : Prop := Claim7.holds Tryd.pinned (.plain (OpenSpec.ofChange bitsBackSpec)) bitsBackCard

/-- THE TIED CARD OF 'gleaninglaw03.BitsNil'. -/
def bitsNilCard : Claim7 := { stood := { row := bitsNilRow, standIns := [], harness := (true, "84448d5dfe3dcd009808fd87e234ffd57ec4c378e16464e418966190ef57b83d"), looks := false }, kinds := [], alts := [], laidByText := true, laidKinds := [.data], laidTests := true, laidLooks := .later }
def BitsNilCardSaid : Prop := Claim7.holds Tryd.pinned (.plain (OpenSpec.ofChange bitsNilSpec)) bitsNilCard

/-- THE TIED CARD OF 'gleaninglaw03.BitsSome'. -/
def bitsSomeCard : Claim7 := { stood := { row := bitsSomeRow, standIns := [], harness := (true, "84448d5dfe3dcd009808fd87e234ffd57ec4c378e16464e418966190ef57b83d"), looks := false }, kinds := [], alts := [], laidByText := true, laidKinds := [.data], laidTests := true, laidLooks := .later }
def BitsSomeCardSaid : Prop := Claim7.holds Tryd.pinned (.plain (OpenSpec.ofChange bitsSomeSpec)) bitsSomeCard

/-- THE TIED CARD OF 'gleaninglaw03.BitsEdges'. -/
def bitsEdgesCard : Claim7 := { stood := { row := bitsEdgesRow, standIns := [], harness := (true, "84448d5dfe3dcd009808fd87e234ffd57ec4c378e16464e418966190ef57b83d"), looks := false }, kinds := [], alts := [], laidByText := true, laidKinds := [.data], laidTests := true, laidLooks := .later }
def BitsEdgesCardSaid : Prop := Claim7.holds Tryd.pinned (.plain (OpenSpec.ofChange bitsEdgesSpec)) bitsEdgesCard

/-- THE SECOND FORM's CARD OF 'gleaninglaw03.BitsPlay'. -/
def bitsPlayUptoCard : Claim7 := { stood := { row := bitsPlayUptoRow, standIns := [], harness := (true, "84448d5dfe3dcd009808fd87e234ffd57ec4c378e16464e418966190ef57b83d"), looks := false }, kinds := [], alts := [], laidByText := true, laidKinds := [.data], laidTests := true, laidLooks := .later }
def BitsPlayUptoCardSaid : Prop := Claim7.holds Tryd.pinned (.plain (OpenSpec.upto bitsPlaySpec)) bitsPlayUptoCard

/-- THE SECOND FORM's CARD OF 'gleaninglaw03.BitsWalk'. -/
def bitsWalkUptoCard : Claim7 := { stood := { row := bitsWalkUptoRow, standIns := [], harness := (true, "84448d5dfe3dcd009808fd87e234ffd57ec4c378e16464e418966190ef57b83d"), looks := false }, kinds := [], alts := [], laidByText := true, laidKinds := [.data], laidTests := true, laidLooks := .later }
def BitsWalkUptoCardSaid : Prop := Claim7.holds Tryd.pinned (.plain (OpenSpec.upto bitsWalkSpec)) bitsWalkUptoCard

/-- THE SECOND FORM's CARD OF 'gleaninglaw03.BitsBack'. -/
def bitsBackUptoCard : Claim7 := { stood := { row := bitsBackUptoRow, standIns := [], harness := (true, "84448d5dfe3dcd009808fd87e234ffd57ec4c378e16464e418966190ef57b83d"), looks := false }, kinds := [], alts := [], laidByText := true, laidKinds := [.data], laidTests := true, laidLooks := .later }
def BitsBackUptoCardSaid : Prop := Claim7.holds Tryd.pinned (.plain (OpenSpec.upto bitsBackSpec)) bitsBackUptoCard

/-- THE SECOND FORM's CARD OF 'gleaninglaw03.BitsNil'. -/
def bitsNilUptoCard : Claim7 := { stood := { row := bitsNilUptoRow, standIns := [], harness := (true, "84448d5dfe3dcd009808fd87e234ffd57ec4c378e16464e418966190ef57b83d"), looks := false }, kinds := [], alts := [], laidByText := true, laidKinds := [.data], laidTests := true, laidLooks := .later }
def BitsNilUptoCardSaid : Prop := Claim7.holds Tryd.pinned (.plain (OpenSpec.upto bitsNilSpec)) bitsNilUptoCard

/-- THE SECOND FORM's CARD OF 'gleaninglaw03.BitsSome'. -/
def bitsSomeUptoCard : Claim7 := { stood := { row := bitsSomeUptoRow, standIns := [], harness := (true, "84448d5dfe3dcd009808fd87e234ffd57ec4c378e16464e418966190ef57b83d"), looks := false }, kinds := [], alts := [], laidByText := true, laidKinds := [.data], laidTests := true, laidLooks := .later }
def BitsSomeUptoCardSaid : Prop := Claim7.holds Tryd.pinned (.plain (OpenSpec.upto bitsSomeSpec)) bitsSomeUptoCard

/-- THE SECOND FORM's CARD OF 'gleaninglaw03.BitsEdges'. -/
def bitsEdgesUptoCard : Claim7 := { stood := { row := bitsEdgesUptoRow, standIns := [], harness := (true, "84448d5dfe3dcd009808fd87e234ffd57ec4c378e16464e418966190ef57b83d"), looks := false }, kinds := [], alts := [], laidByText := true, laidKinds := [.data], laidTests := true, laidLooks := .later }
def BitsEdgesUptoCardSaid : Prop := Claim7.holds Tryd.pinned (.plain (OpenSpec.upto bitsEdgesSpec)) bitsEdgesUptoCard
end Rows
end Go.Proofs.YtobecefikkgelaaDoor

/-
  DERIVED. GIVEN WITH THE SEED: THE CARDS: each row of YtaddomgjjemglaaDoorRows.lean that lists a variable, with what it lists TIED to the program's text (the seventh form; the later family's looks); each row that meets fmt, with fmt's text TOLD by the authors' own Lean function (tested against real Go, not proved from fmt's source: count such statements apart). THE CARD IS WHAT COUNTS. Prove the row's statement (the work); the ties are given (YtaddomgjjemglaaDoorTie.lean); close each card by the builder's one call (the guide's Derived/Test/ToyasCard.lean, 'card_holds'). Laid BY PROGRAM, IN A SANDBOX (cutbox-door.mjs). By AI agents, Wed Nov 11 2026. No macro, syntax, notation, axiom, sorry.
-/
import Derived.Test.YtaddomgjjemglaaDoorRows
import GoSem.ClaimSeven
namespace Go.Proofs.YtaddomgjjemglaaDoor
namespace Rows

/-- THE TIED CARD OF 'gleaninglaw14.MarkReaches'. -/
def markReachesCard : Claim7 := { stood := { row := markReachesRow, standIns := [], harness := (true, "6b53ab148795a3579787704cab18abbaeb1885e0d76e2299626956b8b42bebf6"), looks := false }, kinds := [], alts := [], laidByText := true, laidKinds := [.data], laidTests := true, laidLooks := .later }
def MarkReachesCardSaid : Prop := Claim7.holds Tryd.pinned (.plain (OpenSpec.ofChange markReachesSpec)) markReachesCard

/-- THE TIED CARD OF 'gleaninglaw14.MarkOrder'. -/
def markOrderCard : Claim7 := { stood := { row := markOrderRow, standIns := [], harness := (true, "6b53ab148795a3579787704cab18abbaeb1885e0d76e2299626956b8b42bebf6"), looks := false }, kinds := [], alts := [], laidByText := true, laidKinds := [.data], laidTests := true, laidLooks := .later }
def MarkOrderCardSaid : Prop := Claim7.holds Tryd.pinned (.plain (OpenSpec.ofChange markOrderSpec)) markOrderCard

/-- THE TIED CARD OF 'gleaninglaw14.MarkGrows'. -/
def markGrowsCard : Claim7 := { stood := { row := markGrowsRow, standIns := [], harness := (true, "6b53ab148795a3579787704cab18abbaeb1885e0d76e2299626956b8b42bebf6"), looks := false }, kinds := [], alts := [], laidByText := true, laidKinds := [.data], laidTests := true, laidLooks := .later }
def MarkGrowsCardSaid : Prop := Claim7.holds Tryd.pinned (.plain (OpenSpec.ofChange markGrowsSpec)) markGrowsCard

/-- THE TIED CARD OF 'gleaninglaw14.MarkAsks'. -/
def markAsksCard : Claim7 := { stood := { row := markAsksRow, standIns := [], harness := (true, "6b53ab148795a3579787704cab18abbaeb1885e0d76e2299626956b8b42bebf6"), looks := false }, kinds := [], alts := [], laidByText := true, laidKinds := [.data], laidTests := true, laidLooks := .later }
def MarkAsksCardSaid : Prop := Claim7.holds Tryd.pinned (.plain (OpenSpec.ofChange markAsksSpec)) markAsksCard

/-- THE TIED CARD OF 'gleaninglaw14.MarkChain'. -/
def markChainCard : Claim7 := { stood := { row := markChainRow, standIns := [], harness := (true, "6b53ab148795a3579787704cab18abbaeb1885e0d76e2299626956b8b42bebf6"), looks := false }, kinds := [], alts := [], laidByText := true, laidKinds := [.data], laidTests := true, laidLooks := .later }
def MarkChainCardSaid : Prop := Claim7.holds Tryd.pinned (.plain (OpenSpec.ofChange markChainSpec)) markChainCard

/-- THE TIED CARD OF 'gleaninglaw14.MarkOdd'. -/
def markOddCard : Claim7 := { stood := { row := markOddRow, standIns := [], harness := (true, "6b53ab148795a3579787704cab18abbaeb1885e0d76e2299626956b8b42bebf6"), looks := false }, kinds := [], alts := [], laidByText := true, laidKinds := [.data], laidTests := true, laidLooks := .later }
def MarkOddCardSaid : Prop := Claim7.holds Tryd.pinned (.plain (OpenSpec.ofChange markOddSpec)) markOddCard

/-- THE TIED CARD OF 'gleaninglaw14.MarkRings'. -/
def markRingsCard : Claim7 := { stood := { row := markRingsRow, standIns := [], harness := (true, "6b53ab148795a3579787704cab18abbaeb1885e0d76e2299626956b8b42bebf6"), looks := false }, kinds := [], alts := [], laidByText := true, laidKinds := [.data], laidTests := true, laidLooks := .later }
def MarkRingsCardSaid : Prop := Claim7.holds Tryd.pinned (.plain (OpenSpec.ofChange markRingsSpec)) markRingsCard

/-- THE SECOND FORM's CARD OF 'gleaninglaw14.MarkReaches'. -/
def markReachesUptoCard : Claim7 := { stood := { row := markReachesUptoRow, standIns := [], harness := (true, "6b53ab148795a3579787704cab18abbaeb1885e0d76e2299626956b8b42bebf6"), looks := false }, kinds := [], alts := [], laidByText := true, laidKinds := [.data], laidTests := true, laidLooks := .later }
def MarkReachesUptoCardSaid : Prop := Claim7.holds Tryd.pinned (.plain (OpenSpec.upto markReachesSpec)) markReachesUptoCard

/-- THE SECOND FORM's CARD OF 'gleaninglaw14.MarkOrder'. -/
def markOrderUptoCard : Claim7 := { stood := { row := markOrderUptoRow, standIns := [], harness := (true, "6b53ab148795a3579787704cab18abbaeb1885e0d76e2299626956b8b42bebf6"), looks := false }, kinds := [], alts := [], laidByText := true, laidKinds := [.data], laidTests := true, laidLooks := .later }
def MarkOrderUptoCardSaid : Prop := Claim7.holds Tryd.pinned (.plain (OpenSpec.upto markOrderSpec)) markOrderUptoCard

/-- THE SECOND FORM's CARD OF 'gleaninglaw14.MarkGrows'. -/
def markGrowsUptoCard : Claim7 := { stood := { row := markGrowsUptoRow, standIns := [], harness := (true, "6b53ab148795a3579787704cab18abbaeb1885e0d76e2299626956b8b42bebf6"), looks := false }, kinds := [], alts := [], laidByText := true, laidKinds := [.data], laidTests := true, laidLooks := .later }
def MarkGrowsUptoCardSaid : Prop := Claim7.holds Tryd.pinned (.plain (OpenSpec.upto markGrowsSpec)) markGrowsUptoCard

/-- THE SECOND FORM's CARD OF 'gleaninglaw14.MarkAsks'. -/
def markAsksUptoCard : Claim7 := { stood := { row := markAsksUptoRow, standIns := [], harness := (true, "6b53ab148795a3579787704cab18abbaeb1885e0d76e2299626956b8b42bebf6"), looks := false }, kinds := [], alts := [], laidByText := true, laidKinds := [.data], laidTests := true, laidLooks := .later }
def MarkAsksUptoCardSaid : Prop := Claim7.holds Tryd.pinned (.plain (OpenSpec.upto markAsksSpec)) markAsksUptoCard

/-- THE SECOND FORM's CARD OF 'gleaninglaw14.MarkChain'. -/
def markChainUptoCard : Claim7 := { stood := { row := markChainUptoRow, standIns := [], harness := (true, "6b53ab148795a3579787704cab18abbaeb1885e0d76e2299626956b8b42bebf6"), looks := false }, kinds := [], alts := [], laidByText := true, laidKinds := [.data], laidTests := true, laidLooks := .later }
def MarkChainUptoCardSaid : Prop := Claim7.holds Tryd.pinned (.plain (OpenSpec.upto markChainSpec)) markChainUptoCard

/-- THE SECOND FORM's CARD OF 'gleaninglaw14.MarkOdd'. -/
def markOddUptoCard : Claim7 := { stood := { row := markOddUptoRow, standIns := [], harness := (true, "6b53ab148795a3579787704cab18abbaeb1885e0d76e2299626956b8b42bebf6"), looks := false }, kinds := [], alts := [], laidByText := true, laidKinds := [.data], laidTests := true, laidLooks := .later }
def MarkOddUptoCardSaid : Prop := Claim7.holds Tryd.pinned (.plain (OpenSpec.upto markOddSpec)) markOddUptoCard

/-- THE SECOND FORM's CARD OF 'gleaninglaw14.MarkRings'. -/
def markRingsUptoCard : Claim7 := { stood := { row := markRingsUptoRow, standIns := [], harness := (true, "6b53ab148795a3579787704cab18abbaeb1885e0d76e2299626956b8b42bebf6"), looks := false }, kinds := [], alts := [], laidByText := true, laidKinds := [.data], laidTests := true, laidLooks := .later }
def MarkRingsUptoCardSaid : Prop := Claim7.holds Tryd.pinned (.plain (OpenSpec.upto markRingsSpec)) markRingsUptoCard
end Rows
end Go.Proofs.YtaddomgjjemglaaDoor

/-
  DERIVED. GIVEN WITH THE SEED: THE CARDS: each row of YtogfjclmohpjkaaGreatDoorRows.lean that lists a variable, with what it lists TIED to the program's text (the seventh form; the later family's looks); each row that meets fmt, with fmt's text TOLD by the authors' own Lean function (tested against real Go, not proved from fmt's source: count such statements apart). THE CARD IS WHAT COUNTS. Prove the row's statement (the work); the ties are given (YtogfjclmohpjkaaGreatDoorTie.lean); close each card by the builder's one call (the guide's Derived/Test/ToyasCard.lean, 'card_holds'). Laid BY PROGRAM, IN A SANDBOX (cutbox-door.mjs). By AI agents, Wed Nov 11 2026. No macro, syntax, notation, axiom, sorry.
-/
import Derived.Test.YtogfjclmohpjkaaGreatDoorRows
import GoSem.ClaimSeven
namespace Go.Proofs.YtogfjclmohpjkaaGreatDoor
namespace Rows

/-- THE TIED CARD OF 'gleaninglaw15.ScavengeCards'. -/
def scavengeCardsCard : Claim7 := { stood := { row := scavengeCardsRow, standIns := [], harness := (true, "33cbe16548ddd8f596f0dc0241fd21fe9c2f85d3148831a0bc367307d91a4b27"), looks := false }, kinds := [], alts := [], laidByText := true, laidKinds := [.data], laidTests := true, laidLooks := .later }
def ScavengeCardsCardSaid : Prop := Claim7.holds Tryz.pinned (.plain (OpenSpec.ofChange scavengeCardsSpec)) scavengeCardsCard

/-- THE TIED CARD OF 'gleaninglaw15.ScavengeAges'. -/
def scavengeAgesCard : Claim7 := { stood := { row := scavengeAgesRow, standIns := [], harness := (true, "33cbe16548ddd8f596f0dc0241fd21fe9c2f85d3148831a0bc367307d91a4b27"), looks := false }, kinds := [], alts := [], laidByText := true, laidKinds := [.data], laidTests := true, laidLooks := .later }
def ScavengeAgesCardSaid : Prop := Claim7.holds Tryz.pinned (.plain (OpenSpec.ofChange scavengeAgesSpec)) scavengeAgesCard

/-- THE TIED CARD OF 'gleaninglaw15.ScavengeRefuses'. -/
def scavengeRefusesCard : Claim7 := { stood := { row := scavengeRefusesRow, standIns := [], harness := (true, "33cbe16548ddd8f596f0dc0241fd21fe9c2f85d3148831a0bc367307d91a4b27"), looks := false }, kinds := [], alts := [], laidByText := true, laidKinds := [.data], laidTests := true, laidLooks := .later }
def ScavengeRefusesCardSaid : Prop := Claim7.holds Tryz.pinned (.plain (OpenSpec.ofChange scavengeRefusesSpec)) scavengeRefusesCard

/-- THE TIED CARD OF 'gleaninglaw15.ScavengeTenures'. -/
def scavengeTenuresCard : Claim7 := { stood := { row := scavengeTenuresRow, standIns := [], harness := (true, "33cbe16548ddd8f596f0dc0241fd21fe9c2f85d3148831a0bc367307d91a4b27"), looks := false }, kinds := [], alts := [], laidByText := true, laidKinds := [.data], laidTests := true, laidLooks := .later }
def ScavengeTenuresCardSaid : Prop := Claim7.holds Tryz.pinned (.plain (OpenSpec.ofChange scavengeTenuresSpec)) scavengeTenuresCard

/-- THE SECOND FORM's CARD OF 'gleaninglaw15.ScavengeCards'. -/
def scavengeCardsUptoCard : Claim7 := { stood := { row := scavengeCardsUptoRow, standIns := [], harness := (true, "33cbe16548ddd8f596f0dc0241fd21fe9c2f85d3148831a0bc367307d91a4b27"), looks := false }, kinds := [], alts := [], laidByText := true, laidKinds := [.data], laidTests := true, laidLooks := .later }
def ScavengeCardsUptoCardSaid : Prop := Claim7.holds Tryz.pinned (.plain (OpenSpec.upto scavengeCardsSpec)) scavengeCardsUptoCard

/-- THE SECOND FORM's CARD OF 'gleaninglaw15.ScavengeAges'. -/
def scavengeAgesUptoCard : Claim7 := { stood := { row := scavengeAgesUptoRow, standIns := [], harness := (true, "33cbe16548ddd8f596f0dc0241fd21fe9c2f85d3148831a0bc367307d91a4b27"), looks := false }, kinds := [], alts := [], laidByText := true, laidKinds := [.data], laidTests := true, laidLooks := .later }
def ScavengeAgesUptoCardSaid : Prop := Claim7.holds Tryz.pinned (.plain (OpenSpec.upto scavengeAgesSpec)) scavengeAgesUptoCard

/-- THE SECOND FORM's CARD OF 'gleaninglaw15.ScavengeRefuses'. -/
def scavengeRefusesUptoCard : Claim7 := { stood := { row := scavengeRefusesUptoRow, standIns := [], harness := (true, "33cbe16548ddd8f596f0dc0241fd21fe9c2f85d3148831a0bc367307d91a4b27"), looks := false }, kinds := [], alts := [], laidByText := true, laidKinds := [.data], laidTests := true, laidLooks := .later }
def ScavengeRefusesUptoCardSaid : Prop := Claim7.holds Tryz.pinned (.plain (OpenSpec.upto scavengeRefusesSpec)) scavengeRefusesUptoCard

/-- THE SECOND FORM's CARD OF 'gleaninglaw15.ScavengeTenures'. -/
def scavengeTenuresUptoCard : Claim7 := { stood := { row := scavengeTenuresUptoRow, standIns := [], harness := (true, "33cbe16548ddd8f596f0dc0241fd21fe9c2f85d3148831a0bc367307d91a4b27"), looks := false }, kinds := [], alts := [], laidByText := true, laidKinds := [.data], laidTests := true, laidLooks := .later }
def ScavengeTenuresUptoCardSaid : Prop := Claim7.holds Tryz.pinned (.plain (OpenSpec.upto scavengeTenuresSpec)) scavengeTenuresUptoCard
end Rows
end Go.Proofs.YtogfjclmohpjkaaGreatDoor

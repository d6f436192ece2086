/-
  DERIVED. GIVEN WITH THE SEED: THE CARDS: each row of YthiijnanfiddpaaDoorRows.lean that lists a variable, with what it lists TIED to the program's text (the seventh form; the later family's looks); each row that meets fmt, with fmt's text TOLD by the authors' own Lean function (tested against real Go, not proved from fmt's source: count such statements apart). THE CARD IS WHAT COUNTS. Prove the row's statement (the work); the ties are given (YthiijnanfiddpaaDoorTie.lean); close each card by the builder's one call (the guide's Derived/Test/ToyasCard.lean, 'card_holds'). Laid BY PROGRAM, IN A SANDBOX (cutbox-door.mjs). By AI agents, Wed Nov 11 2026. No macro, syntax, notation, axiom, sorry.
-/
import Derived.Test.YthiijnanfiddpaaDoorRows
import GoSem.ClaimSeven
namespace Go.Proofs.YthiijnanfiddpaaDoor
namespace Rows

/-- THE TIED CARD OF 'tumuluslaw04.BuddyChecks'. -/
def buddyChecksCard : Claim7 := { stood := { row := buddyChecksRow, standIns := [], harness := (true, "46f3c7e118a627441483ade5f14a9e23d16e0f5882ff09ddc7c40db74b1df8bc"), looks := true }, kinds := [], alts := [], laidByText := true, laidKinds := [.data], laidTests := true, laidLooks := .later }
def BuddyChecksCardSaid : Prop := Claim7.holds Tryd.pinned (.plain (OpenSpec.ofChange buddyChecksSpec)) buddyChecksCard

/-- THE TIED CARD OF 'tumuluslaw04.BuddyTakes'. -/
def buddyTakesCard : Claim7 := { stood := { row := buddyTakesRow, standIns := [], harness := (true, "46f3c7e118a627441483ade5f14a9e23d16e0f5882ff09ddc7c40db74b1df8bc"), looks := true }, kinds := [], alts := [], laidByText := true, laidKinds := [.data], laidTests := true, laidLooks := .later }
def BuddyTakesCardSaid : Prop := Claim7.holds Tryd.pinned (.plain (OpenSpec.ofChange buddyTakesSpec)) buddyTakesCard

/-- THE TIED CARD OF 'tumuluslaw04.BuddyGives'. -/
def buddyGivesCard : Claim7 := { stood := { row := buddyGivesRow, standIns := [], harness := (true, "46f3c7e118a627441483ade5f14a9e23d16e0f5882ff09ddc7c40db74b1df8bc"), looks := true }, kinds := [], alts := [], laidByText := true, laidKinds := [.data], laidTests := true, laidLooks := .later }
def BuddyGivesCardSaid : Prop := Claim7.holds Tryd.pinned (.plain (OpenSpec.ofChange buddyGivesSpec)) buddyGivesCard

/-- THE TIED CARD OF 'tumuluslaw04.BuddyBack'. -/
def buddyBackCard : Claim7 := { stood := { row := buddyBackRow, standIns := [], harness := (true, "46f3c7e118a627441483ade5f14a9e23d16e0f5882ff09ddc7c40db74b1df8bc"), looks := true }, kinds := [], alts := [], laidByText := true, laidKinds := [.data], laidTests := true, laidLooks := .later }
def BuddyBackCardSaid : Prop := Claim7.holds Tryd.pinned (.plain (OpenSpec.ofChange buddyBackSpec)) buddyBackCard

/-- THE TIED CARD OF 'tumuluslaw04.BuddyTwo'. -/
def buddyTwoCard : Claim7 := { stood := { row := buddyTwoRow, standIns := [], harness := (true, "46f3c7e118a627441483ade5f14a9e23d16e0f5882ff09ddc7c40db74b1df8bc"), looks := true }, kinds := [], alts := [], laidByText := true, laidKinds := [.data], laidTests := true, laidLooks := .later }
def BuddyTwoCardSaid : Prop := Claim7.holds Tryd.pinned (.plain (OpenSpec.ofChange buddyTwoSpec)) buddyTwoCard

/-- THE TIED CARD OF 'tumuluslaw04.BuddyMaps'. -/
def buddyMapsCard : Claim7 := { stood := { row := buddyMapsRow, standIns := [], harness := (true, "46f3c7e118a627441483ade5f14a9e23d16e0f5882ff09ddc7c40db74b1df8bc"), looks := true }, kinds := [], alts := [], laidByText := true, laidKinds := [.data], laidTests := true, laidLooks := .later }
def BuddyMapsCardSaid : Prop := Claim7.holds Tryd.pinned (.plain (OpenSpec.ofChange buddyMapsSpec)) buddyMapsCard

/-- THE TIED CARD OF 'tumuluslaw04.BuddyFills'. -/
def buddyFillsCard : Claim7 := { stood := { row := buddyFillsRow, standIns := [], harness := (true, "46f3c7e118a627441483ade5f14a9e23d16e0f5882ff09ddc7c40db74b1df8bc"), looks := true }, kinds := [], alts := [], laidByText := true, laidKinds := [.data], laidTests := true, laidLooks := .later }
def BuddyFillsCardSaid : Prop := Claim7.holds Tryd.pinned (.plain (OpenSpec.ofChange buddyFillsSpec)) buddyFillsCard

/-- THE SECOND FORM's CARD OF 'tumuluslaw04.BuddyChecks'. -/
def buddyChecksUptoCard : Claim7 := { stood := { row := buddyChecksUptoRow, standIns := [], harness := (true, "46f3c7e118a627441483ade5f14a9e23d16e0f5882ff09ddc7c40db74b1df8bc"), looks := true }, kinds := [], alts := [], laidByText := true, laidKinds := [.data], laidTests := true, laidLooks := .later }
def BuddyChecksUptoCardSaid : Prop := Claim7.holds Tryd.pinned (.plain (OpenSpec.upto buddyChecksSpec)) buddyChecksUptoCard

/-- THE SECOND FORM's CARD OF 'tumuluslaw04.BuddyTakes'. -/
def buddyTakesUptoCard : Claim7 := { stood := { row := buddyTakesUptoRow, standIns := [], harness := (true, "46f3c7e118a627441483ade5f14a9e23d16e0f5882ff09ddc7c40db74b1df8bc"), looks := true }, kinds := [], alts := [], laidByText := true, laidKinds := [.data], laidTests := true, laidLooks := .later }
def BuddyTakesUptoCardSaid : Prop := Claim7.holds Tryd.pinned (.plain (OpenSpec.upto buddyTakesSpec)) buddyTakesUptoCard

/-- THE SECOND FORM's CARD OF 'tumuluslaw04.BuddyGives'. -/
def buddyGivesUptoCard : Claim7 := { stood := { row := buddyGivesUptoRow, standIns := [], harness := (true, "46f3c7e118a627441483ade5f14a9e23d16e0f5882ff09ddc7c40db74b1df8bc"), looks := true }, kinds := [], alts := [], laidByText := true, laidKinds := [.data], laidTests := true, laidLooks := .later }
def BuddyGivesUptoCardSaid : Prop := Claim7.holds Tryd.pinned (.plain (OpenSpec.upto buddyGivesSpec)) buddyGivesUptoCard

/-- THE SECOND FORM's CARD OF 'tumuluslaw04.BuddyBack'. -/
def buddyBackUptoCard : Claim7 := { stood := { row := buddyBackUptoRow, standIns := [], harness := (true, "46f3c7e118a627441483ade5f14a9e23d16e0f5882ff09ddc7c40db74b1df8bc"), looks := true }, kinds := [], alts := [], laidByText := true, laidKinds := [.data], laidTests := true, laidLooks := .later }
def BuddyBackUptoCardSaid : Prop := Claim7.holds Tryd.pinned (.plain (OpenSpec.upto buddyBackSpec)) buddyBackUptoCard

/-- THE SECOND FORM's CARD OF 'tumuluslaw04.BuddyTwo'. -/
def buddyTwoUptoCard : Claim7 := { stood := { row := buddyTwoUptoRow, standIns := [], harness := (true, "46f3c7e118a627441483ade5f14a9e23d16e0f5882ff09ddc7c40db74b1df8bc"), looks := true }, kinds := [], alts := [], laidByText := true, laidKinds := [.data], laidTests := true, laidLooks := .later }
def BuddyTwoUptoCardSaid : Prop := Claim7.holds Tryd.pinned (.plain (OpenSpec.upto buddyTwoSpec)) buddyTwoUptoCard

/-- THE SECOND FORM's CARD OF 'tumuluslaw04.BuddyMaps'. -/
def buddyMapsUptoCard : Claim7 := { stood := { row := buddyMapsUptoRow, standIns := [], harness := (true, "46f3c7e118a627441483ade5f14a9e23d16e0f5882ff09ddc7c40db74b1df8bc"), looks := true }, kinds := [], alts := [], laidByText := true, laidKinds := [.data], laidTests := true, laidLooks := .later }
def BuddyMapsUptoCardSaid : Prop := Claim7.holds Tryd.pinned (.plain (OpenSpec.upto buddyMapsSpec)) buddyMapsUptoCard

/-- THE SECOND FORM's CARD OF 'tumuluslaw04.BuddyFills'. -/
def buddyFillsUptoCard : Claim7 := { stood := { row := buddyFillsUptoRow, standIns := [], harness := (true, "46f3c7e118a627441483ade5f14a9e23d16e0f5882ff09ddc7c40db74b1df8bc"), looks := true }, kinds := [], alts := [], laidByText := true, laidKinds := [.data], laidTests := true, laidLooks := .later }
def BuddyFillsUptoCardSaid : Prop := Claim7.holds Tryd.pinned (.plain (OpenSpec.upto buddyFillsSpec)) buddyFillsUptoCard
end Rows
end Go.Proofs.YthiijnanfiddpaaDoor

/-
  DERIVED. GIVEN WITH THE SEED: THE CARDS: each row of YtcodpnbemdflcaaGreatDoorRows.lean that lists a variable, with what it lists TIED to the program's text (the seventh form; the later family's looks); each row that meets fmt, with fmt's text TOLD by the authors' own Lean function (tested against real Go, not proved from fmt's source: count such statements apart). THE CARD IS WHAT COUNTS. Prove the row's statement (the work); the ties are given (YtcodpnbemdflcaaGreatDoorTie.lean); close each card by the builder's one call (the guide's Derived/Test/ToyasCard.lean, 'card_holds'). Laid BY PROGRAM, IN A SANDBOX (cutbox-door.mjs). By AI agents, Wed Nov 11 2026. No macro, syntax, notation, axiom, sorry.
-/
import Derived.Test.YtcodpnbemdflcaaGreatDoorRows
import GoSem.ClaimSeven
namespace Go.Proofs.YtcodpnbemdflcaaGreatDoor
namespace Rows

/-- THE TIED CARD OF 'tumulustop.TopDisk'. -/
def topDiskCard : Claim7 := { stood := { row := topDiskRow, standIns := [], harness := (true, "0490213e264f1e9677174f5e6409ae7b45259bc6af71dad0de6815518ccbdfa7"), looks := true }, kinds := [], alts := [], laidByText := true, laidKinds := [.data, .data, .pinned], laidTests := true, laidLooks := .later }
def TopDiskCardSaid : Prop := Claim7.holds Tryz.pinned (.plain (OpenSpec.ofChange topDiskSpec)) topDiskCard

/-- THE SECOND FORM's CARD OF 'tumulustop.TopDisk'. -/
def topDiskUptoCard : Claim7 := { stood := { row := topDiskUptoRow, standIns := [], harness := (true, "0490213e264f1e9677174f5e6409ae7b45259bc6af71dad0de6815518ccbdfa7"), looks := true }, kinds := [], alts := [], laidByText := true, laidKinds := [.data, .data, .pinned], laidTests := true, laidLooks := .later }
def TopDiskUptoCardSaid : Prop := Claim7.holds Tryz.pinned (.plain (OpenSpec.upto topDiskSpec)) topDiskUptoCard
end Rows
end Go.Proofs.YtcodpnbemdflcaaGreatDoor

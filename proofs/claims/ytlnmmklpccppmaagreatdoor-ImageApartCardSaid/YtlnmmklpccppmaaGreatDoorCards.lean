/-
  DERIVED. GIVEN WITH THE SEED: THE CARDS: each row of YtlnmmklpccppmaaGreatDoorRows.lean that lists a variable, with what it lists TIED to the program's text (the seventh form; the later family's looks); each row that meets fmt, with fmt's text TOLD by the authors' own Lean function (tested against real Go, not proved from fmt's source: count such statements apart). THE CARD IS WHAT COUNTS. Prove the row's statement (the work); the ties are given (YtlnmmklpccppmaaGreatDoorTie.lean); close each card by the builder's one call (the guide's Derived/Test/ToyasCard.lean, 'card_holds'). Laid BY PROGRAM, IN A SANDBOX (cutbox-door.mjs). By AI agents, Wed Nov 11 2026. No macro, syntax, notation, axiom, sorry.
-/
import Derived.Test.YtlnmmklpccppmaaGreatDoorRows
import GoSem.ClaimSeven
namespace Go.Proofs.YtlnmmklpccppmaaGreatDoor
namespace Rows

/-- THE TIED CARD OF 'tumuluslaw06.ImageHeaps'. -/
def imageHeapsCard : Claim7 := { stood := { row := imageHeapsRow, standIns := [], harness := (true, "f9ce839723b3bd5147461c8aeec68b07223c70b80d03a0c0c47ce2a89c8dd40b"), looks := true }, kinds := [], alts := [], laidByText := true, laidKinds := [.data], laidTests := true, laidLooks := .later }
def ImageHeapsCardSaid : Prop := Claim7.holds Tryz.pinned (.plain (OpenSpec.ofChange imageHeapsSpec)) imageHeapsCard

/-- THE TIED CARD OF 'tumuluslaw06.ImageStates'. -/
def imageStatesCard : Claim7 := { stood := { row := imageStatesRow, standIns := [], harness := (true, "f9ce839723b3bd5147461c8aeec68b07223c70b80d03a0c0c47ce2a89c8dd40b"), looks := true }, kinds := [], alts := [], laidByText := true, laidKinds := [.data], laidTests := true, laidLooks := .later }
def ImageStatesCardSaid : Prop := Claim7.holds Tryz.pinned (.plain (OpenSpec.ofChange imageStatesSpec)) imageStatesCard

/-- THE TIED CARD OF 'tumuluslaw06.ImageReads'. -/
def imageReadsCard : Claim7 := { stood := { row := imageReadsRow, standIns := [], harness := (true, "f9ce839723b3bd5147461c8aeec68b07223c70b80d03a0c0c47ce2a89c8dd40b"), looks := true }, kinds := [], alts := [], laidByText := true, laidKinds := [.data], laidTests := true, laidLooks := .later }
def ImageReadsCardSaid : Prop := Claim7.holds Tryz.pinned (.plain (OpenSpec.ofChange imageReadsSpec)) imageReadsCard

/-- THE TIED CARD OF 'tumuluslaw06.ImageMore'. -/
def imageMoreCard : Claim7 := { stood := { row := imageMoreRow, standIns := [], harness := (true, "f9ce839723b3bd5147461c8aeec68b07223c70b80d03a0c0c47ce2a89c8dd40b"), looks := true }, kinds := [], alts := [], laidByText := true, laidKinds := [.data], laidTests := true, laidLooks := .later }
def ImageMoreCardSaid : Prop := Claim7.holds Tryz.pinned (.plain (OpenSpec.ofChange imageMoreSpec)) imageMoreCard

/-- THE TIED CARD OF 'tumuluslaw06.ImageGoes'. -/
def imageGoesCard : Claim7 := { stood := { row := imageGoesRow, standIns := [], harness := (true, "f9ce839723b3bd5147461c8aeec68b07223c70b80d03a0c0c47ce2a89c8dd40b"), looks := true }, kinds := [], alts := [], laidByText := true, laidKinds := [.data], laidTests := true, laidLooks := .later }
def ImageGoesCardSaid : Prop := Claim7.holds Tryz.pinned (.plain (OpenSpec.ofChange imageGoesSpec)) imageGoesCard

/-- THE TIED CARD OF 'tumuluslaw06.ImageApart'. -/
def imageApartCard : Claim7 := { stood := { row := imageApartRow, standIns := [], harness := (true, "f9ce839723b3bd5147461c8aeec68b07223c70b80d03a0c0c47ce2a89c8dd40b"), looks := true }, kinds := [], alts := [], laidByText := true, laidKinds := [.data], laidTests := true, laidLooks := .later }
def ImageApartCardSaid : Prop := Claim7.holds Tryz.pinned (.plain (OpenSpec.ofChange imageApartSpec)) imageApartCard

/-- THE SECOND FORM's CARD OF 'tumuluslaw06.ImageHeaps'. -/
def imageHeapsUptoCard : Claim7 := { stood := { row := imageHeapsUptoRow, standIns := [], harness := (true, "f9ce839723b3bd5147461c8aeec68b07223c70b80d03a0c0c47ce2a89c8dd40b"), looks := true }, kinds := [], alts := [], laidByText := true, laidKinds := [.data], laidTests := true, laidLooks := .later }
def ImageHeapsUptoCardSaid : Prop := Claim7.holds Tryz.pinned (.plain (OpenSpec.upto imageHeapsSpec)) imageHeapsUptoCard

/-- THE SECOND FORM's CARD OF 'tumuluslaw06.ImageStates'. -/
def imageStatesUptoCard : Claim7 := { stood := { row := imageStatesUptoRow, standIns := [], harness := (true, "f9ce839723b3bd5147461c8aeec68b07223c70b80d03a0c0c47ce2a89c8dd40b"), looks := true }, kinds := [], alts := [], laidByText := true, laidKinds := [.data], laidTests := true, laidLooks := .later }
def ImageStatesUptoCardSaid : Prop := Claim7.holds Tryz.pinned (.plain (OpenSpec.upto imageStatesSpec)) imageStatesUptoCard

/-- THE SECOND FORM's CARD OF 'tumuluslaw06.ImageReads'. -/
def imageReadsUptoCard : Claim7 := { stood := { row := imageReadsUptoRow, standIns := [], harness := (true, "f9ce839723b3bd5147461c8aeec68b07223c70b80d03a0c0c47ce2a89c8dd40b"), looks := true }, kinds := [], alts := [], laidByText := true, laidKinds := [.data], laidTests := true, laidLooks := .later }
def ImageReadsUptoCardSaid : Prop := Claim7.holds Tryz.pinned (.plain (OpenSpec.upto imageReadsSpec)) imageReadsUptoCard

/-- THE SECOND FORM's CARD OF 'tumuluslaw06.ImageMore'. -/
def imageMoreUptoCard : Claim7 := { stood := { row := imageMoreUptoRow, standIns := [], harness := (true, "f9ce839723b3bd5147461c8aeec68b07223c70b80d03a0c0c47ce2a89c8dd40b"), looks := true }, kinds := [], alts := [], laidByText := true, laidKinds := [.data], laidTests := true, laidLooks := .later }
def ImageMoreUptoCardSaid : Prop := Claim7.holds Tryz.pinned (.plain (OpenSpec.upto imageMoreSpec)) imageMoreUptoCard

/-- THE SECOND FORM's CARD OF 'tumuluslaw06.ImageGoes'. -/
def imageGoesUptoCard : Claim7 := { stood := { row := imageGoesUptoRow, standIns := [], harness := (true, "f9ce839723b3bd5147461c8aeec68b07223c70b80d03a0c0c47ce2a89c8dd40b"), looks := true }, kinds := [], alts := [], laidByText := true, laidKinds := [.data], laidTests := true, laidLooks := .later }
def ImageGoesUptoCardSaid : Prop := Claim7.holds Tryz.pinned (.plain (OpenSpec.upto imageGoesSpec)) imageGoesUptoCard

/-- THE SECOND FORM's CARD OF 'tumuluslaw06.ImageApart'. -/
def imageApartUptoCard : Claim7 := { stood := { row := imageApartUptoRow, standIns := [], harness := (true, "f9ce839723b3bd5147461c8aeec68b07223c70b80d03a0c0c47ce2a89c8dd40b"), looks := true }, kinds := [], alts := [], laidByText := true, laidKinds := [.data], laidTests := true, laidLooks := .later }
def ImageApartUptoCardSaid : Prop := Claim7.holds Tryz.pinned (.plain (OpenSpec.upto imageApartSpec)) imageApartUptoCard
end Rows
end Go.Proofs.YtlnmmklpccppmaaGreatDoor

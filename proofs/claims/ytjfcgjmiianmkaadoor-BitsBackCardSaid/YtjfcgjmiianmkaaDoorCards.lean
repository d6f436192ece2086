/-
  DERIVED. GIVEN WITH THE SEED: THE CARDS: each row of YtjfcgjmiianmkaaDoorRows.lean that lists a variable, with what it lists TIED to the program's text (the seventh form; the later family's looks); each row that meets fmt, with fmt's text TOLD by the authors' own Lean function (tested against real Go, not proved from fmt's source: count such statements apart). THE CARD IS WHAT COUNTS. Prove the row's statement (the work); the ties are given (YtjfcgjmiianmkaaDoorTie.lean); close each card by the builder's one call (the guide's Derived/Test/ToyasCard.lean, 'card_holds'). Laid BY PROGRAM, IN A SANDBOX (cutbox-door.mjs). By AI agents, Wed Nov 11 2026. No macro, syntax, notation, axiom, sorry.
-/
import Derived.Test.YtjfcgjmiianmkaaDoorRows
import GoSem.ClaimSeven
namespace Go.Proofs.YtjfcgjmiianmkaaDoor
namespace Rows

/-- THE TIED CARD OF 'tumuluslaw03.BitsRuns'. -/
def bitsRunsCard : Claim7 := { stood := { row := bitsRunsRow, standIns := [], harness := (true, "7461575e67861ad1b5ac8549ab4a444a8f4a6fbf49c0a23488a53d499b953484"), looks := false }, kinds := [], alts := [], laidByText := true, laidKinds := [.data], laidTests := true, laidLooks := .later }
def BitsRunsCardSaid : Prop := Claim7.holds Tryd.pinned (.plain (OpenSpec.ofChange bitsRunsSpec)) bitsRunsCard

/-- THE TIED CARD OF 'tumuluslaw03.BitsReads'. -/
def bitsReadsCard : Claim7 := { stood := { row := bitsReadsRow, standIns := [], harness := (true, "7461575e67861ad1b5ac8549ab4a444a8f4a6fbf49c0a23488a53d499b953484"), looks := false }, kinds := [], alts := [], laidByText := true, laidKinds := [.data], laidTests := true, laidLooks := .later }
def BitsReadsCardSaid : Prop := Claim7.holds Tryd.pinned (.plain (OpenSpec.ofChange bitsReadsSpec)) bitsReadsCard

/-- THE TIED CARD OF 'tumuluslaw03.BitsPut'. -/
def bitsPutCard : Claim7 := { stood := { row := bitsPutRow, standIns := [], harness := (true, "7461575e67861ad1b5ac8549ab4a444a8f4a6fbf49c0a23488a53d499b953484"), looks := false }, kinds := [], alts := [], laidByText := true, laidKinds := [.data], laidTests := true, laidLooks := .later }
def BitsPutCardSaid : Prop := Claim7.holds Tryd.pinned (.plain (OpenSpec.ofChange bitsPutSpec)) bitsPutCard

/-- THE TIED CARD OF 'tumuluslaw03.BitsRun'. -/
def bitsRunCard : Claim7 := { stood := { row := bitsRunRow, standIns := [], harness := (true, "7461575e67861ad1b5ac8549ab4a444a8f4a6fbf49c0a23488a53d499b953484"), looks := false }, kinds := [], alts := [], laidByText := true, laidKinds := [.data], laidTests := true, laidLooks := .later }
def BitsRunCardSaid : Prop := Claim7.holds Tryd.pinned (.plain (OpenSpec.ofChange bitsRunSpec)) bitsRunCard

/-- THE TIED CARD OF 'tumuluslaw03.BitsNil'. -/
def bitsNilCard : Claim7 := { stood := { row := bitsNilRow, standIns := [], harness := (true, "7461575e67861ad1b5ac8549ab4a444a8f4a6fbf49c0a23488a53d499b953484"), looks := false }, kinds := [], alts := [], laidByText := true, laidKinds := [.data], laidTests := true, laidLooks := .later }
def BitsNilCardSaid : Prop := Claim7.holds Tryd.pinned (.plain (OpenSpec.ofChange bitsNilSpec)) bitsNilCard

/-- THE TIED CARD OF 'tumuluslaw03.BitsBack'. -/
def bitsBackCard : Claim7 := { stood := { row := bitsBackRow, standIns := [], harness := (true, "7461575e67861ad1b5ac8549ab4a444a8f4a6fbf49c0a23488a53d499b953484"), looks := false }, kinds := [], alts := [], laidByText := true, laidKinds := [.data], laidTests := true, laidLooks := .later }
def BitsBackCardSaid : Prop := Claim7.holds Tryd.pinned (.plain (OpenSpec.ofChange bitsBackSpec)) bitsBackCard

/-- THE TIED CARD OF 'tumuluslaw03.BitsParts'. -/
def bitsPartsCard : Claim7 := { stood := { row := bitsPartsRow, standIns := [], harness := (true, "7461575e67861ad1b5ac8549ab4a444a8f4a6fbf49c0a23488a53d499b953484"), looks := false }, kinds := [], alts := [], laidByText := true, laidKinds := [.data], laidTests := true, laidLooks := .later }
def BitsPartsCardSaid : Prop := Claim7.holds Tryd.pinned (.plain (OpenSpec.ofChange bitsPartsSpec)) bitsPartsCard

/-- THE SECOND FORM's CARD OF 'tumuluslaw03.BitsRuns'. -/
def bitsRunsUptoCard : Claim7 := { stood := { row := bitsRunsUptoRow, standIns := [], harness := (true, "7461575e67861ad1b5ac8549ab4a444a8f4a6fbf49c0a23488a53d499b953484"), looks := false }, kinds := [], alts := [], laidByText := true, laidKinds := [.data], laidTests := true, laidLooks := .later }
def BitsRunsUptoCardSaid : Prop := Claim7.holds Tryd.pinned (.plain (OpenSpec.upto bitsRunsSpec)) bitsRunsUptoCard

/-- THE SECOND FORM's CARD OF 'tumuluslaw03.BitsReads'. -/
def bitsReadsUptoCard : Claim7 := { stood := { row := bitsReadsUptoRow, standIns := [], harness := (true, "7461575e67861ad1b5ac8549ab4a444a8f4a6fbf49c0a23488a53d499b953484"), looks := false }, kinds := [], alts := [], laidByText := true, laidKinds := [.data], laidTests := true, laidLooks := .later }
def BitsReadsUptoCardSaid : Prop := Claim7.holds Tryd.pinned (.plain (OpenSpec.upto bitsReadsSpec)) bitsReadsUptoCard

/-- THE SECOND FORM's CARD OF 'tumuluslaw03.BitsPut'. -/
def bitsPutUptoCard : Claim7 := { stood := { row := bitsPutUptoRow, standIns := [], harness := (true, "7461575e67861ad1b5ac8549ab4a444a8f4a6fbf49c0a23488a53d499b953484"), looks := false }, kinds := [], alts := [], laidByText := true, laidKinds := [.data], laidTests := true, laidLooks := .later }
def BitsPutUptoCardSaid : Prop := Claim7.holds Tryd.pinned (.plain (OpenSpec.upto bitsPutSpec)) bitsPutUptoCard

/-- THE SECOND FORM's CARD OF 'tumuluslaw03.BitsRun'. -/
def bitsRunUptoCard : Claim7 := { stood := { row := bitsRunUptoRow, standIns := [], harness := (true, "7461575e67861ad1b5ac8549ab4a444a8f4a6fbf49c0a23488a53d499b953484"), looks := false }, kinds := [], alts := [], laidByText := true, laidKinds := [.data], laidTests := true, laidLooks := .later }
def BitsRunUptoCardSaid : Prop := Claim7.holds Tryd.pinned (.plain (OpenSpec.upto bitsRunSpec)) bitsRunUptoCard

/-- THE SECOND FORM's CARD OF 'tumuluslaw03.BitsNil'. -/
def bitsNilUptoCard : Claim7 := { stood := { row := bitsNilUptoRow, standIns := [], harness := (true, "7461575e67861ad1b5ac8549ab4a444a8f4a6fbf49c0a23488a53d499b953484"), looks := false }, kinds := [], alts := [], laidByText := true, laidKinds := [.data], laidTests := true, laidLooks := .later }
def BitsNilUptoCardSaid : Prop := Claim7.holds Tryd.pinned (.plain (OpenSpec.upto bitsNilSpec)) bitsNilUptoCard

/-- THE SECOND FORM's CARD OF 'tumuluslaw03.BitsBack'. -/
def bitsBackUptoCard : Claim7 := { stood := { row := bitsBackUptoRow, standIns := [], harness := (true, "7461575e67861ad1b5ac8549ab4a444a8f4a6fbf49c0a23488a53d499b953484"), looks := false }, kinds := [], alts := [], laidByText := true, laidKinds := [.data], laidTests := true, laidLooks := .later }
def BitsBackUptoCardSaid : Prop := Claim7.holds Tryd.pinned (.plain (OpenSpec.upto bitsBackSpec)) bitsBackUptoCard

/-- THE SECOND FORM's CARD OF 'tumuluslaw03.BitsParts'. -/
def bitsPartsUptoCard : Claim7 := { stood := { row := bitsPartsUptoRow, standIns := [], harness := (true, "7461575e67861ad1b5ac8549ab4a444a8f4a6fbf49c0a23488a53d499b953484"), looks := false }, kinds := [], alts := [], laidByText := true, laidKinds := [.data], laidTests := true, laidLooks := .later }
def BitsPartsUptoCardSaid : Prop := Claim7.holds Tryd.pinned (.plain (OpenSpec.upto bitsPartsSpec)) bitsPartsUptoCard
end Rows
end Go.Proofs.YtjfcgjmiianmkaaDoor

/-
  DERIVED. GIVEN WITH THE SEED: THE CARDS: each row of YtkbggbgnnllmjaaGreatDoorRows.lean that lists a variable, with what it lists TIED to the program's text (the seventh form; the later family's looks); each row that meets fmt, with fmt's text TOLD by the authors' own Lean function (tested against real Go, not proved from fmt's source: count such statements apart). THE CARD IS WHAT COUNTS. Prove the row's statement (the work); the ties are given (YtkbggbgnnllmjaaGreatDoorTie.lean); close each card by the builder's one call (the guide's Derived/Test/ToyasCard.lean, 'card_holds'). Laid BY PROGRAM, IN A SANDBOX (cutbox-door.mjs). By AI agents, Wed Nov 11 2026. No macro, syntax, notation, axiom, sorry.
-/
import Derived.Test.YtkbggbgnnllmjaaGreatDoorRows
import GoSem.ClaimSeven
namespace Go.Proofs.YtkbggbgnnllmjaaGreatDoor
namespace Rows

/-- THE TIED CARD OF 'tumuluslaw05.HeapDoes'. -/
def heapDoesCard : Claim7 := { stood := { row := heapDoesRow, standIns := [], harness := (true, "a42e4283af8bbbd15feef6c5e973572c682c2805bc59e275faa09147d67eb191"), looks := true }, kinds := [], alts := [], laidByText := true, laidKinds := [.data], laidTests := true, laidLooks := .later }
def HeapDoesCardSaid : Prop := Claim7.holds Tryz.pinned (.plain (OpenSpec.ofChange heapDoesSpec)) heapDoesCard

/-- THE TIED CARD OF 'tumuluslaw05.HeapKeeps'. -/
def heapKeepsCard : Claim7 := { stood := { row := heapKeepsRow, standIns := [], harness := (true, "a42e4283af8bbbd15feef6c5e973572c682c2805bc59e275faa09147d67eb191"), looks := true }, kinds := [], alts := [], laidByText := true, laidKinds := [.data], laidTests := true, laidLooks := .later }
def HeapKeepsCardSaid : Prop := Claim7.holds Tryz.pinned (.plain (OpenSpec.ofChange heapKeepsSpec)) heapKeepsCard

/-- THE TIED CARD OF 'tumuluslaw05.HeapWords'. -/
def heapWordsCard : Claim7 := { stood := { row := heapWordsRow, standIns := [], harness := (true, "a42e4283af8bbbd15feef6c5e973572c682c2805bc59e275faa09147d67eb191"), looks := true }, kinds := [], alts := [], laidByText := true, laidKinds := [.data], laidTests := true, laidLooks := .later }
def HeapWordsCardSaid : Prop := Claim7.holds Tryz.pinned (.plain (OpenSpec.ofChange heapWordsSpec)) heapWordsCard

/-- THE TIED CARD OF 'tumuluslaw05.HeapSpace'. -/
def heapSpaceCard : Claim7 := { stood := { row := heapSpaceRow, standIns := [], harness := (true, "a42e4283af8bbbd15feef6c5e973572c682c2805bc59e275faa09147d67eb191"), looks := true }, kinds := [], alts := [], laidByText := true, laidKinds := [.data], laidTests := true, laidLooks := .later }
def HeapSpaceCardSaid : Prop := Claim7.holds Tryz.pinned (.plain (OpenSpec.ofChange heapSpaceSpec)) heapSpaceCard

/-- THE TIED CARD OF 'tumuluslaw05.HeapFreed'. -/
def heapFreedCard : Claim7 := { stood := { row := heapFreedRow, standIns := [], harness := (true, "a42e4283af8bbbd15feef6c5e973572c682c2805bc59e275faa09147d67eb191"), looks := true }, kinds := [], alts := [], laidByText := true, laidKinds := [.data], laidTests := true, laidLooks := .later }
def HeapFreedCardSaid : Prop := Claim7.holds Tryz.pinned (.plain (OpenSpec.ofChange heapFreedSpec)) heapFreedCard

/-- THE TIED CARD OF 'tumuluslaw05.HeapFills'. -/
def heapFillsCard : Claim7 := { stood := { row := heapFillsRow, standIns := [], harness := (true, "a42e4283af8bbbd15feef6c5e973572c682c2805bc59e275faa09147d67eb191"), looks := true }, kinds := [], alts := [], laidByText := true, laidKinds := [.data], laidTests := true, laidLooks := .later }
def HeapFillsCardSaid : Prop := Claim7.holds Tryz.pinned (.plain (OpenSpec.ofChange heapFillsSpec)) heapFillsCard

/-- THE TIED CARD OF 'tumuluslaw05.HeapLinks'. -/
def heapLinksCard : Claim7 := { stood := { row := heapLinksRow, standIns := [], harness := (true, "a42e4283af8bbbd15feef6c5e973572c682c2805bc59e275faa09147d67eb191"), looks := true }, kinds := [], alts := [], laidByText := true, laidKinds := [.data], laidTests := true, laidLooks := .later }
def HeapLinksCardSaid : Prop := Claim7.holds Tryz.pinned (.plain (OpenSpec.ofChange heapLinksSpec)) heapLinksCard

/-- THE TIED CARD OF 'tumulustop.TopRegion'. -/
def topRegionCard : Claim7 := { stood := { row := topRegionRow, standIns := [], harness := (true, "a42e4283af8bbbd15feef6c5e973572c682c2805bc59e275faa09147d67eb191"), looks := true }, kinds := [], alts := [], laidByText := true, laidKinds := [.data], laidTests := true, laidLooks := .later }
def TopRegionCardSaid : Prop := Claim7.holds Tryz.pinned (.plain (OpenSpec.ofChange topRegionSpec)) topRegionCard

/-- THE SECOND FORM's CARD OF 'tumuluslaw05.HeapDoes'. -/
def heapDoesUptoCard : Claim7 := { stood := { row := heapDoesUptoRow, standIns := [], harness := (true, "a42e4283af8bbbd15feef6c5e973572c682c2805bc59e275faa09147d67eb191"), looks := true }, kinds := [], alts := [], laidByText := true, laidKinds := [.data], laidTests := true, laidLooks := .later }
def HeapDoesUptoCardSaid : Prop := Claim7.holds Tryz.pinned (.plain (OpenSpec.upto heapDoesSpec)) heapDoesUptoCard

/-- THE SECOND FORM's CARD OF 'tumuluslaw05.HeapKeeps'. -/
def heapKeepsUptoCard : Claim7 := { stood := { row := heapKeepsUptoRow, standIns := [], harness := (true, "a42e4283af8bbbd15feef6c5e973572c682c2805bc59e275faa09147d67eb191"), looks := true }, kinds := [], alts := [], laidByText := true, laidKinds := [.data], laidTests := true, laidLooks := .later }
def HeapKeepsUptoCardSaid : Prop := Claim7.holds Tryz.pinned (.plain (OpenSpec.upto heapKeepsSpec)) heapKeepsUptoCard

/-- THE SECOND FORM's CARD OF 'tumuluslaw05.HeapWords'. -/
def heapWordsUptoCard : Claim7 := { stood := { row := heapWordsUptoRow, standIns := [], harness := (true, "a42e4283af8bbbd15feef6c5e973572c682c2805bc59e275faa09147d67eb191"), looks := true }, kinds := [], alts := [], laidByText := true, laidKinds := [.data], laidTests := true, laidLooks := .later }
def HeapWordsUptoCardSaid : Prop := Claim7.holds Tryz.pinned (.plain (OpenSpec.upto heapWordsSpec)) heapWordsUptoCard

/-- THE SECOND FORM's CARD OF 'tumuluslaw05.HeapSpace'. -/
def heapSpaceUptoCard : Claim7 := { stood := { row := heapSpaceUptoRow, standIns := [], harness := (true, "a42e4283af8bbbd15feef6c5e973572c682c2805bc59e275faa09147d67eb191"), looks := true }, kinds := [], alts := [], laidByText := true, laidKinds := [.data], laidTests := true, laidLooks := .later }
def HeapSpaceUptoCardSaid : Prop := Claim7.holds Tryz.pinned (.plain (OpenSpec.upto heapSpaceSpec)) heapSpaceUptoCard

/-- THE SECOND FORM's CARD OF 'tumuluslaw05.HeapFreed'. -/
def heapFreedUptoCard : Claim7 := { stood := { row := heapFreedUptoRow, standIns := [], harness := (true, "a42e4283af8bbbd15feef6c5e973572c682c2805bc59e275faa09147d67eb191"), looks := true }, kinds := [], alts := [], laidByText := true, laidKinds := [.data], laidTests := true, laidLooks := .later }
def HeapFreedUptoCardSaid : Prop := Claim7.holds Tryz.pinned (.plain (OpenSpec.upto heapFreedSpec)) heapFreedUptoCard

/-- THE SECOND FORM's CARD OF 'tumuluslaw05.HeapFills'. -/
def heapFillsUptoCard : Claim7 := { stood := { row := heapFillsUptoRow, standIns := [], harness := (true, "a42e4283af8bbbd15feef6c5e973572c682c2805bc59e275faa09147d67eb191"), looks := true }, kinds := [], alts := [], laidByText := true, laidKinds := [.data], laidTests := true, laidLooks := .later }
def HeapFillsUptoCardSaid : Prop := Claim7.holds Tryz.pinned (.plain (OpenSpec.upto heapFillsSpec)) heapFillsUptoCard

/-- THE SECOND FORM's CARD OF 'tumuluslaw05.HeapLinks'. -/
def heapLinksUptoCard : Claim7 := { stood := { row := heapLinksUptoRow, standIns := [], harness := (true, "a42e4283af8bbbd15feef6c5e973572c682c2805bc59e275faa09147d67eb191"), looks := true }, kinds := [], alts := [], laidByText := true, laidKinds := [.data], laidTests := true, laidLooks := .later }
def HeapLinksUptoCardSaid : Prop := Claim7.holds Tryz.pinned (.plain (OpenSpec.upto heapLinksSpec)) heapLinksUptoCard

/-- THE SECOND FORM's CARD OF 'tumulustop.TopRegion'. -/
def topRegionUptoCard : Claim7 := { stood := { row := topRegionUptoRow, standIns := [], harness := (true, "a42e4283af8bbbd15feef6c5e973572c682c2805bc59e275faa09147d67eb191"), looks := true }, kinds := [], alts := [], laidByText := true, laidKinds := [.data], laidTests := true, laidLooks := .later }
def TopRegionUptoCardSaid : Prop := Claim7.holds Tryz.pinned (.plain (OpenSpec.upto topRegionSpec)) topRegionUptoCard
end Rows
end Go.Proofs.YtkbggbgnnllmjaaGreatDoor

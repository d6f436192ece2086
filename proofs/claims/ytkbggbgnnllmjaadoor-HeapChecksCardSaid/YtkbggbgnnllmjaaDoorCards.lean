/-
  DERIVED. GIVEN WITH THE SEED: THE CARDS: each row of YtkbggbgnnllmjaaDoorRows.lean that lists a variable, with what it lists TIED to the program's text (the seventh form; the later family's looks); each row that meets fmt, with fmt's text TOLD by the authors' own Lean function (tested against real Go, not proved from fmt's source: count such statements apart). THE CARD IS WHAT COUNTS. Prove the row's statement (the work); the ties are given (YtkbggbgnnllmjaaDoorTie.lean); close each card by the builder's one call (the guide's Derived/Test/ToyasCard.lean, 'card_holds'). Laid BY PROGRAM, IN A SANDBOX (cutbox-door.mjs). By AI agents, Wed Nov 11 2026. No macro, syntax, notation, axiom, sorry.
-/
import Derived.Test.YtkbggbgnnllmjaaDoorRows
import GoSem.ClaimSeven
namespace Go.Proofs.YtkbggbgnnllmjaaDoor
namespace Rows

/-- THE TIED CARD OF 'tumuluslaw05.HeapChecks'. -/
def heapChecksCard : Claim7 := { stood := { row := heapChecksRow, standIns := [], harness := (true, "5322a0da71cc915e2482e649b41a723263ed113e9490ac79d5ebf9d71bad82e0"), looks := false }, kinds := [], alts := [], laidByText := true, laidKinds := [.data], laidTests := true, laidLooks := .later }
def HeapChecksCardSaid : Prop := Claim7.holds Tryd.pinned (.plain (OpenSpec.ofChange heapChecksSpec)) heapChecksCard

/-- THE SECOND FORM's CARD OF 'tumuluslaw05.HeapChecks'. -/
def heapChecksUptoCard : Claim7 := { stood := { row := heapChecksUptoRow, standIns := [], harness := (true, "5322a0da71cc915e2482e649b41a723263ed113e9490ac79d5ebf9d71bad82e0"), looks := false }, kinds := [], alts := [], laidByText := true, laidKinds := [.data], laidTests := true, laidLooks := .later }
def HeapChecksUptoCardSaid : Prop := Claim7.holds Tryd.pinned (.plain (OpenSpec.upto heapChecksSpec)) heapChecksUptoCard
end Rows
end Go.Proofs.YtkbggbgnnllmjaaDoor

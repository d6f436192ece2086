/-
  NARROWER THAN 'FOR EVERY INPUT', by the rows' own cells (each row's printed sentence says how): HeapDoes: laid · HeapKeeps: laid · HeapWords: laid · HeapSpace: laid · HeapFreed: laid · HeapFills: laid · HeapLinks: laid · TopRegion: laid.
  DERIVED. THE GIVEN ROWS OF THIS SEAT. 8 by the template 'for every input the law returns true; each argument reads behind the call as it read before'; 0 by the template 'total and deterministic' (their statements: YtkbggbgnnllmjaaGreatDoorTotals.lean).
  GIVEN WITH THE SEED: the statements are not yours to turn. If you find one false, say at which input.
  Laid BY PROGRAM, IN A SANDBOX (cutbox-rows.mjs): the forced cells as the released guide's own fill.sh prints them over the translation b46dc22dcd02234c… (all of the seat's roots in one cut). By AI agents, Wed Nov 11 2026. No macro, syntax, notation, axiom, sorry.
-/
import Derived.Test.YtkbggbgnnllmjaaGreatDoorChecked
import GoSem.Claim
import GoSem.ClaimJoined
import GoSem.ClaimMapViews
import Derived.JoinedTies
import Derived.KernelRfl
namespace Go.Proofs.YtkbggbgnnllmjaaGreatDoor
/- THE CELL 'sum', in the pinned program and in every row, IS THE sha256 OF THE DUMP (.gsa) THAT YtkbggbgnnllmjaaGreatDoorProg.lean LOADS. Nothing in Lean hashes anything: it is a label: what it is worth is what the hold of that sum in a sandbox is worth. -/
noncomputable def Tryz.pinned : Pinned := { name := "ytkbggbgnnllmjaagreatdoor", sum := "b46dc22dcd02234cbe47c7f9798477e61f93d18c00b225887434d4197ed56c5a", checked := Tryz.checked }
namespace Rows
def none {H : Type} : Left H := { results := [], args := [] }

/- WHAT THE LISTED PACKAGE-LEVEL VARIABLES READ AS WHEN THE CALL BEGINS. Each datum BY PROGRAM (the guide's laid-datum.mjs) off the statement by which the dump's own 'gosem.cut.vars' lays the variable. In a bare row this is a premise. The card (YtkbggbgnnllmjaaGreatDoorCards.lean) ties it to the program's text. -/
def laid_math_bits_deBruijn64tab {H : Type} : DataW H := .agg [.lit (.int .u8 0), .lit (.int .u8 1), .lit (.int .u8 56), .lit (.int .u8 2), .lit (.int .u8 57), .lit (.int .u8 49), .lit (.int .u8 28), .lit (.int .u8 3), .lit (.int .u8 61), .lit (.int .u8 58), .lit (.int .u8 42), .lit (.int .u8 50), .lit (.int .u8 38), .lit (.int .u8 29), .lit (.int .u8 17), .lit (.int .u8 4), .lit (.int .u8 62), .lit (.int .u8 47), .lit (.int .u8 59), .lit (.int .u8 36), .lit (.int .u8 45), .lit (.int .u8 43), .lit (.int .u8 51), .lit (.int .u8 22), .lit (.int .u8 53), .lit (.int .u8 39), .lit (.int .u8 33), .lit (.int .u8 30), .lit (.int .u8 24), .lit (.int .u8 18), .lit (.int .u8 12), .lit (.int .u8 5), .lit (.int .u8 63), .lit (.int .u8 55), .lit (.int .u8 48), .lit (.int .u8 27), .lit (.int .u8 60), .lit (.int .u8 41), .lit (.int .u8 37), .lit (.int .u8 16), .lit (.int .u8 46), .lit (.int .u8 35), .lit (.int .u8 44), .lit (.int .u8 21), .lit (.int .u8 52), .lit (.int .u8 32), .lit (.int .u8 23), .lit (.int .u8 11), .lit (.int .u8 54), .lit (.int .u8 26), .lit (.int .u8 40), .lit (.int .u8 15), .lit (.int .u8 34), .lit (.int .u8 20), .lit (.int .u8 31), .lit (.int .u8 10), .lit (.int .u8 25), .lit (.int .u8 14), .lit (.int .u8 19), .lit (.int .u8 9), .lit (.int .u8 13), .lit (.int .u8 8), .lit (.int .u8 7), .lit (.int .u8 6)]

/-- 'tumuluslaw05.HeapDoes': WHATEVER THE INPUT: true; the input reads as it did. -/
def heapDoesSpec : ChangeSpec := { name := "heapDoes", fn := fun _ => fun
  | [d1, d2] => { results := [.lit (.bool true)], args := [d1, d2] }
  | _ => none }
def heapDoesRow : OpenClaim := { program := "ytkbggbgnnllmjaagreatdoor", sum := "b46dc22dcd02234cbe47c7f9798477e61f93d18c00b225887434d4197ed56c5a", func := "tumulus/tumuluslaw05.HeapDoes", spec := "heapDoes", unfollowed := true, recurses := true, named := ["math/bits.deBruijn64tab"], apart := false, laid := [("math/bits.deBruijn64tab", laid_math_bits_deBruijn64tab)] }
def HeapDoesSaid : Prop := heapDoesRow.holds Tryz.pinned (OpenSpec.ofChange heapDoesSpec)

/-- ITS FALSE NEIGHBOUR: 'it returns false'. Refute it at one input. -/
def heapDoesWrong : ChangeSpec := { name := "heapDoes", fn := fun _ => fun
  | [d1, d2] => { results := [.lit (.bool false)], args := [d1, d2] }
  | _ => none }
def HeapDoesWrongFalsely : Prop := heapDoesRow.holds Tryz.pinned (OpenSpec.ofChange heapDoesWrong)

/-- 'tumuluslaw05.HeapKeeps': WHATEVER THE INPUT: true; the input reads as it did. -/
def heapKeepsSpec : ChangeSpec := { name := "heapKeeps", fn := fun _ => fun
  | [d1, d2] => { results := [.lit (.bool true)], args := [d1, d2] }
  | _ => none }
def heapKeepsRow : OpenClaim := { program := "ytkbggbgnnllmjaagreatdoor", sum := "b46dc22dcd02234cbe47c7f9798477e61f93d18c00b225887434d4197ed56c5a", func := "tumulus/tumuluslaw05.HeapKeeps", spec := "heapKeeps", unfollowed := true, recurses := true, named := ["math/bits.deBruijn64tab"], apart := false, laid := [("math/bits.deBruijn64tab", laid_math_bits_deBruijn64tab)] }
def HeapKeepsSaid : Prop := heapKeepsRow.holds Tryz.pinned (OpenSpec.ofChange heapKeepsSpec)

/-- ITS FALSE NEIGHBOUR: 'it returns false'. Refute it at one input. -/
def heapKeepsWrong : ChangeSpec := { name := "heapKeeps", fn := fun _ => fun
  | [d1, d2] => { results := [.lit (.bool false)], args := [d1, d2] }
  | _ => none }
def HeapKeepsWrongFalsely : Prop := heapKeepsRow.holds Tryz.pinned (OpenSpec.ofChange heapKeepsWrong)

/-- 'tumuluslaw05.HeapWords': WHATEVER THE INPUT: true; the input reads as it did. -/
def heapWordsSpec : ChangeSpec := { name := "heapWords", fn := fun _ => fun
  | [d1, d2, d3, d4, d5, d6] => { results := [.lit (.bool true)], args := [d1, d2, d3, d4, d5, d6] }
  | _ => none }
def heapWordsRow : OpenClaim := { program := "ytkbggbgnnllmjaagreatdoor", sum := "b46dc22dcd02234cbe47c7f9798477e61f93d18c00b225887434d4197ed56c5a", func := "tumulus/tumuluslaw05.HeapWords", spec := "heapWords", unfollowed := true, recurses := true, named := ["math/bits.deBruijn64tab"], apart := false, laid := [("math/bits.deBruijn64tab", laid_math_bits_deBruijn64tab)] }
def HeapWordsSaid : Prop := heapWordsRow.holds Tryz.pinned (OpenSpec.ofChange heapWordsSpec)

/-- ITS FALSE NEIGHBOUR: 'it returns false'. Refute it at one input. -/
def heapWordsWrong : ChangeSpec := { name := "heapWords", fn := fun _ => fun
  | [d1, d2, d3, d4, d5, d6] => { results := [.lit (.bool false)], args := [d1, d2, d3, d4, d5, d6] }
  | _ => none }
def HeapWordsWrongFalsely : Prop := heapWordsRow.holds Tryz.pinned (OpenSpec.ofChange heapWordsWrong)

/-- 'tumuluslaw05.HeapSpace': WHATEVER THE INPUT: true; the input reads as it did. -/
def heapSpaceSpec : ChangeSpec := { name := "heapSpace", fn := fun _ => fun
  | [d1, d2, d3] => { results := [.lit (.bool true)], args := [d1, d2, d3] }
  | _ => none }
def heapSpaceRow : OpenClaim := { program := "ytkbggbgnnllmjaagreatdoor", sum := "b46dc22dcd02234cbe47c7f9798477e61f93d18c00b225887434d4197ed56c5a", func := "tumulus/tumuluslaw05.HeapSpace", spec := "heapSpace", unfollowed := true, recurses := true, named := ["math/bits.deBruijn64tab"], apart := false, laid := [("math/bits.deBruijn64tab", laid_math_bits_deBruijn64tab)] }
def HeapSpaceSaid : Prop := heapSpaceRow.holds Tryz.pinned (OpenSpec.ofChange heapSpaceSpec)

/-- ITS FALSE NEIGHBOUR: 'it returns false'. Refute it at one input. -/
def heapSpaceWrong : ChangeSpec := { name := "heapSpace", fn := fun _ => fun
  | [d1, d2, d3] => { results := [.lit (.bool false)], args := [d1, d2, d3] }
  | _ => none }
def HeapSpaceWrongFalsely : Prop := heapSpaceRow.holds Tryz.pinned (OpenSpec.ofChange heapSpaceWrong)

/-- 'tumuluslaw05.HeapFreed': WHATEVER THE INPUT: true; the input reads as it did. -/
def heapFreedSpec : ChangeSpec := { name := "heapFreed", fn := fun _ => fun
  | [d1, d2] => { results := [.lit (.bool true)], args := [d1, d2] }
  | _ => none }
def heapFreedRow : OpenClaim := { program := "ytkbggbgnnllmjaagreatdoor", sum := "b46dc22dcd02234cbe47c7f9798477e61f93d18c00b225887434d4197ed56c5a", func := "tumulus/tumuluslaw05.HeapFreed", spec := "heapFreed", unfollowed := true, recurses := true, named := ["math/bits.deBruijn64tab"], apart := false, laid := [("math/bits.deBruijn64tab", laid_math_bits_deBruijn64tab)] }
def HeapFreedSaid : Prop := heapFreedRow.holds Tryz.pinned (OpenSpec.ofChange heapFreedSpec)

/-- ITS FALSE NEIGHBOUR: 'it returns false'. Refute it at one input. -/
def heapFreedWrong : ChangeSpec := { name := "heapFreed", fn := fun _ => fun
  | [d1, d2] => { results := [.lit (.bool false)], args := [d1, d2] }
  | _ => none }
def HeapFreedWrongFalsely : Prop := heapFreedRow.holds Tryz.pinned (OpenSpec.ofChange heapFreedWrong)

/-- 'tumuluslaw05.HeapFills': WHATEVER THE INPUT: true; the input reads as it did. -/
def heapFillsSpec : ChangeSpec := { name := "heapFills", fn := fun _ => fun
  | [d] => { results := [.lit (.bool true)], args := [d] }
  | _ => none }
def heapFillsRow : OpenClaim := { program := "ytkbggbgnnllmjaagreatdoor", sum := "b46dc22dcd02234cbe47c7f9798477e61f93d18c00b225887434d4197ed56c5a", func := "tumulus/tumuluslaw05.HeapFills", spec := "heapFills", unfollowed := true, recurses := true, named := ["math/bits.deBruijn64tab"], apart := false, laid := [("math/bits.deBruijn64tab", laid_math_bits_deBruijn64tab)] }
def HeapFillsSaid : Prop := heapFillsRow.holds Tryz.pinned (OpenSpec.ofChange heapFillsSpec)

/-- ITS FALSE NEIGHBOUR: 'it returns false'. Refute it at one input. -/
def heapFillsWrong : ChangeSpec := { name := "heapFills", fn := fun _ => fun
  | [d] => { results := [.lit (.bool false)], args := [d] }
  | _ => none }
def HeapFillsWrongFalsely : Prop := heapFillsRow.holds Tryz.pinned (OpenSpec.ofChange heapFillsWrong)

/-- 'tumuluslaw05.HeapLinks': WHATEVER THE INPUT: true; the input reads as it did. -/
def heapLinksSpec : ChangeSpec := { name := "heapLinks", fn := fun _ => fun
  | [d1, d2, d3, d4, d5, d6] => { results := [.lit (.bool true)], args := [d1, d2, d3, d4, d5, d6] }
  | _ => none }
def heapLinksRow : OpenClaim := { program := "ytkbggbgnnllmjaagreatdoor", sum := "b46dc22dcd02234cbe47c7f9798477e61f93d18c00b225887434d4197ed56c5a", func := "tumulus/tumuluslaw05.HeapLinks", spec := "heapLinks", unfollowed := true, recurses := true, named := ["math/bits.deBruijn64tab"], apart := false, laid := [("math/bits.deBruijn64tab", laid_math_bits_deBruijn64tab)] }
def HeapLinksSaid : Prop := heapLinksRow.holds Tryz.pinned (OpenSpec.ofChange heapLinksSpec)

/-- ITS FALSE NEIGHBOUR: 'it returns false'. Refute it at one input. -/
def heapLinksWrong : ChangeSpec := { name := "heapLinks", fn := fun _ => fun
  | [d1, d2, d3, d4, d5, d6] => { results := [.lit (.bool false)], args := [d1, d2, d3, d4, d5, d6] }
  | _ => none }
def HeapLinksWrongFalsely : Prop := heapLinksRow.holds Tryz.pinned (OpenSpec.ofChange heapLinksWrong)

/-- 'tumulustop.TopRegion': WHATEVER THE INPUT: true; the input reads as it did. -/
def topRegionSpec : ChangeSpec := { name := "topRegion", fn := fun _ => fun
  | [d1, d2] => { results := [.lit (.bool true)], args := [d1, d2] }
  | _ => none }
def topRegionRow : OpenClaim := { program := "ytkbggbgnnllmjaagreatdoor", sum := "b46dc22dcd02234cbe47c7f9798477e61f93d18c00b225887434d4197ed56c5a", func := "tumulus/tumulustop.TopRegion", spec := "topRegion", unfollowed := true, recurses := true, named := ["math/bits.deBruijn64tab"], apart := false, laid := [("math/bits.deBruijn64tab", laid_math_bits_deBruijn64tab)] }
def TopRegionSaid : Prop := topRegionRow.holds Tryz.pinned (OpenSpec.ofChange topRegionSpec)

/-- ITS FALSE NEIGHBOUR: 'it returns false'. Refute it at one input. -/
def topRegionWrong : ChangeSpec := { name := "topRegion", fn := fun _ => fun
  | [d1, d2] => { results := [.lit (.bool false)], args := [d1, d2] }
  | _ => none }
def TopRegionWrongFalsely : Prop := topRegionRow.holds Tryz.pinned (OpenSpec.ofChange topRegionWrong)

/- THE SECOND FORM. 'bulk': how many values and letters a reading holds, each counted each time it is reached (what is shared counts as often as it is met; a slice's spare places count too). A statement '..UptoSaid' is the law's where the arguments, and the package variables that the reading takes, are together of bulk at most 1048576: NARROWER than '..Said'. Prove '..Said' where nothing that the law and all that it calls make is longer than what came in: it says more and counts as full. Else prove '..UptoSaid'. A law counts once. -/
mutual
def uptoBulk {H : Type} : DataW H → Nat
  | .lit (.string bytes) => bytes.length + 1
  | .lit _ => 1
  | .nil => 1
  | .ptr d => uptoBulk d + 1
  | .slice elems spare => uptoBulkAll elems + uptoBulkAll spare + 1
  | .agg parts => uptoBulkAll parts + 1
  | .iface _ d => uptoBulk d + 1
  | .map entries => uptoBulkEntries entries + 1
  | .held _ => 1
def uptoBulkAll {H : Type} : List (DataW H) → Nat
  | [] => 0
  | d :: r => uptoBulk d + uptoBulkAll r
def uptoBulkEntries {H : Type} : List (Lit × DataW H) → Nat
  | [] => 0
  | x :: r => uptoBulkEntry x + uptoBulkEntries r
def uptoBulkEntry {H : Type} : Lit × DataW H → Nat
  | (.string bytes, d) => bytes.length + uptoBulk d + 1
  | (_, d) => uptoBulk d + 1
 end
def uptoSmall : (H : Type) → List (DataW H) → Bool := fun _ ds => decide (uptoBulkAll ds ≤ 1048576)
def OpenSpec.upto (s : _root_.Go.ChangeSpec) : _root_.Go.OpenSpec := { _root_.Go.OpenSpec.ofChange s with cond := some uptoSmall }

/-- 'tumuluslaw05.HeapDoes', WHERE WHAT IT READS IS OF BULK AT MOST 1048576: true; the input reads as it did. -/
def heapDoesUptoRow : OpenClaim := { program := "ytkbggbgnnllmjaagreatdoor", sum := "b46dc22dcd02234cbe47c7f9798477e61f93d18c00b225887434d4197ed56c5a", func := "tumulus/tumuluslaw05.HeapDoes", spec := "heapDoes", unfollowed := true, recurses := true, named := ["math/bits.deBruijn64tab"], apart := false, laid := [("math/bits.deBruijn64tab", laid_math_bits_deBruijn64tab)], narrowed := true }
def HeapDoesUptoSaid : Prop := heapDoesUptoRow.holds Tryz.pinned (OpenSpec.upto heapDoesSpec)

/-- 'tumuluslaw05.HeapKeeps', WHERE WHAT IT READS IS OF BULK AT MOST 1048576: true; the input reads as it did. -/
def heapKeepsUptoRow : OpenClaim := { program := "ytkbggbgnnllmjaagreatdoor", sum := "b46dc22dcd02234cbe47c7f9798477e61f93d18c00b225887434d4197ed56c5a", func := "tumulus/tumuluslaw05.HeapKeeps", spec := "heapKeeps", unfollowed := true, recurses := true, named := ["math/bits.deBruijn64tab"], apart := false, laid := [("math/bits.deBruijn64tab", laid_math_bits_deBruijn64tab)], narrowed := true }
def HeapKeepsUptoSaid : Prop := heapKeepsUptoRow.holds Tryz.pinned (OpenSpec.upto heapKeepsSpec)

/-- 'tumuluslaw05.HeapWords', WHERE WHAT IT READS IS OF BULK AT MOST 1048576: true; the input reads as it did. -/
def heapWordsUptoRow : OpenClaim := { program := "ytkbggbgnnllmjaagreatdoor", sum := "b46dc22dcd02234cbe47c7f9798477e61f93d18c00b225887434d4197ed56c5a", func := "tumulus/tumuluslaw05.HeapWords", spec := "heapWords", unfollowed := true, recurses := true, named := ["math/bits.deBruijn64tab"], apart := false, laid := [("math/bits.deBruijn64tab", laid_math_bits_deBruijn64tab)], narrowed := true }
def HeapWordsUptoSaid : Prop := heapWordsUptoRow.holds Tryz.pinned (OpenSpec.upto heapWordsSpec)

/-- 'tumuluslaw05.HeapSpace', WHERE WHAT IT READS IS OF BULK AT MOST 1048576: true; the input reads as it did. -/
def heapSpaceUptoRow : OpenClaim := { program := "ytkbggbgnnllmjaagreatdoor", sum := "b46dc22dcd02234cbe47c7f9798477e61f93d18c00b225887434d4197ed56c5a", func := "tumulus/tumuluslaw05.HeapSpace", spec := "heapSpace", unfollowed := true, recurses := true, named := ["math/bits.deBruijn64tab"], apart := false, laid := [("math/bits.deBruijn64tab", laid_math_bits_deBruijn64tab)], narrowed := true }
def HeapSpaceUptoSaid : Prop := heapSpaceUptoRow.holds Tryz.pinned (OpenSpec.upto heapSpaceSpec)

/-- 'tumuluslaw05.HeapFreed', WHERE WHAT IT READS IS OF BULK AT MOST 1048576: true; the input reads as it did. -/
def heapFreedUptoRow : OpenClaim := { program := "ytkbggbgnnllmjaagreatdoor", sum := "b46dc22dcd02234cbe47c7f9798477e61f93d18c00b225887434d4197ed56c5a", func := "tumulus/tumuluslaw05.HeapFreed", spec := "heapFreed", unfollowed := true, recurses := true, named := ["math/bits.deBruijn64tab"], apart := false, laid := [("math/bits.deBruijn64tab", laid_math_bits_deBruijn64tab)], narrowed := true }
def HeapFreedUptoSaid : Prop := heapFreedUptoRow.holds Tryz.pinned (OpenSpec.upto heapFreedSpec)

/-- 'tumuluslaw05.HeapFills', WHERE WHAT IT READS IS OF BULK AT MOST 1048576: true; the input reads as it did. -/
def heapFillsUptoRow : OpenClaim := { program := "ytkbggbgnnllmjaagreatdoor", sum := "b46dc22dcd02234cbe47c7f9798477e61f93d18c00b225887434d4197ed56c5a", func := "tumulus/tumuluslaw05.HeapFills", spec := "heapFills", unfollowed := true, recurses := true, named := ["math/bits.deBruijn64tab"], apart := false, laid := [("math/bits.deBruijn64tab", laid_math_bits_deBruijn64tab)], narrowed := true }
def HeapFillsUptoSaid : Prop := heapFillsUptoRow.holds Tryz.pinned (OpenSpec.upto heapFillsSpec)

/-- 'tumuluslaw05.HeapLinks', WHERE WHAT IT READS IS OF BULK AT MOST 1048576: true; the input reads as it did. -/
def heapLinksUptoRow : OpenClaim := { program := "ytkbggbgnnllmjaagreatdoor", sum := "b46dc22dcd02234cbe47c7f9798477e61f93d18c00b225887434d4197ed56c5a", func := "tumulus/tumuluslaw05.HeapLinks", spec := "heapLinks", unfollowed := true, recurses := true, named := ["math/bits.deBruijn64tab"], apart := false, laid := [("math/bits.deBruijn64tab", laid_math_bits_deBruijn64tab)], narrowed := true }
def HeapLinksUptoSaid : Prop := heapLinksUptoRow.holds Tryz.pinned (OpenSpec.upto heapLinksSpec)

/-- 'tumulustop.TopRegion', WHERE WHAT IT READS IS OF BULK AT MOST 1048576: true; the input reads as it did. -/
def topRegionUptoRow : OpenClaim := { program := "ytkbggbgnnllmjaagreatdoor", sum := "b46dc22dcd02234cbe47c7f9798477e61f93d18c00b225887434d4197ed56c5a", func := "tumulus/tumulustop.TopRegion", spec := "topRegion", unfollowed := true, recurses := true, named := ["math/bits.deBruijn64tab"], apart := false, laid := [("math/bits.deBruijn64tab", laid_math_bits_deBruijn64tab)], narrowed := true }
def TopRegionUptoSaid : Prop := topRegionUptoRow.holds Tryz.pinned (OpenSpec.upto topRegionSpec)

end Rows
end Go.Proofs.YtkbggbgnnllmjaaGreatDoor

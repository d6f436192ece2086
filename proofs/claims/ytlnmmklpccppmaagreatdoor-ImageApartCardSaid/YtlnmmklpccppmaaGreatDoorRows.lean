/-
  NARROWER THAN 'FOR EVERY INPUT', by the rows' own cells (each row's printed sentence says how): ImageHeaps: laid · ImageStates: laid · ImageReads: laid · ImageMore: laid · ImageGoes: laid · ImageApart: laid.
  DERIVED. THE GIVEN ROWS OF THIS SEAT. 6 by the template 'for every input the law returns true; each argument reads behind the call as it read before'; 0 by the template 'total and deterministic' (their statements: YtlnmmklpccppmaaGreatDoorTotals.lean).
  GIVEN WITH THE SEED: the statements are not yours to turn. If you find one false, say at which input.
  Laid BY PROGRAM, IN A SANDBOX (cutbox-rows.mjs): the forced cells as the released guide's own fill.sh prints them over the translation e1ffd075253e5681… (all of the seat's roots in one cut). By AI agents, Wed Nov 11 2026. No macro, syntax, notation, axiom, sorry.
-/
import Derived.Test.YtlnmmklpccppmaaGreatDoorChecked
import GoSem.Claim
import GoSem.ClaimJoined
import GoSem.ClaimMapViews
import Derived.JoinedTies
import Derived.KernelRfl
namespace Go.Proofs.YtlnmmklpccppmaaGreatDoor
/- THE CELL 'sum', in the pinned program and in every row, IS THE sha256 OF THE DUMP (.gsa) THAT YtlnmmklpccppmaaGreatDoorProg.lean LOADS. Nothing in Lean hashes anything: it is a label: what it is worth is what the hold of that sum in a sandbox is worth. -/
noncomputable def Tryz.pinned : Pinned := { name := "ytlnmmklpccppmaagreatdoor", sum := "e1ffd075253e5681a5e032f47e2bfcd289d36fdbff7f77502b5eb8fb90f79e7d", checked := Tryz.checked }
namespace Rows
def none {H : Type} : Left H := { results := [], args := [] }

/- WHAT THE LISTED PACKAGE-LEVEL VARIABLES READ AS WHEN THE CALL BEGINS. Each datum BY PROGRAM (the guide's laid-datum.mjs) off the statement by which the dump's own 'gosem.cut.vars' lays the variable. In a bare row this is a premise. The card (YtlnmmklpccppmaaGreatDoorCards.lean) ties it to the program's text. -/
def laid_math_bits_deBruijn64tab {H : Type} : DataW H := .agg [.lit (.int .u8 0), .lit (.int .u8 1), .lit (.int .u8 56), .lit (.int .u8 2), .lit (.int .u8 57), .lit (.int .u8 49), .lit (.int .u8 28), .lit (.int .u8 3), .lit (.int .u8 61), .lit (.int .u8 58), .lit (.int .u8 42), .lit (.int .u8 50), .lit (.int .u8 38), .lit (.int .u8 29), .lit (.int .u8 17), .lit (.int .u8 4), .lit (.int .u8 62), .lit (.int .u8 47), .lit (.int .u8 59), .lit (.int .u8 36), .lit (.int .u8 45), .lit (.int .u8 43), .lit (.int .u8 51), .lit (.int .u8 22), .lit (.int .u8 53), .lit (.int .u8 39), .lit (.int .u8 33), .lit (.int .u8 30), .lit (.int .u8 24), .lit (.int .u8 18), .lit (.int .u8 12), .lit (.int .u8 5), .lit (.int .u8 63), .lit (.int .u8 55), .lit (.int .u8 48), .lit (.int .u8 27), .lit (.int .u8 60), .lit (.int .u8 41), .lit (.int .u8 37), .lit (.int .u8 16), .lit (.int .u8 46), .lit (.int .u8 35), .lit (.int .u8 44), .lit (.int .u8 21), .lit (.int .u8 52), .lit (.int .u8 32), .lit (.int .u8 23), .lit (.int .u8 11), .lit (.int .u8 54), .lit (.int .u8 26), .lit (.int .u8 40), .lit (.int .u8 15), .lit (.int .u8 34), .lit (.int .u8 20), .lit (.int .u8 31), .lit (.int .u8 10), .lit (.int .u8 25), .lit (.int .u8 14), .lit (.int .u8 19), .lit (.int .u8 9), .lit (.int .u8 13), .lit (.int .u8 8), .lit (.int .u8 7), .lit (.int .u8 6)]

/-- 'tumuluslaw06.ImageHeaps': WHATEVER THE INPUT: true; the input reads as it did. -/
def imageHeapsSpec : ChangeSpec := { name := "imageHeaps", fn := fun _ => fun
  | [d] => { results := [.lit (.bool true)], args := [d] }
  | _ => none }
def imageHeapsRow : OpenClaim := { program := "ytlnmmklpccppmaagreatdoor", sum := "e1ffd075253e5681a5e032f47e2bfcd289d36fdbff7f77502b5eb8fb90f79e7d", func := "tumulus/tumuluslaw06.ImageHeaps", spec := "imageHeaps", unfollowed := true, recurses := true, named := ["math/bits.deBruijn64tab"], apart := false, laid := [("math/bits.deBruijn64tab", laid_math_bits_deBruijn64tab)] }
def ImageHeapsSaid : Prop := imageHeapsRow.holds Tryz.pinned (OpenSpec.ofChange imageHeapsSpec)

/-- ITS FALSE NEIGHBOUR: 'it returns false'. Refute it at one input. -/
def imageHeapsWrong : ChangeSpec := { name := "imageHeaps", fn := fun _ => fun
  | [d] => { results := [.lit (.bool false)], args := [d] }
  | _ => none }
def ImageHeapsWrongFalsely : Prop := imageHeapsRow.holds Tryz.pinned (OpenSpec.ofChange imageHeapsWrong)

/-- 'tumuluslaw06.ImageStates': WHATEVER THE INPUT: true; the input reads as it did. -/
def imageStatesSpec : ChangeSpec := { name := "imageStates", fn := fun _ => fun
  | [d] => { results := [.lit (.bool true)], args := [d] }
  | _ => none }
def imageStatesRow : OpenClaim := { program := "ytlnmmklpccppmaagreatdoor", sum := "e1ffd075253e5681a5e032f47e2bfcd289d36fdbff7f77502b5eb8fb90f79e7d", func := "tumulus/tumuluslaw06.ImageStates", spec := "imageStates", unfollowed := true, recurses := true, named := ["math/bits.deBruijn64tab"], apart := false, laid := [("math/bits.deBruijn64tab", laid_math_bits_deBruijn64tab)] }
def ImageStatesSaid : Prop := imageStatesRow.holds Tryz.pinned (OpenSpec.ofChange imageStatesSpec)

/-- ITS FALSE NEIGHBOUR: 'it returns false'. Refute it at one input. -/
def imageStatesWrong : ChangeSpec := { name := "imageStates", fn := fun _ => fun
  | [d] => { results := [.lit (.bool false)], args := [d] }
  | _ => none }
def ImageStatesWrongFalsely : Prop := imageStatesRow.holds Tryz.pinned (OpenSpec.ofChange imageStatesWrong)

/-- 'tumuluslaw06.ImageReads': WHATEVER THE INPUT: true; the input reads as it did. -/
def imageReadsSpec : ChangeSpec := { name := "imageReads", fn := fun _ => fun
  | [d] => { results := [.lit (.bool true)], args := [d] }
  | _ => none }
def imageReadsRow : OpenClaim := { program := "ytlnmmklpccppmaagreatdoor", sum := "e1ffd075253e5681a5e032f47e2bfcd289d36fdbff7f77502b5eb8fb90f79e7d", func := "tumulus/tumuluslaw06.ImageReads", spec := "imageReads", unfollowed := true, recurses := true, named := ["math/bits.deBruijn64tab"], apart := false, laid := [("math/bits.deBruijn64tab", laid_math_bits_deBruijn64tab)] }
def ImageReadsSaid : Prop := imageReadsRow.holds Tryz.pinned (OpenSpec.ofChange imageReadsSpec)

/-- ITS FALSE NEIGHBOUR: 'it returns false'. Refute it at one input. -/
def imageReadsWrong : ChangeSpec := { name := "imageReads", fn := fun _ => fun
  | [d] => { results := [.lit (.bool false)], args := [d] }
  | _ => none }
def ImageReadsWrongFalsely : Prop := imageReadsRow.holds Tryz.pinned (OpenSpec.ofChange imageReadsWrong)

/-- 'tumuluslaw06.ImageMore': WHATEVER THE INPUT: true; the input reads as it did. -/
def imageMoreSpec : ChangeSpec := { name := "imageMore", fn := fun _ => fun
  | [d1, d2] => { results := [.lit (.bool true)], args := [d1, d2] }
  | _ => none }
def imageMoreRow : OpenClaim := { program := "ytlnmmklpccppmaagreatdoor", sum := "e1ffd075253e5681a5e032f47e2bfcd289d36fdbff7f77502b5eb8fb90f79e7d", func := "tumulus/tumuluslaw06.ImageMore", spec := "imageMore", unfollowed := true, recurses := true, named := ["math/bits.deBruijn64tab"], apart := false, laid := [("math/bits.deBruijn64tab", laid_math_bits_deBruijn64tab)] }
def ImageMoreSaid : Prop := imageMoreRow.holds Tryz.pinned (OpenSpec.ofChange imageMoreSpec)

/-- ITS FALSE NEIGHBOUR: 'it returns false'. Refute it at one input. -/
def imageMoreWrong : ChangeSpec := { name := "imageMore", fn := fun _ => fun
  | [d1, d2] => { results := [.lit (.bool false)], args := [d1, d2] }
  | _ => none }
def ImageMoreWrongFalsely : Prop := imageMoreRow.holds Tryz.pinned (OpenSpec.ofChange imageMoreWrong)

/-- 'tumuluslaw06.ImageGoes': WHATEVER THE INPUT: true; the input reads as it did. -/
def imageGoesSpec : ChangeSpec := { name := "imageGoes", fn := fun _ => fun
  | [d1, d2] => { results := [.lit (.bool true)], args := [d1, d2] }
  | _ => none }
def imageGoesRow : OpenClaim := { program := "ytlnmmklpccppmaagreatdoor", sum := "e1ffd075253e5681a5e032f47e2bfcd289d36fdbff7f77502b5eb8fb90f79e7d", func := "tumulus/tumuluslaw06.ImageGoes", spec := "imageGoes", unfollowed := true, recurses := true, named := ["math/bits.deBruijn64tab"], apart := false, laid := [("math/bits.deBruijn64tab", laid_math_bits_deBruijn64tab)] }
def ImageGoesSaid : Prop := imageGoesRow.holds Tryz.pinned (OpenSpec.ofChange imageGoesSpec)

/-- ITS FALSE NEIGHBOUR: 'it returns false'. Refute it at one input. -/
def imageGoesWrong : ChangeSpec := { name := "imageGoes", fn := fun _ => fun
  | [d1, d2] => { results := [.lit (.bool false)], args := [d1, d2] }
  | _ => none }
def ImageGoesWrongFalsely : Prop := imageGoesRow.holds Tryz.pinned (OpenSpec.ofChange imageGoesWrong)

/-- 'tumuluslaw06.ImageApart': WHATEVER THE INPUT: true; the input reads as it did. -/
def imageApartSpec : ChangeSpec := { name := "imageApart", fn := fun _ => fun
  | [d1, d2, d3, d4] => { results := [.lit (.bool true)], args := [d1, d2, d3, d4] }
  | _ => none }
def imageApartRow : OpenClaim := { program := "ytlnmmklpccppmaagreatdoor", sum := "e1ffd075253e5681a5e032f47e2bfcd289d36fdbff7f77502b5eb8fb90f79e7d", func := "tumulus/tumuluslaw06.ImageApart", spec := "imageApart", unfollowed := true, recurses := true, named := ["math/bits.deBruijn64tab"], apart := false, laid := [("math/bits.deBruijn64tab", laid_math_bits_deBruijn64tab)] }
def ImageApartSaid : Prop := imageApartRow.holds Tryz.pinned (OpenSpec.ofChange imageApartSpec)

/-- ITS FALSE NEIGHBOUR: 'it returns false'. Refute it at one input. -/
def imageApartWrong : ChangeSpec := { name := "imageApart", fn := fun _ => fun
  | [d1, d2, d3, d4] => { results := [.lit (.bool false)], args := [d1, d2, d3, d4] }
  | _ => none }
def ImageApartWrongFalsely : Prop := imageApartRow.holds Tryz.pinned (OpenSpec.ofChange imageApartWrong)

/- THE SECOND FORM. 'bulk': how many values and letters a reading holds, each counted each time it is reached (what is shared counts as often as it is met; a slice's spare places count too). A statement '..UptoSaid' is the law's where the arguments, and the package variables that the reading takes, are together of bulk at most 1048576: NARROWER than '..Said'. Prove '..Said' where nothing that the law and all that it calls make is longer than what came in: it says more and counts as full. Else prove '..UptoSaid'. A law counts once. -/
mutual
def uptoBulk {H : Type} : DataW H → Nat
  | .lit (.string bytes) => bytes.length + 1
  | .lit _ => 1
  | .nil => 1
  | .ptr d => uptoBulk d + 1
  | .slice elems spare => uptoBulkAll elems + uptoBulkAll spare + 1
  | .agg parts => uptoBulkAll parts + 1
  | .iface _ d => uptoBulk d + 1
  | .map entries => uptoBulkEntries entries + 1
  | .held _ => 1
def uptoBulkAll {H : Type} : List (DataW H) → Nat
  | [] => 0
  | d :: r => uptoBulk d + uptoBulkAll r
def uptoBulkEntries {H : Type} : List (Lit × DataW H) → Nat
  | [] => 0
  | x :: r => uptoBulkEntry x + uptoBulkEntries r
def uptoBulkEntry {H : Type} : Lit × DataW H → Nat
  | (.string bytes, d) => bytes.length + uptoBulk d + 1
  | (_, d) => uptoBulk d + 1
 end
def uptoSmall : (H : Type) → List (DataW H) → Bool := fun _ ds => decide (uptoBulkAll ds ≤ 1048576)
def OpenSpec.upto (s : _root_.Go.ChangeSpec) : _root_.Go.OpenSpec := { _root_.Go.OpenSpec.ofChange s with cond := some uptoSmall }

/-- 'tumuluslaw06.ImageHeaps', WHERE WHAT IT READS IS OF BULK AT MOST 1048576: true; the input reads as it did. -/
def imageHeapsUptoRow : OpenClaim := { program := "ytlnmmklpccppmaagreatdoor", sum := "e1ffd075253e5681a5e032f47e2bfcd289d36fdbff7f77502b5eb8fb90f79e7d", func := "tumulus/tumuluslaw06.ImageHeaps", spec := "imageHeaps", unfollowed := true, recurses := true, named := ["math/bits.deBruijn64tab"], apart := false, laid := [("math/bits.deBruijn64tab", laid_math_bits_deBruijn64tab)], narrowed := true }
def ImageHeapsUptoSaid : Prop := imageHeapsUptoRow.holds Tryz.pinned (OpenSpec.upto imageHeapsSpec)

/-- 'tumuluslaw06.ImageStates', WHERE WHAT IT READS IS OF BULK AT MOST 1048576: true; the input reads as it did. -/
def imageStatesUptoRow : OpenClaim := { program := "ytlnmmklpccppmaagreatdoor", sum := "e1ffd075253e5681a5e032f47e2bfcd289d36fdbff7f77502b5eb8fb90f79e7d", func := "tumulus/tumuluslaw06.ImageStates", spec := "imageStates", unfollowed := true, recurses := true, named := ["math/bits.deBruijn64tab"], apart := false, laid := [("math/bits.deBruijn64tab", laid_math_bits_deBruijn64tab)], narrowed := true }
def ImageStatesUptoSaid : Prop := imageStatesUptoRow.holds Tryz.pinned (OpenSpec.upto imageStatesSpec)

/-- 'tumuluslaw06.ImageReads', WHERE WHAT IT READS IS OF BULK AT MOST 1048576: true; the input reads as it did. -/
def imageReadsUptoRow : OpenClaim := { program := "ytlnmmklpccppmaagreatdoor", sum := "e1ffd075253e5681a5e032f47e2bfcd289d36fdbff7f77502b5eb8fb90f79e7d", func := "tumulus/tumuluslaw06.ImageReads", spec := "imageReads", unfollowed := true, recurses := true, named := ["math/bits.deBruijn64tab"], apart := false, laid := [("math/bits.deBruijn64tab", laid_math_bits_deBruijn64tab)], narrowed := true }
def ImageReadsUptoSaid : Prop := imageReadsUptoRow.holds Tryz.pinned (OpenSpec.upto imageReadsSpec)

/-- 'tumuluslaw06.ImageMore', WHERE WHAT IT READS IS OF BULK AT MOST 1048576: true; the input reads as it did. -/
def imageMoreUptoRow : OpenClaim := { program := "ytlnmmklpccppmaagreatdoor", sum := "e1ffd075253e5681a5e032f47e2bfcd289d36fdbff7f77502b5eb8fb90f79e7d", func := "tumulus/tumuluslaw06.ImageMore", spec := "imageMore", unfollowed := true, recurses := true, named := ["math/bits.deBruijn64tab"], apart := false, laid := [("math/bits.deBruijn64tab", laid_math_bits_deBruijn64tab)], narrowed := true }
def ImageMoreUptoSaid : Prop := imageMoreUptoRow.holds Tryz.pinned (OpenSpec.upto imageMoreSpec)

/-- 'tumuluslaw06.ImageGoes', WHERE WHAT IT READS IS OF BULK AT MOST 1048576: true; the input reads as it did. -/
def imageGoesUptoRow : OpenClaim := { program := "ytlnmmklpccppmaagreatdoor", sum := "e1ffd075253e5681a5e032f47e2bfcd289d36fdbff7f77502b5eb8fb90f79e7d", func := "tumulus/tumuluslaw06.ImageGoes", spec := "imageGoes", unfollowed := true, recurses := true, named := ["math/bits.deBruijn64tab"], apart := false, laid := [("math/bits.deBruijn64tab", laid_math_bits_deBruijn64tab)], narrowed := true }
def ImageGoesUptoSaid : Prop := imageGoesUptoRow.holds Tryz.pinned (OpenSpec.upto imageGoesSpec)

/-- 'tumuluslaw06.ImageApart', WHERE WHAT IT READS IS OF BULK AT MOST 1048576: true; the input reads as it did. -/
def imageApartUptoRow : OpenClaim := { program := "ytlnmmklpccppmaagreatdoor", sum := "e1ffd075253e5681a5e032f47e2bfcd289d36fdbff7f77502b5eb8fb90f79e7d", func := "tumulus/tumuluslaw06.ImageApart", spec := "imageApart", unfollowed := true, recurses := true, named := ["math/bits.deBruijn64tab"], apart := false, laid := [("math/bits.deBruijn64tab", laid_math_bits_deBruijn64tab)], narrowed := true }
def ImageApartUptoSaid : Prop := imageApartUptoRow.holds Tryz.pinned (OpenSpec.upto imageApartSpec)

end Rows
end Go.Proofs.YtlnmmklpccppmaaGreatDoor
